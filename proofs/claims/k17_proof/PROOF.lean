import PyProof.Rows.All
import Wide.All
import OpenK.AllK
import Wide.FinOn
import HandS.ForMost
import HandS.Deep
import HandS.IsInst
import HandS.Conv
import HandS.Codes
import HandS.Zip
import KE.GoesEnum
import HandS.DictComp
import KE.KDictPairs
import PyProof.WalksMore
import HandS.SortKw
import HandS.Wide
import HandS.TupLen
import HandS.Head0
import HandS.Head1
import HandS.Head2
import HandS.HeadEnd
import HandS.HeadHook1
import HandS.TupAny
import HandS.Text
import KE.KUnpackStar
import HandS.StrMore
import HandS.RaiseMore
import HandS.WordsExc
import HandS.FStr
import HandS.ExcIs
import HandS.FStrTup
import HandS.TupMul
import HandS.TupLe
import HandS.TupSets
import HandS.Iter
import KE.GoesRaise
import PySem.Challenge.RW_icehouse_k17_texts_refused
set_option Elab.async false
set_option linter.all false
set_option maxRecDepth 100000
set_option maxHeartbeats 4000000
/-! pure data, how it lies in the abstract heap, readings that speak of data alone -/
namespace Ice
open PySem PySem.Spec PyProof.Rows L2

/-- data; raw: a value of which nothing is said -/
inductive D where
  | non
  | bl (b : Bool)
  | int (i : Int)
  | str (x : Str)
  | tup (ds : List D)
  | lst (ds : List D)
  | dic (ks : List (List Key)) (ds : List D)
  /- a tuple of the written part -/
  | wt (ds : List D)
  /- a list that nobody changes -/
  | fz (ds : List D)
  | raw (v : V)

/-- a list that stays as it is -/
def FzL (K : PySem.W.Frag) (H : Hp) (a : Addr) (xs : List V) : Prop :=
  (∃ o, H a = some (.frz o (.lst xs))) ∨ ∃ (o : Obj) (its : Array Value) (n : Nat), K.lookup a = some o ∧ o.cls = .type "list" ∧ o.dict = none ∧ o.data = .seq its n ∧ its.size ≤ sizeLine ∧ Vals xs its.toList
theorem FzL.sq {K : PySem.W.Frag} {H : Hp} {a : Addr} {xs : List V} (h : FzL K H a xs) : SqL K H a xs := h.elim (fun z => .inl (.inr z)) .inr

/- lists and dicts whose addresses bear ok -/
mutual
inductive Rep (K : PySem.W.Frag) (H : Hp) (ok : Addr → Prop) : V → D → Prop
  | non : Rep K H ok .non .non
  | bl (b : Bool) : Rep K H ok (.bl b) (.bl b)
  | int (i : Int) : Rep K H ok (.int i) (.int i)
  | str (x : Str) : Rep K H ok (.str x) (.str x)
  | raw (v : V) : Rep K H ok v (.raw v)
  | tup {a : Addr} {vs : List V} {ds : List D} : H a = some (.tup vs) → Reps K H ok vs ds → Rep K H ok (.ref a) (.tup ds)
  | wt {a : Addr} {vs : List V} {ds : List D} : SqT K H a vs → Reps K H ok vs ds → Rep K H ok (.ref a) (.wt ds)
  | fz {a : Addr} {vs : List V} {ds : List D} : FzL K H a vs → Reps K H ok vs ds → Rep K H ok (.ref a) (.fz ds)
  | lst {a : Addr} {vs : List V} {ds : List D} : ok a → H a = some (.lst vs) → Reps K H ok vs ds → Rep K H ok (.ref a) (.lst ds)
  | dic {a : Addr} {vs : List V} {ks : List (List Key)} {ds : List D} : ok a → H a = some (.dT (ks.zip vs)) → ks.length = vs.length → Reps K H ok vs ds → Rep K H ok (.ref a) (.dic ks ds)
inductive Reps (K : PySem.W.Frag) (H : Hp) (ok : Addr → Prop) : List V → List D → Prop
  | nil : Reps K H ok [] []
  | cons {v : V} {vs : List V} {d : D} {ds : List D} : Rep K H ok v d → Reps K H ok vs ds → Reps K H ok (v :: vs) (d :: ds)
end

/-- what the law of keeping asks: everything at good addresses stays, and everything that never changes -/
def fixed : HO → Prop
  | .tup _ => True
  | .frz _ _ => True
  | _ => False
def Keeps (ok : Addr → Prop) (H H' : Hp) : Prop := ∀ a o, H a = some o → (ok a ∨ fixed o) → H' a = some o

theorem keeps_rd {ok : Addr → Prop} {H H' : Hp} {a : Addr} {o : HO} (k : Keeps ok H H') (g : ok a) (r : Rd H a o) : Rd H' a o := by
  rcases r with r | ⟨u, r⟩
  · exact .inl (k _ _ r (.inl g))
  · exact .inr ⟨u, k _ _ r (.inl g)⟩
theorem keeps_tup {K : PySem.W.Frag} {ok : Addr → Prop} {H H' : Hp} {a : Addr} {vs : List V} (k : Keeps ok H H') (r : SqT K H a vs) : SqT K H' a vs := by
  rcases r with (r | ⟨u, r⟩) | r
  · exact .inl (.inl (k _ _ r (.inr trivial)))
  · exact .inl (.inr ⟨u, k _ _ r (.inr trivial)⟩)
  · exact .inr r
theorem keeps_fz {K : PySem.W.Frag} {ok : Addr → Prop} {H H' : Hp} {a : Addr} {vs : List V} (k : Keeps ok H H') (r : FzL K H a vs) : FzL K H' a vs := r.elim (fun ⟨u, r⟩ => .inl ⟨u, k _ _ r (.inr trivial)⟩) .inr
mutual
theorem Rep.keeps {K : PySem.W.Frag} {ok ok' : Addr → Prop} {H H' : Hp} (k : Keeps ok H H') (g : ∀ a, ok a → ok' a) : ∀ (d : D) (v : V), Rep K H ok v d → Rep K H' ok' v d
  | .non, _, h => by cases h; exact .non
  | .bl b, _, h => by cases h; exact .bl b
  | .int i, _, h => by cases h; exact .int i
  | .str x, _, h => by cases h; exact .str x
  | .raw w, _, h => by cases h; exact .raw w
  | .tup ds, _, h => by
    cases h with
    | tup s r => exact .tup (k _ _ s (.inr trivial)) (Reps.keeps k g ds _ r)
  | .wt ds, _, h => by
    cases h with
    | wt s r => exact .wt (keeps_tup k s) (Reps.keeps k g ds _ r)
  | .fz ds, _, h => by
    cases h with
    | fz s r => exact .fz (keeps_fz k s) (Reps.keeps k g ds _ r)
  | .lst ds, _, h => by
    cases h with
    | lst o s r => exact .lst (g _ o) (k _ _ s (.inl o)) (Reps.keeps k g ds _ r)
  | .dic ks ds, _, h => by
    cases h with
    | dic o s e r => exact .dic (g _ o) (k _ _ s (.inl o)) e (Reps.keeps k g ds _ r)
theorem Reps.keeps {K : PySem.W.Frag} {ok ok' : Addr → Prop} {H H' : Hp} (k : Keeps ok H H') (g : ∀ a, ok a → ok' a) : ∀ (ds : List D) (vs : List V), Reps K H ok vs ds → Reps K H' ok' vs ds
  | [], _, h => by cases h; exact .nil
  | d :: ds, _, h => by
    cases h with
    | cons a r => exact .cons (Rep.keeps k g d _ a) (Reps.keeps k g ds _ r)
end
theorem Same.keeps {ok : Addr → Prop} {H H' : Hp} (s : Same H H') : Keeps ok H H' := fun a o e _ => s a o e

/- flat data: no list, no dict within -/
mutual
def flat : D → Bool
  | .tup ds => flats ds
  | .wt ds => flats ds
  | .fz ds => flats ds
  | .lst _ => false
  | .dic _ _ => false
  | _ => true
def flats : List D → Bool
  | [] => true
  | d :: ds => flat d && flats ds
end
mutual
theorem Rep.flat {K : PySem.W.Frag} {ok ok' : Addr → Prop} {H : Hp} : ∀ (d : D) (v : V), flat d = true → Rep K H ok v d → Rep K H ok' v d
  | .non, _, _, h => by cases h; exact .non
  | .bl b, _, _, h => by cases h; exact .bl b
  | .int i, _, _, h => by cases h; exact .int i
  | .str x, _, _, h => by cases h; exact .str x
  | .raw w, _, _, h => by cases h; exact .raw w
  | .tup ds, _, f, h => by
    cases h with
    | tup s r => exact .tup s (Reps.flat ds _ f r)
  | .wt ds, _, f, h => by
    cases h with
    | wt s r => exact .wt s (Reps.flat ds _ f r)
  | .fz ds, _, f, h => by
    cases h with
    | fz s r => exact .fz s (Reps.flat ds _ f r)
  | .lst ds, _, f, h => by cases f
  | .dic ks ds, _, f, h => by cases f
theorem Reps.flat {K : PySem.W.Frag} {ok ok' : Addr → Prop} {H : Hp} : ∀ (ds : List D) (vs : List V), flats ds = true → Reps K H ok vs ds → Reps K H ok' vs ds
  | [], _, _, h => by cases h; exact .nil
  | d :: ds, _, f, h => by
    have f' : (Ice.flat d && flats ds) = true := f
    rw [Bool.and_eq_true] at f'
    cases h with
    | cons a r => exact .cons (Rep.flat d _ f'.1 a) (Reps.flat ds _ f'.2 r)
end
theorem Reps.length {K : PySem.W.Frag} {ok : Addr → Prop} {H : Hp} : ∀ {vs : List V} {ds : List D}, Reps K H ok vs ds → vs.length = ds.length
  | _, _, .nil => rfl
  | _, _, .cons _ r => congrArg (· + 1) (Reps.length r)
theorem Reps.get {K : PySem.W.Frag} {ok : Addr → Prop} {H : Hp} : ∀ {vs : List V} {ds : List D} {i : Nat} {d : D}, Reps K H ok vs ds → ds[i]? = some d → ∃ v, vs[i]? = some v ∧ Rep K H ok v d
  | _, _, _, _, .nil, e => by simp at e
  | _, _, 0, _, .cons a _, e => by simp at e; subst e; exact ⟨_, rfl, a⟩
  | _, _, i + 1, _, .cons _ r, e => by
    obtain ⟨v, h1, h2⟩ := Reps.get (i := i) r (by simpa using e)
    exact ⟨v, by simpa using h1, h2⟩
theorem Reps.append {K : PySem.W.Frag} {ok : Addr → Prop} {H : Hp} : ∀ {vs ws : List V} {ds es : List D}, Reps K H ok vs ds → Reps K H ok ws es → Reps K H ok (vs ++ ws) (ds ++ es)
  | _, _, _, _, .nil, s => s
  | _, _, _, _, .cons a r, s => .cons a (Reps.append r s)
theorem Reps.of_get {K : PySem.W.Frag} {ok : Addr → Prop} {H : Hp} : ∀ {vs : List V} {ds : List D} {i : Nat} {v : V}, Reps K H ok vs ds → vs[i]? = some v → ∃ d, ds[i]? = some d ∧ Rep K H ok v d
  | _, _, _, _, .nil, e => by simp at e
  | _, _, 0, _, .cons a _, e => by simp at e; subst e; exact ⟨_, rfl, a⟩
  | _, _, i + 1, _, .cons _ r, e => by
    obtain ⟨v, h1, h2⟩ := Reps.of_get (i := i) r (by simpa using e)
    exact ⟨v, by simpa using h1, h2⟩
theorem Reps.reverse {K : PySem.W.Frag} {ok : Addr → Prop} {H : Hp} : ∀ {vs : List V} {ds : List D}, Reps K H ok vs ds → Reps K H ok vs.reverse ds.reverse
  | _, _, .nil => .nil
  | _, _, .cons a r => by
    rw [List.reverse_cons, List.reverse_cons]
    exact Reps.append (Reps.reverse r) (.cons a .nil)

/-! ### data as the library's own -/
mutual
def py : D → PyData
  | .non => .none
  | .bl b => .bool b
  | .int i => .int i
  | .str x => .str x
  | .tup ds => .tuple (pys ds)
  | .lst ds => .list (pys ds)
  | .wt ds => .tuple (pys ds)
  | .dic _ _ => .dict []
  | .raw _ => .dict []
  | .fz _ => .dict []
def pys : List D → List PyData
  | [] => []
  | d :: ds => py d :: pys ds
end
mutual
theorem Rep.dp {K : PySem.W.Frag} {ok : Addr → Prop} {H : Hp} : ∀ (d : D) (v : V), PyData.canLay0 (py d) = true → Rep K H ok v d → Dp K H v (py d)
  | .non, _, _, h => by cases h; exact .non
  | .bl b, _, _, h => by cases h; exact .bl b
  | .int i, _, _, h => by cases h; exact .int i
  | .str x, _, _, h => by cases h; exact .str x
  | .raw w, _, c, h => by cases c
  | .fz ds, _, c, h => by cases c
  | .tup ds, _, c, h => by
    cases h with
    | tup s r => exact .tup (SqT.of s) (Reps.dp ds _ c r)
  | .wt ds, _, c, h => by
    cases h with
    | wt s r => exact .tup s (Reps.dp ds _ c r)
  | .lst ds, _, c, h => by
    cases h with
    | lst o s r => exact .lst (SqL.of s) (Reps.dp ds _ c r)
  | .dic ks ds, _, c, h => by cases c
theorem Reps.dp {K : PySem.W.Frag} {ok : Addr → Prop} {H : Hp} : ∀ (ds : List D) (vs : List V), PyData.canLayAll0 (pys ds) = true → Reps K H ok vs ds → DpAll K H vs (pys ds)
  | [], _, _, h => by cases h; exact .nil
  | d :: ds, _, c, h => by
    have c' : (PyData.canLay0 (py d) && PyData.canLayAll0 (pys ds)) = true := c
    rw [Bool.and_eq_true] at c'
    cases h with
    | cons a r => exact .cons (Rep.dp d _ c'.1 a) (Reps.dp ds _ c'.2 r)
end

/-! ### the names' data, the readings -/
abbrev Sd := List (Option D)
def Rs (K : PySem.W.Frag) (H : Hp) (ok : Addr → Prop) (S : Sd) (σ : L2.St) : Prop := ∀ (i : Nat) (d : D), S[i]? = some (some d) → ∃ v, σ[i]? = some (some v) ∧ Rep K H ok v d
theorem Rs.keeps {K : PySem.W.Frag} {ok ok' : Addr → Prop} {H H' : Hp} {S : Sd} {σ : L2.St} (k : Keeps ok H H') (g : ∀ a, ok a → ok' a) (r : Rs K H ok S σ) : Rs K H' ok' S σ := fun i d e => by
  obtain ⟨v, h1, h2⟩ := r i d e
  exact ⟨v, h1, h2.keeps k g⟩
/-- good before, or new -/
def ex (ok : Addr → Prop) (H : Hp) : Addr → Prop := fun a => ok a ∨ H a = none
theorem ex_of {ok : Addr → Prop} {H : Hp} : ∀ a, ok a → ex ok H a := fun _ h => .inl h
theorem ex_ex {ok : Addr → Prop} {H H1 : Hp} (s : Same H H1) : ∀ a, ex ok H1 a → ex ok H a := fun a h => h.elim .inl fun n => .inr (s.free n)
theorem ex_ex2 {ok : Addr → Prop} {H H1 : Hp} (s : Same H H1) : ∀ a, ex (ex ok H) H1 a → ex ok H a := fun a h => h.elim (fun z => z) fun n => .inr (s.free n)

abbrev Mi := Sd → Option D
abbrev Mt := Sd → Option Bool
abbrev Ma := Sd → Option (List D)
def tE (K : PySem.W.Frag) (m : Mi) : TE := fun σ H Q => ∃ ok S d, Rs K H ok S σ ∧ m S = some d ∧ ∀ v H', Same H H' → Rep K H' (ex ok H) v d → Q v H'
def tT (K : PySem.W.Frag) (m : Mt) : TT := fun σ H Q => ∃ ok S b, Rs K H ok S σ ∧ m S = some b ∧ ∀ H', Same H H' → Q b H'
def tA (K : PySem.W.Frag) (m : Ma) : TA := fun σ H Q => ∃ ok S ds, Rs K H ok S σ ∧ m S = some ds ∧ ∀ vs H', Same H H' → Reps K H' (ex ok H) vs ds → Q vs H'

abbrev Ev (X : Cx) (e : Expr) (m : Mi) : Prop := PE X e (tE X.K m)
abbrev Et (X : Cx) (e : Expr) (m : Mt) : Prop := PT X e (tT X.K m)
abbrev Ew (X : Cx) (e : Expr) (m : Mt) : Prop := PW X e (tT X.K m)
abbrev Ea (X : Cx) (es : List Expr) (m : Ma) : Prop := PA X es (tA X.K m)

theorem PE.imp {X : Cx} {e : Expr} {t t' : TE} (h : PE X e t) (g : ∀ σ H Q, t' σ H Q → t σ H Q) : PE X e t' := ⟨fun pins s σ H Q I q => h.run pins s σ H Q I (g σ H Q q)⟩
theorem PT.imp {X : Cx} {e : Expr} {t t' : TT} (h : PT X e t) (g : ∀ σ H Q, t' σ H Q → t σ H Q) : PT X e t' := ⟨fun pins s σ H Q I q => h.run pins s σ H Q I (g σ H Q q)⟩
theorem PW.imp {X : Cx} {e : Expr} {t t' : TT} (h : PW X e t) (g : ∀ σ H Q, t' σ H Q → t σ H Q) : PW X e t' := ⟨fun wh pins s σ H Q I q => h.run wh pins s σ H Q I (g σ H Q q)⟩
theorem PA.imp {X : Cx} {es : List Expr} {t t' : TA} (h : PA X es t) (g : ∀ σ H Q, t' σ H Q → t σ H Q) : PA X es t' := ⟨fun pos pins s σ H Q I q => h.run pos pins s σ H Q I (g σ H Q q)⟩
theorem PS.imp {X : Cx} {st : Stmt} {t t' : TS} (h : PS X st t) (g : ∀ D σ H, t' D σ H → t D σ H) : PS X st t' := ⟨fun pins s σ H D I q => h.run pins s σ H D I (g D σ H q)⟩
theorem PSs.imp {X : Cx} {st : List Stmt} {t t' : TS} (h : PSs X st t) (g : ∀ D σ H, t' D σ H → t D σ H) : PSs X st t' := ⟨fun pins s σ H D I q => h.run pins s σ H D I (g D σ H q)⟩
theorem PI.imp {X : Cx} {tg e : Expr} {t t' : TI} (h : PI X tg e t) (g : ∀ σ H Q, t' σ H Q → t σ H Q) : PI X tg e t' := ⟨fun pins s σ H Q I q => h.run pins s σ H Q I (g σ H Q q)⟩

/-! ### mirrors' words -/
def mV (i : Nat) : Mi := fun S => match S[i]? with
  | some (some d) => some d
  | _ => none
def mC (d : D) : Mi := fun _ => some d
def m2 (f : D → D → Option D) (a b : Mi) : Mi := fun S => (a S).bind fun x => (b S).bind fun y => f x y
def m1 (f : D → Option D) (a : Mi) : Mi := fun S => (a S).bind f
def mA (f : List D → Option D) (a : Ma) : Mi := fun S => (a S).bind f
def aNil : Ma := fun _ => some []
def aCons (m : Mi) (r : Ma) : Ma := fun S => (m S).bind fun x => (r S).bind fun xs => some (x :: xs)

section
variable {X : Cx} {e a b : Expr} {es : List Expr} {ma mb : Mi} {mr : Ma} {pos : Pos}
theorem ev_v (i : Nat) {x : Str} (hN : X.N[i]? = some x := by rfl) (hv : Vis X.env.scope x := by first | exact Or.inl rfl | exact Or.inr (Or.inl rfl) | exact Or.inr (Or.inr rfl)) (hd : (x == ("__debug__" : Str)) = false := by decide)
    (hcd : (x == ("__classdict__" : Str)) = false := by decide) : Ev X (.Name x pos) (mV i) := by
  refine PE.imp (pe_var hN hv hd hcd) fun σ H Q h => ?_
  obtain ⟨ok, S, d, r, m, q⟩ := h
  unfold mV at m
  split at m
  · next d' e' =>
    cases m
    obtain ⟨v, h1, h2⟩ := r i _ e'
    exact ⟨v, h1, q v H (Same.refl H) (h2.keeps (Same.keeps (Same.refl H)) ex_of)⟩
  · cases m
theorem ev_c {v : V} {d : D} (h : PE X e (tC v)) (r : ∀ H ok, Rep X.K H ok v d) : Ev X e (mC d) := by
  refine PE.imp h fun σ H Q hh => ?_
  obtain ⟨ok, S, d', r', m, q⟩ := hh
  cases m
  exact q v H (Same.refl H) (r _ _)
theorem ev_int {i j} : Ev X (.Constant (.int i) j pos) (mC (.int i)) := ev_c pe_int fun _ _ => .int i
theorem ev_bl {c j} : Ev X (.Constant (.bool c) j pos) (mC (.bl c)) := ev_c pe_bl fun _ _ => .bl c
theorem ev_non {j} : Ev X (.Constant .none j pos) (mC .non) := ev_c pe_non fun _ _ => .non
theorem ev_str {x j} : Ev X (.Constant (.str x) j pos) (mC (.str x)) := ev_c pe_str fun _ _ => .str x
/-- a constant of the module: an int -/
theorem ev_gi {x : Str} {i : Int} (hg : Gl X x) (hm : ∃ t, X.mg x = some (.int i t)) (hd : (x == ("__debug__" : Str)) = false := by decide) : Ev X (.Name x pos) (mC (.int i)) := by
  obtain ⟨t, hm⟩ := hm
  exact ev_c (pe_glob hg hm (v := .int i) ⟨t, rfl⟩ hd) fun _ _ => .int i
/-- a constant of the module: a tuple of the written part -/
theorem ev_gr {x : Str} {d : D} (hg : Gl X x) (hm : ∃ p, X.mg x = some (.ref p) ∧ ∀ H ok, Rep X.K H ok (.ref p) d) (hd : (x == ("__debug__" : Str)) = false := by decide) : Ev X (.Name x pos) (mC d) := by
  obtain ⟨p, hm, r⟩ := hm
  exact ev_c (pe_glob hg hm (v := .ref p) rfl hd) r

/-- two readings in a row -/
theorem bind2 {K : PySem.W.Frag} {σ : L2.St} {H : Hp} {ok : Addr → Prop} {S : Sd} {x y : D} {R : V → V → Hp → Prop} (r : Rs K H ok S σ) (h1 : ma S = some x) (h2 : mb S = some y)
    (h : ∀ vx vy H2, Same H H2 → Rep K H2 (ex ok H) vx x → Rep K H2 (ex ok H) vy y → R vx vy H2) : tE K ma σ H fun vx H1 => tE K mb σ H1 fun vy H2 => R vx vy H2 :=
  ⟨ok, S, x, r, h1, fun vx H1 s1 r1 => ⟨ok, S, y, r.keeps (Same.keeps s1) (fun _ z => z), h2, fun vy H2 s2 r2 => h vx vy H2 (s1.trans s2) (r1.keeps (Same.keeps s2) fun _ z => z) (r2.keeps (Same.keeps (Same.refl _)) (ex_ex s1))⟩⟩
theorem bind_some {α β : Type} {o : Option α} {f : α → Option β} {z : β} (h : o.bind f = some z) : ∃ x, o = some x ∧ f x = some z := by
  cases o with
  | none => cases h
  | some x => exact ⟨x, rfl, h⟩
/-- an operator by values, over data -/
def OpD (K : PySem.W.Frag) (r : R2) (f : D → D → Option D) : Prop := ∀ (vx vy : V) (x y z : D) (H : Hp) (ok : Addr → Prop) (Q : VK), Rep K H ok vx x → Rep K H ok vy y → f x y = some z → (∀ v H', Same H H' → Rep K H' (ex ok H) v z → Q v H') → r vx vy H Q
def UnD (K : PySem.W.Frag) (r : V → Hp → VK → Prop) (f : D → Option D) : Prop := ∀ (vx : V) (x z : D) (H : Hp) (ok : Addr → Prop) (Q : VK), Rep K H ok vx x → f x = some z → (∀ v H', Same H H' → Rep K H' (ex ok H) v z → Q v H') → r vx H Q
def CaD (K : PySem.W.Frag) (r : List V → Hp → VK → Prop) (f : List D → Option D) : Prop := ∀ (vs : List V) (ds : List D) (z : D) (H : Hp) (ok : Addr → Prop) (Q : VK), Reps K H ok vs ds → f ds = some z → (∀ v H', Same H H' → Rep K H' (ex ok H) v z → Q v H') → r vs H Q
theorem back {K : PySem.W.Frag} {H H2 : Hp} {ok : Addr → Prop} {z : D} {Q : VK} (s : Same H H2) (q : ∀ v H', Same H H' → Rep K H' (ex ok H) v z → Q v H') : ∀ v H', Same H2 H' → Rep K H' (ex (ex ok H) H2) v z → Q v H' :=
  fun v H' s' r => q v H' (s.trans s') (r.keeps (Same.keeps (Same.refl _)) (ex_ex2 s))
theorem t_op {K : PySem.W.Frag} {r : R2} {f : D → D → Option D} {σ : L2.St} {H : Hp} {Q : VK} (hf : OpD K r f) (h : tE K (m2 f ma mb) σ H Q) : tOp r (tE K ma) (tE K mb) σ H Q := by
  obtain ⟨ok, S, d, rs, m, q⟩ := h
  obtain ⟨x, h1, m⟩ := bind_some m
  obtain ⟨y, h2, m⟩ := bind_some m
  exact bind2 rs h1 h2 fun vx vy H2 s rx ry => hf vx vy x y d H2 _ Q rx ry m (back s q)
theorem t_un {K : PySem.W.Frag} {r : V → Hp → VK → Prop} {f : D → Option D} {σ : L2.St} {H : Hp} {Q : VK} (hf : UnD K r f) (h : tE K (m1 f ma) σ H Q) : tE K ma σ H fun v H1 => r v H1 Q := by
  obtain ⟨ok, S, d, rs, m, q⟩ := h
  obtain ⟨x, h1, m⟩ := bind_some m
  exact ⟨ok, S, x, rs, h1, fun vx H1 s rx => hf vx x d H1 _ Q rx m (back s q)⟩
theorem ev_bin {op : Operator} {r : R2} {f : D → D → Option D} (ho : OpR X (binaryOp op) r) (hf : OpD X.K r f) (ha : Ev X a ma) (hb : Ev X b mb) : Ev X (.BinOp a op b pos) (m2 f ma mb) :=
  PE.imp (pe_op ho ha hb) fun _ _ _ h => t_op hf h
theorem ev_una {op : UnaryOp} {r : V → Hp → VK → Prop} {f : D → Option D} (ho : UnR X (unaryOp op) r) (hf : UnD X.K r f) (ha : Ev X a ma) : Ev X (.UnaryOp op a pos) (m1 f ma) :=
  PE.imp (pe_un ho ha) fun _ _ _ h => t_un hf h
theorem ev_cmp {op : CmpOp} {r : R2} {f : D → D → Option D} (ho : OpR X (compareOp op) r) (hf : OpD X.K r f) (ha : Ev X a ma) (hb : Ev X b mb) (hm : behindInMarks op b = false := by first | exact nomark _ | rfl) : Ev X (.Compare a [op] [b] pos) (m2 f ma mb) :=
  PE.imp (pe_cmpR ho ha hb hm) fun _ _ _ h => t_op hf h
theorem ev_sub {r : R2} {f : D → D → Option D} (hr : IxR X r) (hf : OpD X.K r f) (ha : Ev X a ma) (hb : Ev X b mb) (hs : PlainIx b := by exact fun _ _ => rfl) : Ev X (.Subscript a b pos) (m2 f ma mb) :=
  PE.imp (pe_ix hr ha hb hs) fun _ _ _ h => t_op hf h

/-! arguments -/
theorem ea_nil : Ea X [] aNil := PA.imp pa_nil fun σ H Q h => by
  obtain ⟨ok, S, ds, rs, m, q⟩ := h
  cases m
  exact q [] H (Same.refl H) .nil
theorem ea_cons (ha : Ev X e ma) (hr : Ea X es mr) (hs : starEach (e :: es) X.env = (false, eval e X.env) :: starEach es X.env := by rfl) : Ea X (e :: es) (aCons ma mr) := PA.imp (pa_cons ha hr hs) fun σ H Q h => by
  obtain ⟨ok, S, ds, rs, m, q⟩ := h
  obtain ⟨x, h1, m⟩ := bind_some m
  obtain ⟨xs, h2, m⟩ := bind_some m
  cases m
  exact ⟨ok, S, x, rs, h1, fun v H1 s1 r1 => ⟨ok, S, xs, rs.keeps (Same.keeps s1) (fun _ z => z), h2, fun vs H2 s2 r2 =>
    q _ H2 (s1.trans s2) (.cons (r1.keeps (Same.keeps s2) fun _ z => z) (r2.keeps (Same.keeps (Same.refl _)) (ex_ex s1)))⟩⟩
theorem t_ca {K : PySem.W.Frag} {r : List V → Hp → VK → Prop} {f : List D → Option D} {σ : L2.St} {H : Hp} {Q : VK} (hf : CaD K r f) (h : tE K (mA f mr) σ H Q) : tA K mr σ H fun vs H1 => r vs H1 Q := by
  obtain ⟨ok, S, d, rs, m, q⟩ := h
  obtain ⟨xs, h1, m⟩ := bind_some m
  exact ⟨ok, S, xs, rs, h1, fun vs H1 s r1 => hf vs xs d H1 _ Q r1 m (back s q)⟩
end
end Ice

/-! operations over data -/
namespace Ice
open PySem PySem.Spec PyProof.Rows L2

def addD : D → D → Option D
  | .int i, .int j => some (.int (i + j))
  | .lst xs, .lst ys => if xs.length + ys.length ≤ 1000000 then some (.lst (xs ++ ys)) else none
  | _, _ => none
def subD : D → D → Option D
  | .int i, .int j => some (.int (i - j))
  | _, _ => none
def mulD : D → D → Option D
  | .int i, .int j => if (-18446744073709551616 < i ∧ i < 18446744073709551616) ∨ (-18446744073709551616 < j ∧ j < 18446744073709551616) then some (.int (i * j)) else none
  | _, _ => none
def divD : D → D → Option D
  | .int i, .int j => if 0 < j ∧ j < 1073741824 then some (.int (i / j)) else none
  | _, _ => none
def modD : D → D → Option D
  | .int i, .int j => if 0 < j then some (.int (i % j)) else none
  | _, _ => none
def powD : D → D → Option D
  | .int i, .int j => if 0 ≤ j ∧ j ≤ 64 ∧ i.natAbs < 18446744073709551616 then some (.int (i ^ j.toNat)) else none
  | _, _ => none
def negD : D → Option D
  | .int i => some (.int (-i))
  | _ => none
def ltD : D → D → Option D
  | .int i, .int j => some (.bl (decide (i < j)))
  | _, _ => none
def leD : D → D → Option D
  | .int i, .int j => some (.bl (decide (i ≤ j)))
  | _, _ => none
def gtD : D → D → Option D
  | .int i, .int j => some (.bl (decide (j < i)))
  | _, _ => none
def geD : D → D → Option D
  | .int i, .int j => some (.bl (decide (j ≤ i)))
  | _, _ => none
def eqD (x y : D) : Option D := if SeqAt.shaped (py x) = true ∧ SeqAt.shaped (py y) = true then some (.bl (PyData.eqv (py x) (py y))) else none
def neD (x y : D) : Option D := if SeqAt.shaped (py x) = true ∧ SeqAt.shaped (py y) = true then some (.bl (!PyData.eqv (py x) (py y))) else none
def isN : D → Option Bool
  | .raw _ => none
  | .non => some true
  | _ => some false
def isD : D → D → Option D
  | x, .non => (isN x).map .bl
  | _, _ => none
def isnD : D → D → Option D
  | x, .non => (isN x).map fun b => .bl (!b)
  | _, _ => none
def inL : D → D → Option D
  | x, .lst ds => if SeqAt.shaped (py x) = true ∧ SeqAt.shaped (.list (pys ds)) = true then some (.bl ((pys ds).any fun z => PyData.eqv z (py x))) else none
  | _, _ => none
def ninL : D → D → Option D
  | x, .lst ds => if SeqAt.shaped (py x) = true ∧ SeqAt.shaped (.list (pys ds)) = true then some (.bl (!(pys ds).any fun z => PyData.eqv z (py x))) else none
  | _, _ => none
/-- a key of ints and texts -/
def keyOf : List D → Option (List Key)
  | [] => some []
  | .int i :: r => (keyOf r).map fun k => .inl i :: k
  | .str x :: r => (keyOf r).map fun k => .inr x :: k
  | _ :: _ => none
def inK : D → D → Option D
  | .tup xs, .dic ks _ => (keyOf xs).map fun k => .bl (ks.any fun j => decide (j = k))
  | _, _ => none
def ninK : D → D → Option D
  | .tup xs, .dic ks _ => (keyOf xs).map fun k => .bl (!ks.any fun j => decide (j = k))
  | _, _ => none
def ixD : D → D → Option D
  | .tup ds, .int i => atI ds i
  | .lst ds, .int i => atI ds i
  | .fz ds, .int i => atI ds i
  | _, _ => none
def tru : D → Option Bool
  | .non => some false
  | .bl b => some b
  | .int i => some (i != 0)
  | .tup ds => some (!ds.isEmpty)
  | .lst ds => some (!ds.isEmpty)
  | _ => none

section
variable {K : PySem.W.Frag}
theorem rep_here {H : Hp} {ok : Addr → Prop} {v : V} {d : D} (r : Rep K H ok v d) : Rep K H (ex ok H) v d := r.keeps (Same.keeps (Same.refl H)) ex_of
theorem same_new {H : Hp} {p : Addr} {o : HO} (h : H p = none) : Same H (upd H p o) := fun b x e => by
  rw [upd_ne (ne_of_none e h)]
  exact e
theorem odI {g : Int → Int → V} {f : D → D → Option D} {C : Int → Int → Prop} (h : ∀ x y z, f x y = some z → ∃ i j, x = .int i ∧ y = .int j ∧ C i j ∧ ∀ H ok, Rep K H ok (g i j) z) : OpD K (rI C g) f := fun vx vy x y z H ok Q rx ry e q => by
  obtain ⟨i, j, rfl, rfl, c, r⟩ := h x y z e
  cases rx
  cases ry
  exact ⟨i, j, rfl, rfl, c, q _ H (Same.refl H) (r _ _)⟩
theorem odI0 {g : Int → Int → V} {f : D → D → Option D} (h : ∀ x y z, f x y = some z → ∃ i j, x = .int i ∧ y = .int j ∧ ∀ H ok, Rep K H ok (g i j) z) : OpD K (rI0 g) f := fun vx vy x y z H ok Q rx ry e q => by
  obtain ⟨i, j, rfl, rfl, r⟩ := h x y z e
  cases rx
  cases ry
  exact ⟨i, j, rfl, rfl, q _ H (Same.refl H) (r _ _)⟩
theorem od_sub : OpD K (rI0 fun i j => .int (i - j)) subD := odI0 fun x y z e => by
  unfold subD at e
  split at e
  · next i j => cases e; exact ⟨i, j, rfl, rfl, fun _ _ => .int _⟩
  · cases e
theorem od_lt : OpD K (rI0 fun i j => .bl (decide (i < j))) ltD := odI0 fun x y z e => by
  unfold ltD at e
  split at e
  · next i j => cases e; exact ⟨i, j, rfl, rfl, fun _ _ => .bl _⟩
  · cases e
theorem od_le : OpD K (rI0 fun i j => .bl (decide (i ≤ j))) leD := odI0 fun x y z e => by
  unfold leD at e
  split at e
  · next i j => cases e; exact ⟨i, j, rfl, rfl, fun _ _ => .bl _⟩
  · cases e
theorem od_gt : OpD K (rI0 fun i j => .bl (decide (j < i))) gtD := odI0 fun x y z e => by
  unfold gtD at e
  split at e
  · next i j => cases e; exact ⟨i, j, rfl, rfl, fun _ _ => .bl _⟩
  · cases e
theorem od_ge : OpD K (rI0 fun i j => .bl (decide (j ≤ i))) geD := odI0 fun x y z e => by
  unfold geD at e
  split at e
  · next i j => cases e; exact ⟨i, j, rfl, rfl, fun _ _ => .bl _⟩
  · cases e
theorem od_mul : OpD K (rI CMul fun i j => .int (i * j)) mulD := odI fun x y z e => by
  unfold mulD at e
  split at e
  · next i j =>
    by_cases c : (-18446744073709551616 < i ∧ i < 18446744073709551616) ∨ (-18446744073709551616 < j ∧ j < 18446744073709551616)
    · rw [if_pos c] at e
      cases e
      exact ⟨i, j, rfl, rfl, c, fun _ _ => .int _⟩
    · rw [if_neg c] at e
      cases e
  · cases e
theorem od_div : OpD K (rI CDiv fun i j => .int (i / j)) divD := odI fun x y z e => by
  unfold divD at e
  split at e
  · next i j =>
    by_cases c : 0 < j ∧ j < 1073741824
    · rw [if_pos c] at e
      cases e
      exact ⟨i, j, rfl, rfl, c, fun _ _ => .int _⟩
    · rw [if_neg c] at e
      cases e
  · cases e
theorem od_mod : OpD K (rI (fun _ j => 0 < j) fun i j => .int (i % j)) modD := odI fun x y z e => by
  unfold modD at e
  split at e
  · next i j =>
    by_cases c : 0 < j
    · rw [if_pos c] at e
      cases e
      exact ⟨i, j, rfl, rfl, c, fun _ _ => .int _⟩
    · rw [if_neg c] at e
      cases e
  · cases e
theorem od_pow : OpD K (rI CPow fun i j => .int (i ^ j.toNat)) powD := odI fun x y z e => by
  unfold powD at e
  split at e
  · next i j =>
    by_cases c : 0 ≤ j ∧ j ≤ 64 ∧ i.natAbs < 18446744073709551616
    · rw [if_pos c] at e
      cases e
      exact ⟨i, j, rfl, rfl, ⟨c.1, by omega, c.2.2⟩, fun _ _ => .int _⟩
    · rw [if_neg c] at e
      cases e
  · cases e
theorem ud_neg : UnD K (rU fun i => .int (-i)) negD := fun vx x z H ok Q rx e q => by
  unfold negD at e
  split at e
  · next i =>
    cases e
    cases rx
    exact ⟨i, rfl, q _ H (Same.refl H) (.int _)⟩
  · cases e
theorem od_add : OpD K (fun x y H Q => (rI0 fun i j => .int (i + j)) x y H Q ∨ rCat x y H Q) addD := fun vx vy x y z H ok Q rx ry e q => by
  unfold addD at e
  split at e
  · next i j =>
    cases e
    cases rx
    cases ry
    exact .inl ⟨i, j, rfl, rfl, q _ H (Same.refl H) (.int _)⟩
  · next xs ys =>
    by_cases c : xs.length + ys.length ≤ 1000000
    · rw [if_pos c] at e
      cases e
      cases rx with
      | lst o1 h1 r1 =>
        cases ry with
        | lst o2 h2 r2 =>
          refine .inr ⟨_, _, _, _, rfl, rfl, h1, h2, ?_, fun p hp => ?_⟩
          · rw [r1.length, r2.length]
            exact Nat.le_trans c (by decide)
          · exact q _ _ (same_new hp) (.lst (.inr hp) upd_same (Reps.append (r1.keeps (Same.keeps (same_new hp)) ex_of) (r2.keeps (Same.keeps (same_new hp)) ex_of)))
    · rw [if_neg c] at e
      cases e
  · cases e
theorem od_eq : OpD K (rEqD K) eqD := fun vx vy x y z H ok Q rx ry e q => by
  unfold eqD at e
  split at e
  · next c =>
    cases e
    exact ⟨_, _, rx.dp x _ (SeqAt.canLay_of_shaped c.1), ry.dp y _ (SeqAt.canLay_of_shaped c.2), c.1, c.2, q _ H (Same.refl H) (.bl _)⟩
  · cases e
theorem od_ne : OpD K (rNeD K) neD := fun vx vy x y z H ok Q rx ry e q => by
  unfold neD at e
  split at e
  · next c =>
    cases e
    exact ⟨_, _, rx.dp x _ (SeqAt.canLay_of_shaped c.1), ry.dp y _ (SeqAt.canLay_of_shaped c.2), c.1, c.2, q _ H (Same.refl H) (.bl _)⟩
  · cases e
theorem isN_ok {H : Hp} {ok : Addr → Prop} {v : V} {x : D} {b : Bool} (r : Rep K H ok v x) (e : isN x = some b) : decide (v = .non) = b := by
  cases r <;> cases e <;> rfl
theorem od_is : OpD K (fun x y H Q => y = .non ∧ Q (.bl (decide (x = .non))) H) isD := fun vx vy x y z H ok Q rx ry e q => by
  unfold isD at e
  split at e
  · cases h : isN x with
    | none => rw [h] at e; cases e
    | some b =>
      rw [h] at e
      cases e
      cases ry
      refine ⟨rfl, ?_⟩
      rw [isN_ok rx h]
      exact q _ H (Same.refl H) (.bl _)
  · cases e
theorem od_isn : OpD K (fun x y H Q => y = .non ∧ Q (.bl (!decide (x = .non))) H) isnD := fun vx vy x y z H ok Q rx ry e q => by
  unfold isnD at e
  split at e
  · cases h : isN x with
    | none => rw [h] at e; cases e
    | some b =>
      rw [h] at e
      cases e
      cases ry
      refine ⟨rfl, ?_⟩
      rw [isN_ok rx h]
      exact q _ H (Same.refl H) (.bl _)
  · cases e
theorem od_inL : OpD K (rInD K) inL := fun vx vy x y z H ok Q rx ry e q => by
  unfold inL at e
  split at e
  · next ds =>
    split at e
    · next c =>
      cases e
      exact ⟨_, _, rx.dp _ _ (SeqAt.canLay_of_shaped c.1), Rep.dp (.lst ds) _ (SeqAt.canLay_of_shaped c.2) ry, c.1, c.2, q _ H (Same.refl H) (.bl _)⟩
    · cases e
  · cases e
theorem od_ninL : OpD K (rNotInD K) ninL := fun vx vy x y z H ok Q rx ry e q => by
  unfold ninL at e
  split at e
  · next ds =>
    split at e
    · next c =>
      cases e
      exact ⟨_, _, rx.dp _ _ (SeqAt.canLay_of_shaped c.1), Rep.dp (.lst ds) _ (SeqAt.canLay_of_shaped c.2) ry, c.1, c.2, q _ H (Same.refl H) (.bl _)⟩
    · cases e
  · cases e
theorem key_ok {H : Hp} {ok : Addr → Prop} : ∀ {xs : List D} {vs : List V} {k : List Key}, Reps K H ok vs xs → keyOf xs = some k → vs = k.map kV
  | [], _, _, r, e => by
    cases r
    cases e
    rfl
  | x :: xs, _, k, r, e => by
    cases r with
    | cons a r =>
      unfold keyOf at e
      split at e
      · cases ‹_ :: _ = _›
      · next i rr he =>
        cases he
        cases h : keyOf xs with
        | none => rw [h] at e; cases e
        | some k' =>
          rw [h] at e
          cases e
          cases a
          rw [key_ok r h]
          rfl
      · next i rr he =>
        cases he
        cases h : keyOf xs with
        | none => rw [h] at e; cases e
        | some k' =>
          rw [h] at e
          cases e
          cases a
          rw [key_ok r h]
          rfl
      · cases e
theorem zip_any (k : List Key) : ∀ (ks : List (List Key)) (vs : List V), ks.length = vs.length → ((ks.zip vs).any fun kv => decide (kv.1 = k)) = ks.any fun j => decide (j = k)
  | [], [], _ => rfl
  | j :: ks, v :: vs, h => by
    rw [List.zip_cons_cons, List.any_cons, List.any_cons, zip_any k ks vs (Nat.succ.inj h)]
theorem ix_ok {H : Hp} {ok : Addr → Prop} {vs : List V} {ds : List D} {i : Int} {d : D} (r : Reps K H ok vs ds) (e : atI ds i = some d) : ∃ v, atI vs i = some v ∧ Rep K H ok v d := by
  unfold atI at e ⊢
  rw [r.length]
  cases h : ixN ds.length i with
  | none => rw [h] at e; cases e
  | some j =>
    rw [h] at e
    exact r.get (i := j) e
theorem od_ix : OpD K (rIx K) ixD := fun vx vy x y z H ok Q rx ry e q => by
  unfold ixD at e
  split at e
  · next ds i =>
    cases ry
    cases rx with
    | tup h r =>
      obtain ⟨v, h1, h2⟩ := ix_ok r e
      exact .inr (.inl ⟨_, _, i, v, rfl, rfl, SqT.of h, h1, q v H (Same.refl H) (rep_here h2)⟩)
  · next ds i =>
    cases ry
    cases rx with
    | lst o h r =>
      obtain ⟨v, h1, h2⟩ := ix_ok r e
      exact .inl ⟨_, _, i, v, rfl, rfl, SqL.of h, h1, q v H (Same.refl H) (rep_here h2)⟩
  · next ds i =>
    cases ry
    cases rx with
    | fz h r =>
      obtain ⟨v, h1, h2⟩ := ix_ok r e
      exact .inl ⟨_, _, i, v, rfl, rfl, h.sq, h1, q v H (Same.refl H) (rep_here h2)⟩
  · cases e
theorem emp_ok {H : Hp} {ok : Addr → Prop} {vs : List V} {ds : List D} (r : Reps K H ok vs ds) : (!ds.isEmpty) = !vs.isEmpty := by
  cases r <;> rfl
theorem tru_of {H : Hp} {ok : Addr → Prop} {v : V} {d : D} {b : Bool} (r : Rep K H ok v d) (e : tru d = some b) : TruV K v H b := by
  cases r with
  | non => cases e; rfl
  | bl c => cases e; rfl
  | int i => cases e; rfl
  | str x => cases e
  | raw w => cases e
  | tup h r => cases e; exact .inr (.inl ⟨_, SqT.of h, emp_ok r⟩)
  | wt h r => cases e
  | fz h r => cases e
  | lst o h r => cases e; exact .inl ⟨_, SqL.of h, emp_ok r⟩
  | dic o h l r => cases e
end

/-! ### expressions -/
section
variable {X : Cx} {a b c e : Expr} {es rest : List Expr} {ma mb mc : Mi} {ta tb : Mt} {mr : Ma} {pos : Pos}
theorem ev_add (ha : Ev X a ma) (hb : Ev X b mb) : Ev X (.BinOp a .Add b pos) (m2 addD ma mb) := ev_bin (OpR.or op_add op_cat) od_add ha hb
theorem ev_subt (ha : Ev X a ma) (hb : Ev X b mb) : Ev X (.BinOp a .Sub b pos) (m2 subD ma mb) := ev_bin op_sub od_sub ha hb
theorem ev_mul (ha : Ev X a ma) (hb : Ev X b mb) : Ev X (.BinOp a .Mult b pos) (m2 mulD ma mb) := ev_bin op_mul od_mul ha hb
theorem ev_div (ha : Ev X a ma) (hb : Ev X b mb) : Ev X (.BinOp a .FloorDiv b pos) (m2 divD ma mb) := ev_bin op_fdiv od_div ha hb
theorem ev_mod (ha : Ev X a ma) (hb : Ev X b mb) : Ev X (.BinOp a .Mod b pos) (m2 modD ma mb) := ev_bin op_mod od_mod ha hb
theorem ev_pow (ha : Ev X a ma) (hb : Ev X b mb) : Ev X (.BinOp a .Pow b pos) (m2 powD ma mb) := ev_bin op_pow od_pow ha hb
theorem ev_neg (ha : Ev X a ma) : Ev X (.UnaryOp .USub a pos) (m1 negD ma) := ev_una un_neg ud_neg ha
theorem ev_lt (ha : Ev X a ma) (hb : Ev X b mb) : Ev X (.Compare a [.Lt] [b] pos) (m2 ltD ma mb) := ev_cmp op_lt od_lt ha hb
theorem ev_le (ha : Ev X a ma) (hb : Ev X b mb) : Ev X (.Compare a [.LtE] [b] pos) (m2 leD ma mb) := ev_cmp op_le od_le ha hb
theorem ev_gt (ha : Ev X a ma) (hb : Ev X b mb) : Ev X (.Compare a [.Gt] [b] pos) (m2 gtD ma mb) := ev_cmp op_gt od_gt ha hb
theorem ev_ge (ha : Ev X a ma) (hb : Ev X b mb) : Ev X (.Compare a [.GtE] [b] pos) (m2 geD ma mb) := ev_cmp op_ge od_ge ha hb
theorem ev_eq (hu : X.A.units + 64 < cLine) (ha : Ev X a ma) (hb : Ev X b mb) : Ev X (.Compare a [.Eq] [b] pos) (m2 eqD ma mb) := ev_cmp (op_eqD hu) od_eq ha hb
theorem ev_ne (hu : X.A.units + 64 < cLine) (ha : Ev X a ma) (hb : Ev X b mb) : Ev X (.Compare a [.NotEq] [b] pos) (m2 neD ma mb) := ev_cmp (op_neD hu) od_ne ha hb
theorem ev_is (ha : Ev X a ma) (hb : Ev X b mb) : Ev X (.Compare a [.Is] [b] pos) (m2 isD ma mb) := ev_cmp op_isN od_is ha hb
theorem ev_isn (ha : Ev X a ma) (hb : Ev X b mb) : Ev X (.Compare a [.IsNot] [b] pos) (m2 isnD ma mb) := ev_cmp op_notN od_isn ha hb
theorem ev_inL (hu : X.A.units + 65 < cLine) (ha : Ev X a ma) (hb : Ev X b mb) (hm : behindInMarks .In b = false := by rfl) : Ev X (.Compare a [.In] [b] pos) (m2 inL ma mb) := ev_cmp (op_inD hu) od_inL ha hb hm
theorem ev_ninL (hu : X.A.units + 65 < cLine) (ha : Ev X a ma) (hb : Ev X b mb) (hm : behindInMarks .NotIn b = false := by rfl) : Ev X (.Compare a [.NotIn] [b] pos) (m2 ninL ma mb) := ev_cmp (op_notInD hu) od_ninL ha hb hm
theorem key_in {K : PySem.W.Frag} {H : Hp} {ok : Addr → Prop} {vx vy : V} {xs : List D} {ks : List (List Key)} {ds : List D} {k : List Key} (rx : Rep K H ok vx (.tup xs)) (ry : Rep K H ok vy (.dic ks ds)) (hk : keyOf xs = some k) :
    ∃ a o, vy = V.ref a ∧ DGet H a vx o ∧ o.isSome = ks.any fun j => decide (j = k) := by
  cases rx with
  | tup ht rr =>
    have ek := key_ok rr hk
    subst ek
    cases ry with
    | dic o hd l rd => exact ⟨_, _, rfl, DGet.t hd ht, by rw [← valV_any, zip_any k _ _ l]⟩
theorem t_inK {K : PySem.W.Frag} {σ : L2.St} {H : Hp} {Q : VK} (h : tE K (m2 inK ma mb) σ H Q) : tDIn (tE K ma) (tE K mb) σ H Q := by
  obtain ⟨ok, S, d, rs, m, q⟩ := h
  obtain ⟨x, h1, m1⟩ := bind_some m
  obtain ⟨y, h2, m2⟩ := bind_some m1
  refine bind2 rs h1 h2 fun vx vy H2 s rx ry => ?_
  cases x <;> cases y <;> try cases m2
  next xs ks ds =>
  have m3 : (keyOf xs).map (fun k => D.bl (ks.any fun j => decide (j = k))) = some d := m2
  cases hk : keyOf xs with
  | none => rw [hk] at m3; cases m3
  | some k =>
    rw [hk] at m3
    cases m3
    obtain ⟨a, o, e1, e2, e3⟩ := key_in rx ry hk
    exact ⟨a, o, e1, e2, by rw [e3]; exact q _ H2 s (.bl _)⟩
theorem t_ninK {K : PySem.W.Frag} {σ : L2.St} {H : Hp} {Q : VK} (h : tE K (m2 ninK ma mb) σ H Q) : tDNotIn (tE K ma) (tE K mb) σ H Q := by
  obtain ⟨ok, S, d, rs, m, q⟩ := h
  obtain ⟨x, h1, m1⟩ := bind_some m
  obtain ⟨y, h2, m2⟩ := bind_some m1
  refine bind2 rs h1 h2 fun vx vy H2 s rx ry => ?_
  cases x <;> cases y <;> try cases m2
  next xs ks ds =>
  have m3 : (keyOf xs).map (fun k => D.bl (!ks.any fun j => decide (j = k))) = some d := m2
  cases hk : keyOf xs with
  | none => rw [hk] at m3; cases m3
  | some k =>
    rw [hk] at m3
    cases m3
    obtain ⟨a, o, e1, e2, e3⟩ := key_in rx ry hk
    exact ⟨a, o, e1, e2, by rw [e3]; exact q _ H2 s (.bl _)⟩
theorem ev_inK (hu : X.A.units + 1 < cLine) (ha : Ev X a ma) (hb : Ev X b mb) (hm : behindInMarks .In b = false := by rfl) : Ev X (.Compare a [.In] [b] pos) (m2 inK ma mb) :=
  PE.imp (pe_cmp (pc_din hu ha hb) hm) fun _ _ _ h => t_inK h
theorem ev_ninK (hu : X.A.units + 1 < cLine) (ha : Ev X a ma) (hb : Ev X b mb) (hm : behindInMarks .NotIn b = false := by rfl) : Ev X (.Compare a [.NotIn] [b] pos) (m2 ninK ma mb) :=
  PE.imp (pe_cmp (pc_dnotin hu ha hb) hm) fun _ _ _ h => t_ninK h
theorem ev_ix (ha : Ev X a ma) (hb : Ev X b mb) (hs : PlainIx b := by exact fun _ _ => rfl) : Ev X (.Subscript a b pos) (m2 ixD ma mb) := ev_sub ix_seq od_ix ha hb hs

/-! displays -/
def tupD (ds : List D) : Option D := if ds.length ≤ 1000000 then some (.tup ds) else none
def lstD (ds : List D) : Option D := if ds.length ≤ 1000000 then some (.lst ds) else none
theorem ev_tup {k : Nat} (h : Ea X es mr) : Ev X (.Tuple es k pos) (mA tupD mr) := PE.imp (pe_tup h) fun σ H Q hh => by
  refine t_ca (K := X.K) (r := fun xs H1 Q => xs.length ≤ sizeLine ∧ ∀ p, H1 p = none → Q (.ref p) (upd H1 p (.tup xs))) (f := tupD) (fun vs ds z H ok Q r e q => ?_) hh
  unfold tupD at e
  split at e
  · next c =>
    cases e
    refine ⟨by rw [r.length]; exact Nat.le_trans c (by decide), fun p hp => ?_⟩
    have s := same_new (o := .tup vs) hp
    exact q _ _ s (.tup upd_same (r.keeps (Same.keeps s) ex_of))
  · cases e
theorem ev_lst (h : Ea X es mr) : Ev X (.List es pos) (mA lstD mr) := PE.imp (pe_lst h) fun σ H Q hh => by
  refine t_ca (K := X.K) (r := fun xs H1 Q => xs.length ≤ sizeLine ∧ ∀ p, H1 p = none → Q (.ref p) (upd H1 p (.lst xs))) (f := lstD) (fun vs ds z H ok Q r e q => ?_) hh
  unfold lstD at e
  split at e
  · next c =>
    cases e
    refine ⟨by rw [r.length]; exact Nat.le_trans c (by decide), fun p hp => ?_⟩
    have s := same_new (o := .lst vs) hp
    exact q _ _ s (.lst (.inr hp) upd_same (r.keeps (Same.keeps s) ex_of))
  · cases e

/-! tests -/
def mB (m : Mi) : Mt := fun S => (m S).bind fun | .bl x => some x | _ => none
def mTr (m : Mi) : Mt := fun S => (m S).bind tru
def mNot (t : Mt) : Mt := fun S => (t S).map fun x => !x
def mAnd (t u : Mt) : Mt := fun S => (t S).bind fun x => if x = true then u S else some false
def mOr (t u : Mt) : Mt := fun S => (t S).bind fun x => if x = true then some true else u S
theorem t_B {K : PySem.W.Frag} {σ : L2.St} {H : Hp} {Q : Bool → Hp → Prop} (h : tT K (mB ma) σ H Q) : tE K ma σ H fun v H1 => ∃ x, v = .bl x ∧ Q x H1 := by
  obtain ⟨ok, S, d, rs, m, q⟩ := h
  obtain ⟨x, h1, m⟩ := bind_some m
  refine ⟨ok, S, x, rs, h1, fun v H1 s r => ?_⟩
  cases x with
  | bl y => cases r; cases m; exact ⟨_, rfl, q H1 s⟩
  | _ => cases m
/-- a comparison's value and its test -/
theorem et_op {op : CmpOp} {r : R2} {f : D → D → Option D} (ho : OpR X (compareOp op) r) (hf : OpD X.K r f) (ha : Ev X a ma) (hb : Ev X b mb) (hm : behindInMarks op b = false := by first | exact nomark _ | rfl) : Et X (.Compare a [op] [b] pos) (mB (m2 f ma mb)) :=
  PT.imp (pt_cmpR ho ha hb hm) fun σ H Q h => t_op hf (t_B h)
theorem et_lt (ha : Ev X a ma) (hb : Ev X b mb) : Et X (.Compare a [.Lt] [b] pos) (mB (m2 ltD ma mb)) := et_op op_lt od_lt ha hb
theorem et_le (ha : Ev X a ma) (hb : Ev X b mb) : Et X (.Compare a [.LtE] [b] pos) (mB (m2 leD ma mb)) := et_op op_le od_le ha hb
theorem et_gt (ha : Ev X a ma) (hb : Ev X b mb) : Et X (.Compare a [.Gt] [b] pos) (mB (m2 gtD ma mb)) := et_op op_gt od_gt ha hb
theorem et_ge (ha : Ev X a ma) (hb : Ev X b mb) : Et X (.Compare a [.GtE] [b] pos) (mB (m2 geD ma mb)) := et_op op_ge od_ge ha hb
theorem et_eq (hu : X.A.units + 64 < cLine) (ha : Ev X a ma) (hb : Ev X b mb) : Et X (.Compare a [.Eq] [b] pos) (mB (m2 eqD ma mb)) := et_op (op_eqD hu) od_eq ha hb
theorem et_ne (hu : X.A.units + 64 < cLine) (ha : Ev X a ma) (hb : Ev X b mb) : Et X (.Compare a [.NotEq] [b] pos) (mB (m2 neD ma mb)) := et_op (op_neD hu) od_ne ha hb
theorem et_is (ha : Ev X a ma) (hb : Ev X b mb) : Et X (.Compare a [.Is] [b] pos) (mB (m2 isD ma mb)) := et_op op_isN od_is ha hb
theorem et_isn (ha : Ev X a ma) (hb : Ev X b mb) : Et X (.Compare a [.IsNot] [b] pos) (mB (m2 isnD ma mb)) := et_op op_notN od_isn ha hb
theorem et_inL (hu : X.A.units + 65 < cLine) (ha : Ev X a ma) (hb : Ev X b mb) (hm : behindInMarks .In b = false := by rfl) : Et X (.Compare a [.In] [b] pos) (mB (m2 inL ma mb)) := et_op (op_inD hu) od_inL ha hb hm
theorem et_ninL (hu : X.A.units + 65 < cLine) (ha : Ev X a ma) (hb : Ev X b mb) (hm : behindInMarks .NotIn b = false := by rfl) : Et X (.Compare a [.NotIn] [b] pos) (mB (m2 ninL ma mb)) := et_op (op_notInD hu) od_ninL ha hb hm
theorem et_inK (hu : X.A.units + 1 < cLine) (ha : Ev X a ma) (hb : Ev X b mb) (hm : behindInMarks .In b = false := by rfl) : Et X (.Compare a [.In] [b] pos) (mB (m2 inK ma mb)) :=
  PT.imp (pt_cmp (pc_din hu ha hb) hm) fun _ _ _ h => t_inK (t_B h)
theorem et_ninK (hu : X.A.units + 1 < cLine) (ha : Ev X a ma) (hb : Ev X b mb) (hm : behindInMarks .NotIn b = false := by rfl) : Et X (.Compare a [.NotIn] [b] pos) (mB (m2 ninK ma mb)) :=
  PT.imp (pt_cmp (pc_dnotin hu ha hb) hm) fun _ _ _ h => t_ninK (t_B h)
theorem et_tr (ha : Ev X e ma) (he : ∀ whole, isTrue e X.env whole = (do let v ← whole; standAt e.pos; holding [v] (truthy v)) := by intro _; rfl) : Et X e (mTr ma) := PT.imp (pt_truth ha he) fun σ H Q h => by
  obtain ⟨ok, S, d, rs, m, q⟩ := h
  obtain ⟨x, h1, m⟩ := bind_some m
  exact ⟨ok, S, x, rs, h1, fun v H1 s r => ⟨d, tru_of r m, q H1 s⟩⟩
theorem et_not (h : Et X a ta) : Et X (.UnaryOp .Not a pos) (mNot ta) := PT.imp (pt_not h) fun σ H Q hh => by
  obtain ⟨ok, S, d, rs, m, q⟩ := hh
  unfold mNot at m
  cases h1 : ta S with
  | none => rw [h1] at m; cases m
  | some x =>
    rw [h1] at m
    cases m
    exact ⟨ok, S, x, rs, h1, fun H1 s => q H1 s⟩
theorem ew_and1 (h : Et X a ta) : Ew X (.BoolOp .And [a] pos) ta := pw_and1 h
theorem ew_or1 (h : Et X a ta) : Ew X (.BoolOp .Or [a] pos) ta := pw_or1 h
theorem ew_and (h1 : Et X a ta) (h2 : Ew X (.BoolOp .And (b :: rest) pos) tb) : Ew X (.BoolOp .And (a :: b :: rest) pos) (mAnd ta tb) := PW.imp (pw_and h1 h2) fun σ H Q hh => by
  obtain ⟨ok, S, d, rs, m, q⟩ := hh
  obtain ⟨x, e1, m⟩ := bind_some m
  refine ⟨ok, S, x, rs, e1, fun H1 s => ?_⟩
  cases x with
  | true => exact ⟨ok, S, d, rs.keeps (Same.keeps s) (fun _ z => z), m, fun H2 s2 => q H2 (s.trans s2)⟩
  | false => cases m; exact q H1 s
theorem ew_or (h1 : Et X a ta) (h2 : Ew X (.BoolOp .Or (b :: rest) pos) tb) : Ew X (.BoolOp .Or (a :: b :: rest) pos) (mOr ta tb) := PW.imp (pw_or h1 h2) fun σ H Q hh => by
  obtain ⟨ok, S, d, rs, m, q⟩ := hh
  obtain ⟨x, e1, m⟩ := bind_some m
  refine ⟨ok, S, x, rs, e1, fun H1 s => ?_⟩
  cases x with
  | false => exact ⟨ok, S, d, rs.keeps (Same.keeps s) (fun _ z => z), m, fun H2 s2 => q H2 (s.trans s2)⟩
  | true => cases m; exact q H1 s
theorem et_w (h : Ew X e ta) : Et X e ta := PW.pt h
/-- chains of two -/
def mCh (f g : D → D → Option D) (a b c : Mi) : Mi := fun S => (a S).bind fun x => (b S).bind fun y => (f x y).bind fun z => match z with
  | .bl true => (c S).bind fun w => g y w
  | .bl false => some (.bl false)
  | _ => none
theorem t_ch {K : PySem.W.Frag} {r r' : R2} {f g : D → D → Option D} {σ : L2.St} {H : Hp} {Q : VK} (hf : OpD K r f) (hg : OpD K r' g) (h : tE K (mCh f g ma mb mc) σ H Q) : tChain r r' (tE K ma) (tE K mb) (tE K mc) σ H Q := by
  obtain ⟨ok, S, d, rs, m, q⟩ := h
  obtain ⟨x, h1, m⟩ := bind_some m
  obtain ⟨y, h2, m⟩ := bind_some m
  obtain ⟨z, h3, m⟩ := bind_some m
  refine bind2 rs h1 h2 fun vx vy H2 s rx ry => hf vx vy x y z H2 _ _ rx ry h3 fun v H3 s3 rz => ?_
  split at m
  · obtain ⟨w, h4, m⟩ := bind_some m
    cases rz
    refine ⟨true, rfl, ?_⟩
    show tE K mc σ H3 _
    have s13 := s.trans s3
    refine ⟨ok, S, w, rs.keeps (Same.keeps s13) (fun _ z => z), h4, fun vw H4 s4 rw' => ?_⟩
    exact hg vy vw y w d H4 (ex ok H) Q (ry.keeps (Same.keeps (s3.trans s4)) fun _ z => z) (rw'.keeps (Same.keeps (Same.refl _)) (ex_ex s13)) m (back (s13.trans s4) q)
  · cases rz
    cases m
    exact ⟨false, rfl, q _ H3 (s.trans s3) (.bl _)⟩
  · cases m
theorem ev_chain {op op' : CmpOp} {r r' : R2} {f g : D → D → Option D} (ho : OpR X (compareOp op) r) (ho' : OpR X (compareOp op') r') (hf : OpD X.K r f) (hg : OpD X.K r' g) (ha : Ev X a ma) (hb : Ev X b mb) (hc : Ev X c mc)
    (hm : lastMarks [op, op'] [b, c] = false := by with_unfolding_all rfl) : Ev X (.Compare a [op, op'] [b, c] pos) (mCh f g ma mb mc) := PE.imp (pe_chain ho ho' ha hb hc hm) fun σ H Q h => t_ch hf hg h
theorem et_chain {op op' : CmpOp} {r r' : R2} {f g : D → D → Option D} (ho : OpR X (compareOp op) r) (ho' : OpR X (compareOp op') r') (hf : OpD X.K r f) (hg : OpD X.K r' g) (ha : Ev X a ma) (hb : Ev X b mb) (hc : Ev X c mc)
    (hm : lastMarks [op, op'] [b, c] = false := by with_unfolding_all rfl) : Et X (.Compare a [op, op'] [b, c] pos) (mB (mCh f g ma mb mc)) := PT.imp (pt_chain ho ho' ha hb hc hm) fun σ H Q h => t_ch hf hg (t_B h)
/-- and, or as values of bools -/
def mAndV (a b : Mi) : Mi := fun S => (a S).bind fun x => match x with
  | .bl true => b S
  | .bl false => some (.bl false)
  | _ => none
def mOrV (a b : Mi) : Mi := fun S => (a S).bind fun x => match x with
  | .bl false => b S
  | .bl true => some (.bl true)
  | _ => none
theorem ev_one {op} (h : Ev X a ma) : Ev X (.BoolOp op [a] pos) ma := pe_one h
theorem ev_and (ha : Ev X a ma) (hb : Ev X (.BoolOp .And (b :: rest) pos) mb) : Ev X (.BoolOp .And (a :: b :: rest) pos) (mAndV ma mb) := PE.imp (pe_and ha hb) fun σ H Q h => by
  obtain ⟨ok, S, d, rs, m, q⟩ := h
  obtain ⟨x, h1, m⟩ := bind_some m
  refine ⟨ok, S, x, rs, h1, fun v H1 s r => ?_⟩
  split at m
  · cases r
    exact ⟨true, rfl, ok, S, d, rs.keeps (Same.keeps s) (fun _ z => z), m, fun v2 H2 s2 r2 => q v2 H2 (s.trans s2) (r2.keeps (Same.keeps (Same.refl _)) (ex_ex s))⟩
  · cases r
    cases m
    exact ⟨false, rfl, q _ H1 s (.bl _)⟩
  · cases m
theorem ev_or (ha : Ev X a ma) (hb : Ev X (.BoolOp .Or (b :: rest) pos) mb) : Ev X (.BoolOp .Or (a :: b :: rest) pos) (mOrV ma mb) := PE.imp (pe_or ha hb) fun σ H Q h => by
  obtain ⟨ok, S, d, rs, m, q⟩ := h
  obtain ⟨x, h1, m⟩ := bind_some m
  refine ⟨ok, S, x, rs, h1, fun v H1 s r => ?_⟩
  split at m
  · cases r
    exact ⟨false, rfl, ok, S, d, rs.keeps (Same.keeps s) (fun _ z => z), m, fun v2 H2 s2 r2 => q v2 H2 (s.trans s2) (r2.keeps (Same.keeps (Same.refl _)) (ex_ex s))⟩
  · cases r
    cases m
    exact ⟨true, rfl, q _ H1 s (.bl _)⟩
  · cases m
def notD : D → Option D
  | .bl b => some (.bl (!b))
  | _ => none
theorem ev_not (ha : Ev X a ma) : Ev X (.UnaryOp .Not a pos) (m1 notD ma) := PE.imp (pe_not ha) fun σ H Q h => t_un (K := X.K) (r := fun x H1 Q => ∃ c, x = .bl c ∧ Q (.bl (!c)) H1) (f := notD) (fun vx x z H ok Q r e q => by
  cases r with
  | bl b => cases e; exact ⟨b, rfl, q _ H (Same.refl H) (.bl _)⟩
  | _ => cases e) h
def mIf (t : Mt) (a b : Mi) : Mi := fun S => (t S).bind fun x => if x = true then a S else b S
theorem ev_if (hc : Et X c ta) (ha : Ev X a ma) (hb : Ev X b mb) : Ev X (.IfExp c a b pos) (mIf ta ma mb) := PE.imp (pe_ifExp hc ha hb) fun σ H Q h => by
  obtain ⟨ok, S, d, rs, m, q⟩ := h
  obtain ⟨x, h1, m⟩ := bind_some m
  refine ⟨ok, S, x, rs, h1, fun H1 s => ?_⟩
  cases x with
  | true => exact ⟨ok, S, d, rs.keeps (Same.keeps s) (fun _ z => z), m, fun v2 H2 s2 r2 => q v2 H2 (s.trans s2) (r2.keeps (Same.keeps (Same.refl _)) (ex_ex s))⟩
  | false => exact ⟨ok, S, d, rs.keeps (Same.keeps s) (fun _ z => z), m, fun v2 H2 s2 r2 => q v2 H2 (s.trans s2) (r2.keeps (Same.keeps (Same.refl _)) (ex_ex s))⟩
end
end Ice

/-! calls, what is walked, comprehensions, over data -/
namespace Ice
open PySem PySem.Spec PyProof.Rows L2

/-! ### what a def promises over data -/
def spD (K : PySem.W.Frag) (n : Nat) (g : List D → Option D) : Sp := fun vs H Q _ => ∃ ds ok d, Reps K H ok vs ds ∧ ds.length = n ∧ g ds = some d ∧ ∀ v H', Same H H' → Rep K H' (ex ok H) v d → Q v H'
section
variable {X : Cx} {e a b : Expr} {es : List Expr} {ma mb : Mi} {mr : Ma} {pos p : Pos} {x : Str} {r : List V → Hp → VK → Prop} {f : List D → Option D} {id T : String}
def guardN (n : Nat) (g : List D → Option D) : List D → Option D := fun ds => if ds.length = n then g ds else none
theorem ev_call {k j n : Nat} {g : List D → Option D} (c : C8.Cal X.prog X.w X.K X.mg X.base k x (spD X.K n g) []) (hr : Room j X.A) (hk : k ≤ j) (hg : Gl X x) (ha : Ea X (e :: es) mr)
    (hdb : (x == ("__debug__" : Str)) = false := by decide) (he : starEach (e :: es) X.env = (false, eval e X.env) :: starEach es X.env := by rfl) (hpl : (backTo pos (starEach es X.env)).any (·.1) = false := by rfl) :
    Ev X (.Call (.Name x p) (e :: es) [] pos) (mA (guardN n g) mr) := PE.imp (C8.pe_c c hr hk hg ha hdb he hpl) fun σ H Q h =>
  t_ca (K := X.K) (r := fun vs H1 Q => spD X.K n g (vs ++ []) H1 Q C8.E0) (fun vs ds z H ok Q rs e q => by
    unfold guardN at e
    split at e
    · next hl => exact ⟨ds, ok, z, by rw [List.append_nil]; exact rs, hl, e, q⟩
    · cases e) h
theorem ev_callB (hc : CallR X (.builtin id) r) (hf : CaD X.K r f) (hg : Gl X x) (hm : X.mg x = none) (hv : bootBuiltins x = some (.builtin id)) (ha : Ea X (e :: es) mr) (hn : x ≠ "__name__" := by decide) (hdb : (x == ("__debug__" : Str)) = false := by decide)
    (he : starEach (e :: es) X.env = (false, eval e X.env) :: starEach es X.env := by rfl) (hpl : (backTo pos (starEach es X.env)).any (·.1) = false := by rfl) : Ev X (.Call (.Name x p) (e :: es) [] pos) (mA f mr) :=
  PE.imp (pe_callB hc hg hm hv ha hn hdb he hpl) fun σ H Q h => t_ca hf h
theorem ev_callT (hc : CallR X (.type T) r) (hf : CaD X.K r f) (hg : Gl X x) (hm : X.mg x = none) (hv : bootBuiltins x = some (.type T)) (ha : Ea X (e :: es) mr) (hn : x ≠ "__name__" := by decide) (hdb : (x == ("__debug__" : Str)) = false := by decide)
    (he : starEach (e :: es) X.env = (false, eval e X.env) :: starEach es X.env := by rfl) (hpl : (backTo pos (starEach es X.env)).any (·.1) = false := by rfl) : Ev X (.Call (.Name x p) (e :: es) [] pos) (mA f mr) :=
  PE.imp (pe_callTy hc hg hm hv ha hn hdb he hpl) fun σ H Q h => t_ca hf h
/-- a built-in class as a value -/
theorem ev_bty (T : String) (hg : Gl X x) (hm : X.mg x = none) (hv : bootBuiltins x = some (.type T)) (hn : x ≠ "__name__" := by decide) (hd : (x == ("__debug__" : Str)) = false := by decide) : Ev X (.Name x pos) (mC (.raw (.ty T))) :=
  ev_c (pe_bltn hg hm hv (v := .ty T) rfl hn hd) fun _ _ => .raw _
end

/-! ### built-ins -/
def lenF : List D → Option D
  | [.tup ds] => some (.int ds.length)
  | [.lst ds] => some (.int ds.length)
  | _ => none
def intsOf : List D → Option (List Int)
  | [] => some []
  | .int i :: r => (intsOf r).map fun k => i :: k
  | _ :: _ => none
def boolsOf : List D → Option (List Bool)
  | [] => some []
  | .bl i :: r => (boolsOf r).map fun k => i :: k
  | _ :: _ => none
def only {α : Type} (f : List D → Option α) : List D → Option α
  | [.lst es] => f es
  | _ => none
def sumF : List D → Option D := only fun es => (intsOf es).map fun ns => .int ns.sum
def allF : List D → Option D := only fun es => (boolsOf es).map fun bs => .bl (bs.all fun b => b)
def minL : List Int → Option Int
  | [] => none
  | i :: r => some (r.foldl (fun a b => if b < a then b else a) i)
def minF : List D → Option D
  | [.int i, .int j] => some (.int (if j < i then j else i))
  | [.lst ds] => (intsOf ds).bind fun ns => (minL ns).map .int
  | _ => none
def maxF : List D → Option D
  | [.int i, .int j] => some (.int (if j > i then j else i))
  | _ => none
def tupF : List D → Option D
  | [.lst ds] => some (.tup ds)
  | [.tup ds] => some (.tup ds)
  | _ => none
def lstF : List D → Option D
  | [.lst ds] => some (.lst ds)
  | [.tup ds] => some (.lst ds)
  | _ => none
def tyN : D → Option String
  | .non => some "NoneType"
  | .bl _ => some "bool"
  | .int _ => some "int"
  | .str _ => some "str"
  | .tup _ => some "tuple"
  | .lst _ => some "list"
  | .dic _ _ => some "dict"
  | _ => none
def isiF : List D → Option D
  | [x, .raw (.ty T)] => (tyN x).bind fun n => (kitB n T).map .bl
  | _ => none
section
variable {K : PySem.W.Frag} {H : Hp} {ok : Addr → Prop}
theorem ints_ok : ∀ {ds : List D} {vs : List V} {ns : List Int}, Reps K H ok vs ds → intsOf ds = some ns → vs = ns.map V.int
  | [], _, _, r, e => by cases r; cases e; rfl
  | d :: ds, _, ns, r, e => by
    cases r with
    | cons a r =>
      cases d with
      | int i =>
        have e' : (intsOf ds).map (fun k => i :: k) = some ns := e
        cases h : intsOf ds with
        | none => rw [h] at e'; cases e'
        | some k =>
          rw [h] at e'
          cases e'
          cases a
          rw [ints_ok r h]
          rfl
      | _ => cases e
theorem bools_ok : ∀ {ds : List D} {vs : List V} {ns : List Bool}, Reps K H ok vs ds → boolsOf ds = some ns → vs = ns.map V.bl
  | [], _, _, r, e => by cases r; cases e; rfl
  | d :: ds, _, ns, r, e => by
    cases r with
    | cons a r =>
      cases d with
      | bl i =>
        have e' : (boolsOf ds).map (fun k => i :: k) = some ns := e
        cases h : boolsOf ds with
        | none => rw [h] at e'; cases e'
        | some k =>
          rw [h] at e'
          cases e'
          cases a
          rw [bools_ok r h]
          rfl
      | _ => cases e
theorem min_fold : ∀ (r : List Int) (i : Int), (r.foldl (fun a b => if b < a then b else a) i = i ∨ r.foldl (fun a b => if b < a then b else a) i ∈ r) ∧ r.foldl (fun a b => if b < a then b else a) i ≤ i ∧ ∀ j ∈ r, r.foldl (fun a b => if b < a then b else a) i ≤ j
  | [], i => ⟨.inl rfl, Int.le_refl _, fun _ h => nomatch h⟩
  | b :: r, i => by
    obtain ⟨h1, h2, h3⟩ := min_fold r (if b < i then b else i)
    show (r.foldl _ (if b < i then b else i) = i ∨ r.foldl _ (if b < i then b else i) ∈ b :: r) ∧ r.foldl _ (if b < i then b else i) ≤ i ∧ ∀ j ∈ b :: r, r.foldl _ (if b < i then b else i) ≤ j
    generalize hg : r.foldl (fun a b => if b < a then b else a) (if b < i then b else i) = m at *
    refine ⟨?_, ?_, fun j hj => ?_⟩
    · rcases h1 with h1 | h1
      · rw [h1]
        by_cases c : b < i
        · rw [if_pos c]; exact .inr List.mem_cons_self
        · rw [if_neg c]; exact .inl rfl
      · exact .inr (List.mem_cons_of_mem _ h1)
    · by_cases c : b < i
      · rw [if_pos c] at h2; omega
      · rw [if_neg c] at h2; exact h2
    · rcases List.mem_cons.mp hj with e | hj
      · subst e
        by_cases c : j < i
        · rw [if_pos c] at h2; exact h2
        · rw [if_neg c] at h2; omega
      · exact h3 j hj
theorem min_uniq {ns : List Int} {m n : Int} (h : minL ns = some m) (h1 : n ∈ ns) (h2 : ∀ j ∈ ns, n ≤ j) : n = m := by
  cases ns with
  | nil => cases h
  | cons i r =>
    obtain ⟨a, b, c⟩ := min_fold r i
    have e : r.foldl (fun a b => if b < a then b else a) i = m := Option.some.inj h
    rw [e] at a b c
    have g : m ∈ i :: r := by
      rcases a with a | a
      · rw [a]; exact List.mem_cons_self
      · exact List.mem_cons_of_mem _ a
    have g1 := h2 m g
    have g2 : m ≤ n := by
      rcases List.mem_cons.mp h1 with z | z
      · rw [z]; exact b
      · exact c n z
    omega
theorem cd_len : CaD K (fun xs H Q => ∃ p ys, xs = [.ref p] ∧ (SqL K H p ys ∨ SqT K H p ys) ∧ Q (.int ys.length) H) lenF := fun vs ds z H ok Q rs e q => by
  cases rs with
  | nil => cases e
  | cons a r =>
    cases r with
    | nil =>
      cases a with
      | tup h r => cases e; exact ⟨_, _, rfl, .inr (SqT.of h), by rw [r.length]; exact q _ H (Same.refl H) (.int _)⟩
      | lst o h r => cases e; exact ⟨_, _, rfl, .inl (SqL.of h), by rw [r.length]; exact q _ H (Same.refl H) (.int _)⟩
      | _ => cases e
    | cons a2 r2 => cases a <;> cases e
theorem one_lst {α : Type} {vs : List V} {ds : List D} {f : List D → Option α} {z : α} (rs : Reps K H ok vs ds) (e : only f ds = some z) :
    ∃ p ws es, vs = [.ref p] ∧ ds = [.lst es] ∧ H p = some (.lst ws) ∧ Reps K H ok ws es ∧ f es = some z := by
  cases rs with
  | nil => cases e
  | cons a r =>
    cases r with
    | nil =>
      cases a with
      | lst o h r => exact ⟨_, _, _, rfl, rfl, h, r, e⟩
      | _ => cases e
    | cons a2 r2 => cases a <;> cases e
theorem cd_sum : CaD K (rSum K) sumF := fun vs ds z H ok Q rs e q => by
  obtain ⟨p, ws, es, rfl, rfl, h, r, e⟩ := one_lst rs e
  cases hn : intsOf es with
  | none => rw [hn] at e; cases e
  | some ns =>
    rw [hn] at e
    cases e
    have := ints_ok r hn
    subst this
    exact ⟨p, ns, rfl, SqL.of h, q _ H (Same.refl H) (.int _)⟩
theorem cd_all : CaD K (rAll K) allF := fun vs ds z H ok Q rs e q => by
  obtain ⟨p, ws, es, rfl, rfl, h, r, e⟩ := one_lst rs e
  cases hn : boolsOf es with
  | none => rw [hn] at e; cases e
  | some ns =>
    rw [hn] at e
    cases e
    have := bools_ok r hn
    subst this
    exact ⟨p, ns, rfl, SqL.of h, q _ H (Same.refl H) (.bl _)⟩
theorem two_ints {vs : List V} {i j : Int} (rs : Reps K H ok vs [.int i, .int j]) : vs = [.int i, .int j] := by
  cases rs with
  | cons a r => cases r with
    | cons b r => cases r; cases a; cases b; rfl
theorem cd_max : CaD K (fun xs H Q => ∃ i j, xs = [.int i, .int j] ∧ Q (.int (if j > i then j else i)) H) maxF := fun vs ds z H ok Q rs e q => by
  unfold maxF at e
  split at e
  · cases e
    exact ⟨_, _, two_ints rs, q _ H (Same.refl H) (.int _)⟩
  · cases e
theorem cd_min : CaD K (fun xs H Q => (∃ i j, xs = [.int i, .int j] ∧ Q (.int (if j < i then j else i)) H) ∨ rMin K xs H Q) minF := fun vs ds z H ok Q rs e q => by
  unfold minF at e
  split at e
  · cases e
    exact .inl ⟨_, _, two_ints rs, q _ H (Same.refl H) (.int _)⟩
  · next ds =>
    obtain ⟨ns, hn, e⟩ := bind_some e
    cases hm : minL ns with
    | none => rw [hm] at e; cases e
    | some m =>
      rw [hm] at e
      cases e
      cases rs with
      | cons a r =>
        cases r
        cases a with
        | lst o h r =>
          have := ints_ok r hn
          subst this
          refine .inr ⟨_, ns, rfl, SqL.of h, ?_, fun k h1 h2 => ?_⟩
          · cases ns with
            | nil => cases hm
            | cons i r => exact Nat.succ_pos _
          · rw [min_uniq hm h1 h2]
            exact q _ H (Same.refl H) (.int _)
  · cases e
theorem cd_list : CaD K (fun xs H Q => ∃ p ys, xs = [.ref p] ∧ (SqL K H p ys ∨ SqT K H p ys) ∧ ∀ l, H l = none → Q (.ref l) (upd H l (.lst ys))) lstF := fun vs ds z H ok Q rs e q => by
  cases rs with
  | nil => cases e
  | cons a r =>
    cases r with
    | nil =>
      cases a with
      | tup h r => cases e; exact ⟨_, _, rfl, .inr (SqT.of h), fun l hl => q _ _ (same_new hl) (.lst (.inr hl) upd_same (r.keeps (Same.keeps (same_new hl)) ex_of))⟩
      | lst o h r => cases e; exact ⟨_, _, rfl, .inl (SqL.of h), fun l hl => q _ _ (same_new hl) (.lst (.inr hl) upd_same (r.keeps (Same.keeps (same_new hl)) ex_of))⟩
      | _ => cases e
    | cons a2 r2 => cases a <;> cases e
theorem cd_tuple : CaD K (fun xs H Q => ∃ p ys, xs = [.ref p] ∧ ((SqL K H p ys ∧ ∀ l, H l = none → Q (.ref l) (upd H l (.tup ys))) ∨ (SqT K H p ys ∧ Q (.ref p) H))) tupF := fun vs ds z H ok Q rs e q => by
  cases rs with
  | nil => cases e
  | cons a r =>
    cases r with
    | nil =>
      cases a with
      | tup h r => cases e; exact ⟨_, _, rfl, .inr ⟨SqT.of h, q _ H (Same.refl H) (rep_here (.tup h r))⟩⟩
      | lst o h r => cases e; exact ⟨_, _, rfl, .inl ⟨SqL.of h, fun l hl => q _ _ (same_new hl) (.tup upd_same (r.keeps (Same.keeps (same_new hl)) ex_of))⟩⟩
      | _ => cases e
    | cons a2 r2 => cases a <;> cases e
theorem ty_ok {v : V} {d : D} {n : String} (r : Rep K H ok v d) (e : tyN d = some n) : TyX K H v (.type n) := by
  cases r with
  | non => cases e; exact .base .non
  | bl b => cases e; exact .base (.bl b)
  | int i => cases e; exact .base (.int i)
  | str x => cases e; exact .base (.str x)
  | raw v => cases e
  | tup h r => cases e; exact .base (.tup h)
  | wt h r => cases e
  | fz h r => cases e
  | lst o h r => cases e; exact .base (.lst h)
  | dic o h l r => cases e; exact .base (.dT h)
theorem cd_isi : CaD K (rIsi K) isiF := fun vs ds z H ok Q rs e q => by
  unfold isiF at e
  split at e
  · next x T =>
    obtain ⟨n, hn, e⟩ := bind_some e
    cases hk : kitB n T with
    | none => rw [hk] at e; cases e
    | some b =>
      rw [hk] at e
      cases e
      cases rs with
      | cons a r => cases r with
        | cons c r =>
          cases r
          cases c
          exact ⟨_, _, _, _, b, rfl, .ty T, ty_ok a hn, kit_ty hk, q _ H (Same.refl H) (.bl _)⟩
  · cases e
end

/-! ### what is walked -/
mutual
theorem Rep.dom {K : PySem.W.Frag} {H : Hp} {ok : Addr → Prop} : ∀ (d : D) (v : V), Rep K H ok v d → Rep K H (fun a => ok a ∧ H a ≠ none) v d
  | .non, _, h => by cases h; exact .non
  | .bl b, _, h => by cases h; exact .bl b
  | .int i, _, h => by cases h; exact .int i
  | .str x, _, h => by cases h; exact .str x
  | .raw w, _, h => by cases h; exact .raw w
  | .tup ds, _, h => by
    cases h with
    | tup s r => exact .tup s (Reps.dom ds _ r)
  | .wt ds, _, h => by
    cases h with
    | wt s r => exact .wt s (Reps.dom ds _ r)
  | .fz ds, _, h => by
    cases h with
    | fz s r => exact .fz s (Reps.dom ds _ r)
  | .lst ds, _, h => by
    cases h with
    | lst o s r => exact .lst ⟨o, fun n => by rw [n] at s; cases s⟩ s (Reps.dom ds _ r)
  | .dic ks ds, _, h => by
    cases h with
    | dic o s e r => exact .dic ⟨o, fun n => by rw [n] at s; cases s⟩ s e (Reps.dom ds _ r)
theorem Reps.dom {K : PySem.W.Frag} {H : Hp} {ok : Addr → Prop} : ∀ (ds : List D) (vs : List V), Reps K H ok vs ds → Reps K H (fun a => ok a ∧ H a ≠ none) vs ds
  | [], _, h => by cases h; exact .nil
  | d :: ds, _, h => by
    cases h with
    | cons a r => exact .cons (Rep.dom d _ a) (Reps.dom ds _ r)
end
def Walk (K : PySem.W.Frag) (H : Hp) (ok : Addr → Prop) (J : It) (ds : List D) : Prop := ∀ Hb, Keeps (fun a => ok a ∧ H a ≠ none) H Hb → ∀ (i : Nat) (H' : Hp), Same Hb H' →
  (∀ d, ds[i]? = some d → J.go i H' ∧ ∀ x H'', J.yld i H' x H'' → Same H' H'' ∧ Rep K H'' (fun a => ok a ∧ H a ≠ none) x d) ∧ (ds[i]? = none → J.stop i H')
def tI (K : PySem.W.Frag) (m : Ma) : TI := fun σ H R => ∃ ok S ds, Rs K H ok S σ ∧ m S = some ds ∧ ∀ J H', Same H H' → Walk K H' (ex ok H) J ds → R J H'
abbrev Ei (X : Cx) (tg e : Expr) (m : Ma) : Prop := PI X tg e (tI X.K m)
section
variable {K : PySem.W.Frag} {H : Hp} {ok : Addr → Prop}
theorem walk_list {p : Addr} {ws : List V} {es : List D} (o : ok p) (h : H p = some (.lst ws)) (r : Reps K H ok ws es) : Walk K H ok (Itl K p) es := fun Hb k i H' s => by
  have hp : H' p = some (.lst ws) := s _ _ (k _ _ h (.inl ⟨o, fun n => by rw [n] at h; cases h⟩))
  have r' : Reps K H' (fun a => ok a ∧ H a ≠ none) ws es := ((Reps.dom es ws r).keeps k fun _ z => z).keeps (Same.keeps s) fun _ z => z
  refine ⟨fun d hd => ?_, fun hn => ⟨ws, SqL.of hp, ?_⟩⟩
  · obtain ⟨v, hv, rv⟩ := r'.get hd
    exact ⟨⟨ws, v, SqL.of hp, hv⟩, fun x H'' y => by
      obtain ⟨e, y⟩ := y
      subst e
      have := y ws (SqL.of hp)
      rw [hv] at this
      cases this
      exact ⟨Same.refl _, rv⟩⟩
  · rw [r'.length]
    exact List.getElem?_eq_none_iff.mp hn
theorem walk_sqt {p : Addr} {ws : List V} {es : List D} (h : SqT K H p ws) (r : Reps K H ok ws es) : Walk K H ok (Itt K p) es := fun Hb k i H' s => by
  have hp : SqT K H' p ws := keeps_tup (Same.keeps (ok := fun _ => True) s) (keeps_tup k h)
  have r' : Reps K H' (fun a => ok a ∧ H a ≠ none) ws es := ((Reps.dom es ws r).keeps k fun _ z => z).keeps (Same.keeps s) fun _ z => z
  refine ⟨fun d hd => ?_, fun hn => ⟨ws, hp, ?_⟩⟩
  · obtain ⟨v, hv, rv⟩ := r'.get hd
    exact ⟨⟨ws, v, hp, hv⟩, fun x H'' y => by
      obtain ⟨e, y⟩ := y
      subst e
      have := y ws hp
      rw [hv] at this
      cases this
      exact ⟨Same.refl _, rv⟩⟩
  · rw [r'.length]
    exact List.getElem?_eq_none_iff.mp hn
def rangeL (lo : Int) (n : Nat) : List D := (List.range n).map fun (i : Nat) => .int (lo + i)
theorem rangeL_get (lo : Int) (n i : Nat) : (rangeL lo n)[i]? = if i < n then some (.int (lo + i)) else none := by
  unfold rangeL
  by_cases h : i < n
  · rw [if_pos h, List.getElem?_map, List.getElem?_range h]
    rfl
  · rw [if_neg h, List.getElem?_eq_none_iff.mpr (by rw [List.length_map, List.length_range]; omega)]
theorem walk_range {lo : Int} {n : Nat} : Walk K H ok (Itr lo n) (rangeL lo n) := fun Hb k i H' s => by
  rw [rangeL_get]
  refine ⟨fun d hd => ?_, fun hn => ?_⟩
  · by_cases h : i < n
    · rw [if_pos h] at hd
      cases hd
      exact ⟨h, fun x H'' y => by
        obtain ⟨e, y⟩ := y
        subst e y
        exact ⟨Same.refl _, .int _⟩⟩
    · rw [if_neg h] at hd
      cases hd
  · by_cases h : i < n
    · rw [if_pos h] at hn; cases hn
    · exact Nat.le_of_not_lt h
end
section
variable {X : Cx} {tg e e2 a b : Expr} {ma mb : Mi} {mr : Ma} {pos p tpos : Pos}
def itL (m : Mi) : Ma := fun S => (m S).bind fun | .lst ds => some ds | _ => none
def itT (m : Mi) : Ma := fun S => (m S).bind fun | .tup ds => some ds | .wt ds => some ds | _ => none
theorem ei_list (h : Ev X e ma) : Ei X tg e (itL ma) := PI.imp (pi_list h) fun σ H R hh => by
  obtain ⟨ok, S, ds, rs, m, q⟩ := hh
  obtain ⟨d, h1, m1⟩ := bind_some m
  refine ⟨ok, S, d, rs, h1, fun v H1 s r => ?_⟩
  cases r with
  | lst o h r => cases m1; exact ⟨_, rfl, ⟨_, SqL.of h⟩, q _ H1 s (walk_list o h r)⟩
  | _ => cases m1
theorem ei_tup (h : Ev X e ma) : Ei X tg e (itT ma) := PI.imp (pi_tup h) fun σ H R hh => by
  obtain ⟨ok, S, ds, rs, m, q⟩ := hh
  obtain ⟨d, h1, m1⟩ := bind_some m
  refine ⟨ok, S, d, rs, h1, fun v H1 s r => ?_⟩
  cases r with
  | tup h r => cases m1; exact ⟨_, rfl, ⟨_, SqT.of h⟩, q _ H1 s (walk_sqt (SqT.of h) r)⟩
  | wt h r => cases m1; exact ⟨_, rfl, ⟨_, h⟩, q _ H1 s (walk_sqt h r)⟩
  | fz h r => cases m1
  | _ => cases m1
def itR1 (m : Ma) : Ma := fun S => (m S).bind fun
  | [.int n] => if -4611686018427387904 ≤ n ∧ n < 4611686018427387904 then some (rangeL 0 n.toNat) else none
  | _ => none
def itR2 (m : Ma) : Ma := fun S => (m S).bind fun
  | [.int k, .int n] => if -4611686018427387904 ≤ k ∧ k < 4611686018427387904 ∧ -4611686018427387904 ≤ n ∧ n < 4611686018427387904 then some (rangeL k (n - k).toNat) else none
  | _ => none
theorem ei_range1 (hg : Gl X "range") (hm : X.mg "range" = none) (ha : Ea X [a] mr) (hs : starEach [a] X.env = [(false, eval a X.env)] := by rfl) : Ei X tg (.Call (.Name "range" p) [a] [] pos) (itR1 mr) :=
  PI.imp (pi_range1 hg hm ha hs) fun σ H R hh => by
    obtain ⟨ok, S, ds, rs, m, q⟩ := hh
    obtain ⟨xs, h1, m1⟩ := bind_some m
    refine ⟨ok, S, xs, rs, h1, fun vs H1 s r => ?_⟩
    split at m1
    · split at m1
      · next c =>
        cases m1
        cases r with
        | cons x r => cases r; cases x; exact ⟨_, rfl, c.1, c.2, q _ H1 s walk_range⟩
      · cases m1
    · cases m1
theorem ei_range2 (hg : Gl X "range") (hm : X.mg "range" = none) (ha : Ea X [a, b] mr) (hs : starEach [a, b] X.env = [(false, eval a X.env), (false, eval b X.env)] := by rfl) (hs2 : starEach [b] X.env = [(false, eval b X.env)] := by rfl) : Ei X tg (.Call (.Name "range" p) [a, b] [] pos) (itR2 mr) :=
  PI.imp (pi_range2 hg hm ha hs hs2) fun σ H R hh => by
    obtain ⟨ok, S, ds, rs, m, q⟩ := hh
    obtain ⟨xs, h1, m1⟩ := bind_some m
    refine ⟨ok, S, xs, rs, h1, fun vs H1 s r => ?_⟩
    split at m1
    · split at m1
      · next c =>
        cases m1
        cases r with
        | cons x r => cases r with
          | cons y r => cases r; cases x; cases y; exact ⟨_, _, rfl, ⟨c.1, c.2.1, c.2.2.1, c.2.2.2⟩, q _ H1 s walk_range⟩
      · cases m1
    · cases m1
end

/-! ### targets -/
inductive Tg where
  | nm (i : Nat)
  | tp (ts : List Tg)
mutual
def asg : Tg → D → Sd → Option Sd
  | .nm i, d, S => some (S.set i (some d))
  | .tp ts, .tup ds, S => asgs ts ds S
  | .tp ts, .wt ds, S => asgs ts ds S
  | .tp _, _, _ => none
def asgs : List Tg → List D → Sd → Option Sd
  | [], [], S => some S
  | t :: ts, d :: ds, S => (asg t d S).bind fun S1 => asgs ts ds S1
  | _, _, _ => none
end
end Ice

/-! targets, comprehensions, statements, defs -/
namespace Ice
open PySem PySem.Spec PyProof.Rows L2

/-! ### slots that are stored -/
mutual
def sl : Tg → List Nat
  | .nm i => [i]
  | .tp ts => sls ts
def sls : List Tg → List Nat
  | [] => []
  | t :: ts => sl t ++ sls ts
end
/-- σ' is σ but for the slots in l -/
def But (l : List Nat) (σ σ' : L2.St) : Prop := σ'.length = σ.length ∧ ∀ (i : Nat), i ∉ l → σ'[i]? = σ[i]?
theorem But.refl (σ : L2.St) : But [] σ σ := ⟨rfl, fun _ _ => rfl⟩
theorem But.trans {l m : List Nat} {σ σ1 σ2 : L2.St} (a : But l σ σ1) (b : But m σ1 σ2) : But (l ++ m) σ σ2 :=
  ⟨b.1.trans a.1, fun i h => (b.2 i fun z => h (List.mem_append_right _ z)).trans (a.2 i fun z => h (List.mem_append_left _ z))⟩
theorem But.mono {l m : List Nat} {σ σ1 : L2.St} (a : But l σ σ1) (h : ∀ i ∈ l, i ∈ m) : But m σ σ1 := ⟨a.1, fun i g => a.2 i fun z => g (h i z)⟩
theorem wipe_get (σ : L2.St) (i : Nat) : ∀ vs : List Nat, (wipe σ vs)[i]? = if i ∈ vs then (if i < σ.length then some none else none) else σ[i]?
  | [] => by simp [wipe]
  | v :: vs => by
    unfold wipe
    have ih := wipe_get σ i vs
    by_cases e : v = i
    · subst e
      rw [if_pos List.mem_cons_self, List.getElem?_set, if_pos rfl, wipe_length]
    · rw [List.getElem?_set_ne e, ih]
      have : i ∈ v :: vs ↔ i ∈ vs := ⟨fun h => (List.mem_cons.mp h).elim (fun z => absurd z.symm e) (fun z => z), List.mem_cons_of_mem _⟩
      by_cases h : i ∈ vs
      · rw [if_pos h, if_pos (this.mpr h)]
      · rw [if_neg h, if_neg fun z => h (this.mp z)]
theorem wipe_but {vs : List Nat} {σ σ' : L2.St} (h : But vs σ σ') : wipe σ' vs = wipe σ vs := by
  refine List.ext_getElem? fun i => ?_
  rw [wipe_get, wipe_get, h.1]
  by_cases c : i ∈ vs
  · rw [if_pos c, if_pos c]
  · rw [if_neg c, if_neg c, h.2 i c]
def wipeD (S : Sd) : List Nat → Sd
  | [] => S
  | v :: vs => (wipeD S vs).set v none
theorem wipeD_get (S : Sd) (i : Nat) : ∀ vs : List Nat, ∀ d, (wipeD S vs)[i]? = some (some d) → S[i]? = some (some d) ∧ i ∉ vs
  | [], d, h => ⟨h, by simp⟩
  | v :: vs, d, h => by
    unfold wipeD at h
    by_cases e : v = i
    · subst e
      rw [List.getElem?_set, if_pos rfl] at h
      split at h <;> cases h
    · rw [List.getElem?_set_ne e] at h
      obtain ⟨h1, h2⟩ := wipeD_get S i vs d h
      exact ⟨h1, fun z => (List.mem_cons.mp z).elim (fun z => e z.symm) h2⟩
theorem Rs.wipe {K : PySem.W.Frag} {H : Hp} {ok : Addr → Prop} {S : Sd} {σ : L2.St} (r : Rs K H ok S σ) (vs : List Nat) : Rs K H ok (wipeD S vs) (L2.wipe σ vs) := fun i d e => by
  obtain ⟨h1, h2⟩ := wipeD_get S i vs d e
  obtain ⟨v, e1, e2⟩ := r i d h1
  exact ⟨v, by rw [wipe_get, if_neg h2]; exact e1, e2⟩

theorem Rs.put {K : PySem.W.Frag} {H : Hp} {ok : Addr → Prop} {S : Sd} {σ : L2.St} {i : Nat} {d : D} {v : V} (r : Rs K H ok S σ) (hi : i < σ.length) (rv : Rep K H ok v d) : Rs K H ok (S.set i (some d)) (σ.set i (some v)) := fun j e h => by
  by_cases c : i = j
  · subst c
    rw [List.getElem?_set, if_pos rfl] at h
    split at h
    · cases h
      exact ⟨v, List.getElem?_set_self hi, rv⟩
    · cases h
  · rw [List.getElem?_set_ne c] at h
    obtain ⟨u, e1, e2⟩ := r j e h
    exact ⟨u, by rw [List.getElem?_set_ne c]; exact e1, e2⟩

/-- a target's reading -/
def tG (K : PySem.W.Frag) (t : Tg) : TG := fun v σ H Q => ∃ ok S d S', (∀ i ∈ sl t, i < σ.length) ∧ Rs K H ok S σ ∧ Rep K H ok v d ∧ asg t d S = some S' ∧ ∀ σ', But (sl t) σ σ' → Rs K H ok S' σ' → Q σ' H
def tGs (K : PySem.W.Frag) (ts : List Tg) : TGs := fun vs σ H Q => ∃ ok S ds S', (∀ i ∈ sls ts, i < σ.length) ∧ Rs K H ok S σ ∧ Reps K H ok vs ds ∧ asgs ts ds S = some S' ∧ ∀ σ', But (sls ts) σ σ' → Rs K H ok S' σ' → Q σ' H
abbrev Eg (X : Cx) (e : Expr) (t : Tg) : Prop := PG X e (tG X.K t)
abbrev Egs (X : Cx) (es : List Expr) (ts : List Tg) : Prop := PGs X es (tGs X.K ts)
theorem PG.imp {X : Cx} {e : Expr} {t t' : TG} (h : PG X e t) (g : ∀ v σ H Q, t' v σ H Q → t v σ H Q) : PG X e t' := ⟨fun pins s σ H x u Q I r q => h.run pins s σ H x u Q I r (g x σ H Q q)⟩
theorem PGs.imp {X : Cx} {es : List Expr} {t t' : TGs} (h : PGs X es t) (g : ∀ v σ H Q, t' v σ H Q → t v σ H Q) : PGs X es t' := ⟨fun pins s σ H x u Q I r q => h.run pins s σ H x u Q I r (g x σ H Q q)⟩
section
variable {X : Cx} {e : Expr} {es : List Expr} {pos : Pos}
theorem eg_nm (i : Nat) {x : Str} (hN : X.N.Nodup) (hi : X.N[i]? = some x := by rfl) (hx : Loc X.env.scope x := by first | exact Or.inl rfl | exact Or.inr rfl) (hf : X.fn x = true ∨ X.env.scope.names.lookup x = some .local := by first | exact .inl rfl | exact .inr rfl) : Eg X (.Name x pos) (.nm i) :=
  PG.imp (pg_name hN hi hx hf) fun v σ H Q h => by
    obtain ⟨ok, S, d, S', hl, rs, rv, a, q⟩ := h
    have a' : some (S.set i (some d)) = some S' := a
    cases a'
    have hi : i < σ.length := hl i (by simp [sl])
    exact q _ ⟨List.length_set, fun j hj => List.getElem?_set_ne fun z => hj (by simp [sl, z])⟩ (rs.put hi rv)
theorem egs_nil : Egs X [] [] := PGs.imp pgs_nil fun v σ H Q h => by
  obtain ⟨ok, S, ds, S', hl, rs, rv, a, q⟩ := h
  cases rv with
  | nil =>
    have a' : some S = some S' := a
    cases a'
    exact ⟨rfl, q σ (But.refl σ) rs⟩
  | cons _ _ => cases a
theorem egs_cons {t : Tg} {ts : List Tg} (h1 : Eg X e t) (h2 : Egs X es ts) (hs : (assignEach (e :: es) X.env).map (fun x => x.2) = assign e X.env :: (assignEach es X.env).map (fun x => x.2) := by rfl) : Egs X (e :: es) (t :: ts) := PGs.imp (pgs_cons h1 h2 hs) fun v σ H Q h => by
  obtain ⟨ok, S, ds, S', hl, rs, rv, a, q⟩ := h
  cases rv with
  | nil => cases a
  | cons rv rr =>
    obtain ⟨S1, a1, a2⟩ := bind_some (show (asg t _ S).bind (fun S1 => asgs ts _ S1) = some S' from a)
    refine ⟨_, _, rfl, ok, S, _, S1, fun i hi => hl i (List.mem_append_left _ hi), rs, rv, a1, fun σ1 b1 rs1 => ?_⟩
    exact ⟨ok, S1, _, S', fun i hi => by rw [b1.1]; exact hl i (List.mem_append_right _ hi), rs1, rr, a2, fun σ2 b2 rs2 => q σ2 (b1.trans b2) rs2⟩
theorem eg_tp {k : Nat} {ts : List Tg} (h : Egs X es ts) (hn : (assignEach es X.env).length = ts.length := by rfl) (hst : (assignEach es X.env).findIdx? (fun x => x.1) = none := by rfl) (hc : X.calm = true := by rfl) : Eg X (.Tuple es k pos) (.tp ts) := PG.imp (pg_tup (n := (assignEach es X.env).length) hc h rfl hst) fun v σ H Q h => by
  obtain ⟨ok, S, d, S', hl, rs, rv, a, q⟩ := h
  have len : ∀ {ts : List Tg} {ds : List D} {S S' : Sd}, asgs ts ds S = some S' → ds.length = ts.length := by
    intro ts
    induction ts with
    | nil => intro ds S S' h; cases ds with
      | nil => rfl
      | cons _ _ => cases h
    | cons t ts ih => intro ds S S' h; cases ds with
      | nil => cases h
      | cons d ds =>
        obtain ⟨S1, _, h2⟩ := bind_some (show (asg t d S).bind (fun S1 => asgs ts ds S1) = some S' from h)
        exact congrArg (· + 1) (ih h2)
  cases rv with
  | tup h r =>
    have a' : asgs ts _ S = some S' := a
    exact ⟨_, _, rfl, SqT.of h, by rw [r.length, len a', ← hn], ok, S, _, S', hl, rs, r, a', q⟩
  | wt h r =>
    have a' : asgs ts _ S = some S' := a
    exact ⟨_, _, rfl, h, by rw [r.length, len a', ← hn], ok, S, _, S', hl, rs, r, a', q⟩
  | _ => cases a
end

/-! ### list comprehensions of one clause -/
def compM (vs : List Nat) (t : Tg) (tt : Mt) (me : Mi) (S : Sd) : List D → Option (List D)
  | [] => some []
  | d :: r => (asg t d (wipeD S vs)).bind fun S1 => (tt S1).bind fun c => if c = true then (me S1).bind fun y => (compM vs t tt me S r).map fun ys => y :: ys else compM vs t tt me S r
def mLc (mi : Ma) (vs : List Nat) (t : Tg) (tt : Mt) (me : Mi) : Mi := fun S => (mi S).bind fun ds => if ds.length ≤ 1000000 then (compM vs t tt me S ds).map .lst else none
def mYes : Mt := fun _ => some true
theorem Keeps.trans {ok : Addr → Prop} {H H1 H2 : Hp} (a : Keeps ok H H1) (b : Keeps ok H1 H2) : Keeps ok H H2 := fun c o e g => b c o (a c o e g) g
abbrev Ets (X : Cx) (ifs : List Expr) (m : Mt) : Prop := PTs X ifs (tT X.K m)
theorem PTs.imp {X : Cx} {ifs : List Expr} {t t' : TT} (h : PTs X ifs t) (g : ∀ σ H Q, t' σ H Q → t σ H Q) : PTs X ifs t' := ⟨fun pins s σ H Q I q => h.run pins s σ H Q I (g σ H Q q)⟩
theorem ets_nil {X : Cx} : Ets X [] mYes := PTs.imp pts_nil fun σ H Q h => by
  obtain ⟨ok, S, b, rs, m, q⟩ := h
  cases m
  exact q H (Same.refl H)
theorem ets_one {X : Cx} {c : Expr} {m : Mt} (h : Et X c m) : Ets X [c] m := pts_one h
theorem t_lc {K : PySem.W.Frag} {mi : Ma} {vs : List Nat} {t : Tg} {tt : Mt} {me : Mi} {σ : L2.St} {H : Hp} {Q : VK} (hv : ∀ i ∈ sl t, i ∈ vs ∧ i < σ.length) (h : tE K (mLc mi vs t tt me) σ H Q) : tLc (tI K mi) (tG K t) (tT K tt) (tE K me) vs σ H Q := by
  obtain ⟨ok, S, dz, rs, m, q⟩ := h
  obtain ⟨ds, h1, m1⟩ := bind_some m
  by_cases hlen : ds.length ≤ 1000000
  case neg => rw [if_neg hlen] at m1; cases m1
  rw [if_pos hlen] at m1
  cases hys : compM vs t tt me S ds with
  | none => rw [hys] at m1; cases m1
  | some ys =>
  rw [hys] at m1
  cases m1
  refine ⟨ok, S, ds, rs, h1, fun J H1 s1 wk D hD => ?_⟩
  have hD0 : H D = none := s1.free hD
  -- the good ones: all but D
  let okD : Addr → Prop := fun a => ex ok H a ∧ a ≠ D
  let okc : Addr → Prop := fun a => ex ok H a ∧ H1 a ≠ none
  have okcD : ∀ a, okc a → okD a := fun a h => ⟨h.1, fun z => h.2 (by rw [z]; exact hD)⟩
  refine ⟨fun i n H' => n = ds.length - i ∧ i ≤ ds.length ∧ Same H1 H' ∧ ∃ acc accd rest, H' D = some (.lst acc) ∧ acc.length ≤ i ∧ Reps K H' okD acc accd ∧ compM vs t tt me S (ds.drop i) = some rest ∧ accd ++ rest = ys,
    ⟨ds.length, rfl, Nat.zero_le _, same_new hD, [], [], ys, upd_same, Nat.le_refl _, .nil, hys, rfl⟩, ?_⟩
  rintro i n H' ⟨rfl, hi, s2, acc, accd, rest, hacc, hal, racc, hrest, hcat⟩
  have wk' := wk H1 (fun a o e _ => e) i H' s2
  by_cases hlt : i < ds.length
  · have hg : ds[i]? = some ds[i] := List.getElem?_eq_getElem hlt
    have hdrop : ds.drop i = ds[i] :: ds.drop (i + 1) := List.drop_eq_getElem_cons hlt
    obtain ⟨go, yl⟩ := wk'.1 _ hg
    rw [hdrop] at hrest
    obtain ⟨S1, ha, hrest⟩ := bind_some (show (asg t ds[i] (wipeD S vs)).bind _ = some rest from hrest)
    obtain ⟨c, hc, hrest⟩ := bind_some hrest
    let Nx : Hp → Prop := fun H'' => i + 1 ≤ ds.length ∧ Same H1 H'' ∧ ∃ acc accd rest, H'' D = some (.lst acc) ∧ acc.length ≤ i + 1 ∧ Reps K H'' okD acc accd ∧ compM vs t tt me S (ds.drop (i + 1)) = some rest ∧ accd ++ rest = ys
    refine .inr ⟨go, Nx, fun H'' nx => ⟨ds.length - (i + 1), by omega, rfl, nx⟩, fun x H3 y => ?_⟩
    obtain ⟨s3, rx⟩ := yl x H3 y
    have s13 := s2.trans s3
    have rs3 : Rs K H3 okc (wipeD S vs) (wipe σ vs) := ((Rs.wipe (fun i d e => by
      obtain ⟨v, e1, e2⟩ := rs i d e
      exact ⟨v, e1, Rep.dom d v e2⟩ : Rs K H (fun a => ok a ∧ H a ≠ none) S σ) vs)).keeps (Same.keeps (s1.trans s13)) fun a h => ⟨.inl h.1, fun z => h.2 (s1.free z)⟩
    refine ⟨okc, wipeD S vs, ds[i], S1, fun j hj => by rw [wipe_length]; exact (hv j hj).2, rs3, rx, ha, fun σ2 b2 rs2 => ⟨?_, okc, S1, c, rs2, hc, fun H4 s4 => ?_⟩⟩
    · have hw : wipe (wipe σ vs) vs = wipe σ vs := wipe_but ⟨wipe_length σ vs, fun j hj => by rw [wipe_get, if_neg hj]⟩
      rw [wipe_but (b2.mono fun j hj => (hv j hj).1), hw]
    have hacc4 : H4 D = some (.lst acc) := s4 _ _ (s3 _ _ hacc)
    have racc4 : Reps K H4 okD acc accd := racc.keeps (Same.keeps (s3.trans s4)) fun _ z => z
    cases c with
    | false =>
      rw [if_neg Bool.false_ne_true] at hrest
      exact ⟨hlt, s13.trans s4, acc, accd, rest, hacc4, Nat.le_succ_of_le hal, racc4, hrest, hcat⟩
    | true =>
      rw [if_pos rfl] at hrest
      obtain ⟨yd, hy, hrest⟩ := bind_some hrest
      cases hr2 : compM vs t tt me S (ds.drop (i + 1)) with
      | none => rw [hr2] at hrest; cases hrest
      | some rest2 =>
      rw [hr2] at hrest
      cases hrest
      refine ⟨okc, S1, yd, rs2.keeps (Same.keeps s4) (fun _ z => z), hy, fun yv H5 s5 ry => ?_⟩
      have hacc5 : H5 D = some (.lst acc) := s5 _ _ hacc4
      refine ⟨acc, hacc5, Nat.lt_of_le_of_lt hal (Nat.lt_of_lt_of_le hlt (Nat.le_trans hlen (by decide))), hlt, ?_, acc ++ [yv], accd ++ [yd], rest2, upd_same, ?_, ?_, hr2, ?_⟩
      · intro a o e
        have ne : a ≠ D := ne_of_none e hD
        rw [upd_ne ne]
        exact s5 _ _ (s4 _ _ (s13 _ _ e))
      · rw [List.length_append]
        exact Nat.succ_le_succ hal
      · have kp : Keeps okD H5 (upd H5 D (.lst (acc ++ [yv]))) := fun a o e g => by
          have ne : a ≠ D := fun z => by
            rw [z] at e g
            rw [hacc5] at e
            cases e
            exact g.elim (fun g => g.2 rfl) fun g => g
          rw [upd_ne ne]
          exact e
        refine Reps.append ((racc4.keeps (Same.keeps s5) fun _ z => z).keeps kp fun _ z => z) (.cons ((ry.keeps (Same.keeps (Same.refl _)) fun a h => ?_).keeps kp fun _ z => z) .nil)
        rcases h with h | h
        · exact okcD a h
        · refine ⟨.inr ?_, fun z => ?_⟩
          · exact s1.free (s13.free (s4.free h))
          · rw [z, hacc4] at h
            cases h
      · rw [List.append_assoc]
        exact hcat
  · have e : i = ds.length := by omega
    subst e
    rw [List.drop_length] at hrest
    cases hrest
    rw [List.append_nil] at hcat
    subst hcat
    refine .inl ⟨wk'.2 (List.getElem?_eq_none_iff.mpr (Nat.le_refl _)), q _ H' (s1.trans s2) (.lst (.inr hD0) hacc (racc.keeps (Same.keeps (Same.refl _)) fun a h => h.1))⟩
section
variable {X : Cx}
theorem lt_of_own {own : List (Str × Nat)} {σ : L2.St} {scope sc : Scope} (ok : BlkOk X.N sc scope own) (hl : σ.length = X.N.length) {i : Nat} (h : i ∈ own.map (·.2)) : i < σ.length := by
  obtain ⟨p, hp, e⟩ := List.mem_map.mp h
  subst e
  rw [hl]
  exact (List.getElem?_eq_some_iff.mp (ok.ix p hp)).1
theorem ev_lc {elt tg iter : Expr} {ifs : List Expr} {scope : Scope} {pos : Pos} {mi : Ma} {t : Tg} {tt : Mt} {me : Mi} (own : List (Str × Nat)) (hN : X.N.Nodup) (hi : Ei X tg iter mi) (ok : BlkOk X.N X.env.scope scope own)
    (hg : ∀ (s : Shared) (H : Hp) (C : Addr) (cl : List (Str × Addr)) (fp : List Addr), Eg (X.blk s H scope (compEnvC scope cl C X.env) fp) tg t) (ht : ∀ (s : Shared) (H : Hp) (C : Addr) (cl : List (Str × Addr)) (fp : List Addr), Ets (X.blk s H scope (compEnvC scope cl C X.env) fp) ifs tt)
    (he : ∀ (s : Shared) (H : Hp) (C : Addr) (cl : List (Str × Addr)) (fp : List Addr), Ev (X.blk s H scope (compEnvC scope cl C X.env) fp) elt me) (hs : ∀ x, foldedSetIterable iter X.env x = pure x := by intro _; rfl)
    (hv : ∀ i ∈ sl t, i ∈ own.map (·.2) := by decide) (hc : X.calm = true := by rfl) : Ev X (.ListComp elt [⟨tg, iter, ifs, 0⟩] scope pos) (mLc mi (own.map (·.2)) t tt me) := by
  refine ⟨fun pins s σ H Q I h => (pe_lc hc hN hi ok hg ht he hs).run pins s σ H Q I (t_lc (fun i h => ⟨hv i h, lt_of_own ok I.len (hv i h)⟩) h)⟩
end
end Ice

/-! statements over data, defs by their mirrors -/
namespace Ice
open PySem PySem.Spec PyProof.Rows L2

/-- a name's state: unknown, data, a list of its own (that may grow) -/
inductive SL where
  | un
  | dat (d : D)
  | own (ds : List D)
  /- the one list that a caller lends to be changed -/
  | din (ds : List D)
abbrev Sl := List SL
inductive Out where
  | nx (S : Sl)
  | rt (d : D) (S : Sl)
  | bk (S : Sl)
  | ct (S : Sl)
/-- what stands of the names: O the addresses of the lists that are owned -/
structure RO (K : PySem.W.Frag) (p0 : Addr) (H0 : Hp) (ok0 O : Addr → Prop) (S : Sl) (σ : L2.St) (H : Hp) : Prop where
  same : Same H0 H
  len : S.length = σ.length
  own0 : ∀ a, O a → H0 a = none ∧ ∃ vs, H a = some (.lst vs)
  dat : ∀ (i : Nat) (d : D), S[i]? = some (.dat d) → ∃ v, σ[i]? = some (some v) ∧ Rep K H (fun a => ex ok0 H0 a ∧ ¬ O a) v d
  own : ∀ (i : Nat) (ds : List D), S[i]? = some (.own ds) → ∃ p vs, σ[i]? = some (some (.ref p)) ∧ O p ∧ H p = some (.lst vs) ∧ Reps K H (fun a => ex ok0 H0 a ∧ ¬ O a) vs ds
  inj : ∀ (i j : Nat) (ds es : List D) (p : Addr), i ≠ j → S[i]? = some (.own ds) → S[j]? = some (.own es) → σ[i]? = some (some (.ref p)) → σ[j]? = some (some (.ref p)) → False
  din : ∀ (i : Nat) (ds : List D), S[i]? = some (.din ds) → ∃ vs, σ[i]? = some (some (.ref p0)) ∧ O p0 ∧ H p0 = some (.lst vs) ∧ Reps K H (fun a => ex ok0 H0 a ∧ ¬ O a) vs ds
  inj0 : ∀ (i j : Nat) (ds es : List D), S[i]? = some (.own ds) → S[j]? = some (.din es) → σ[i]? = some (some (.ref p0)) → False
  one : ∀ (i j : Nat) (ds es : List D), S[i]? = some (.din ds) → S[j]? = some (.din es) → i = j
def RS (K : PySem.W.Frag) (p0 : Addr) (H0 : Hp) (ok0 : Addr → Prop) (S : Sl) (σ : L2.St) (H : Hp) : Prop := ∃ O, RO K p0 H0 ok0 O S σ H
def clos : SL → Option D
  | .dat d => some d
  | _ => none
def opn : SL → Option D
  | .dat d => some d
  | .own ds => some (.lst ds)
  | .din ds => some (.lst ds)
  | .un => none
def flt : SL → Option D
  | .dat d => if flat d = true then some d else none
  | _ => none
abbrev cl (S : Sl) : Sd := S.map clos
abbrev op (S : Sl) : Sd := S.map opn
abbrev fl (S : Sl) : Sd := S.map flt
section
variable {K : PySem.W.Frag} {p0 : Addr} {H0 H H' : Hp} {ok0 O : Addr → Prop} {S : Sl} {σ : L2.St}
theorem map_get {f : SL → Option D} {i : Nat} {d : D} (h : (S.map f)[i]? = some (some d)) : ∃ s, S[i]? = some s ∧ f s = some d := by
  rw [List.getElem?_map] at h
  cases e : S[i]? with
  | none => rw [e] at h; cases h
  | some s => rw [e] at h; exact ⟨s, rfl, Option.some.inj h⟩
theorem set_back {i j : Nat} {s t : SL} (h : (S.set i s)[j]? = some t) (ne : s ≠ t) : i ≠ j ∧ S[j]? = some t := by
  by_cases c : i = j
  · subst c
    rw [List.getElem?_set, if_pos rfl] at h
    split at h
    · cases h; exact absurd rfl ne
    · cases h
  · rw [List.getElem?_set_ne c] at h; exact ⟨c, h⟩
theorem RO.closed (r : RO K p0 H0 ok0 O S σ H) : Rs K H (fun a => ex ok0 H0 a ∧ ¬ O a) (cl S) σ := fun i d h => by
  obtain ⟨s, e, f⟩ := map_get h
  cases s with
  | dat d' => cases f; exact r.dat i _ e
  | _ => cases f
theorem RO.opened (r : RO K p0 H0 ok0 O S σ H) : Rs K H (ex ok0 H0) (op S) σ := fun i d h => by
  obtain ⟨s, e, f⟩ := map_get h
  cases s with
  | dat d' =>
    cases f
    obtain ⟨v, h1, h2⟩ := r.dat i _ e
    exact ⟨v, h1, h2.keeps (Same.keeps (Same.refl _)) fun _ z => z.1⟩
  | own ds =>
    cases f
    obtain ⟨p, vs, h1, h2, h3, h4⟩ := r.own i _ e
    exact ⟨_, h1, .lst (.inr (r.own0 p h2).1) h3 (h4.keeps (Same.keeps (Same.refl _)) fun _ z => z.1)⟩
  | din ds =>
    cases f
    obtain ⟨vs, h1, h2, h3, h4⟩ := r.din i _ e
    exact ⟨_, h1, .lst (.inr (r.own0 p0 h2).1) h3 (h4.keeps (Same.keeps (Same.refl _)) fun _ z => z.1)⟩
  | un => cases f
theorem RO.flatly (r : RO K p0 H0 ok0 O S σ H) : Rs K H (fun _ => False) (fl S) σ := fun i d h => by
  obtain ⟨s, e, f⟩ := map_get h
  cases s with
  | dat d' =>
    have f' : (if flat d' = true then some d' else none) = some d := f
    by_cases c : flat d' = true
    · rw [if_pos c] at f'
      cases f'
      obtain ⟨v, h1, h2⟩ := r.dat i _ e
      exact ⟨v, h1, h2.flat _ _ c⟩
    · rw [if_neg c] at f'
      cases f'
  | _ => cases f
/-- the heap has grown -/
theorem RO.grow (r : RO K p0 H0 ok0 O S σ H) (s : Same H H') : RO K p0 H0 ok0 O S σ H' :=
  ⟨r.same.trans s, r.len, fun a h => let ⟨h1, vs, h2⟩ := r.own0 a h; ⟨h1, vs, s _ _ h2⟩, fun i d h => let ⟨v, h1, h2⟩ := r.dat i d h; ⟨v, h1, h2.keeps (Same.keeps s) fun _ z => z⟩,
    fun i ds h => let ⟨p, vs, h1, h2, h3, h4⟩ := r.own i ds h; ⟨p, vs, h1, h2, s _ _ h3, h4.keeps (Same.keeps s) fun _ z => z⟩, r.inj,
    fun i ds h => let ⟨vs, h1, h2, h3, h4⟩ := r.din i ds h; ⟨vs, h1, h2, s _ _ h3, h4.keeps (Same.keeps s) fun _ z => z⟩, r.inj0, r.one⟩
theorem good_new (r : RO K p0 H0 ok0 O S σ H) {a : Addr} (h : ex (fun a => ex ok0 H0 a ∧ ¬ O a) H a) : ex ok0 H0 a ∧ ¬ O a := by
  rcases h with h | h
  · exact h
  · exact ⟨.inr (r.same.free h), fun o => by
      obtain ⟨_, vs, e⟩ := r.own0 a o
      rw [h] at e
      cases e⟩
theorem good_open (r : RO K p0 H0 ok0 O S σ H) {a : Addr} (h : ex (ex ok0 H0) H a) : ex ok0 H0 a := h.elim (fun z => z) fun z => .inr (r.same.free z)
/-- a slot is stored: data -/
theorem RO.put (r : RO K p0 H0 ok0 O S σ H) {i : Nat} {d : D} {v : V} (rv : Rep K H (fun a => ex ok0 H0 a ∧ ¬ O a) v d) : RO K p0 H0 ok0 O (S.set i (.dat d)) (σ.set i (some v)) H := by
  have len : (S.set i (.dat d)).length = (σ.set i (some v)).length := by rw [List.length_set, List.length_set, r.len]
  refine ⟨r.same, len, r.own0, fun j e h => ?_, fun j ds h => ?_, fun j k ds es p ne h1 h2 h3 h4 => ?_, fun j ds h => ?_, fun j k ds es h1 h2 h3 => ?_, fun j k ds es h1 h2 => ?_⟩
  · by_cases c : i = j
    · subst c
      rw [List.getElem?_set, if_pos rfl] at h
      split at h
      · next hl =>
        cases h
        exact ⟨v, List.getElem?_set_self (by rw [← r.len]; exact hl), rv⟩
      · cases h
    · rw [List.getElem?_set_ne c] at h
      obtain ⟨u, e1, e2⟩ := r.dat j e h
      exact ⟨u, by rw [List.getElem?_set_ne c]; exact e1, e2⟩
  · obtain ⟨c, h⟩ := set_back h (by intro z; cases z)
    obtain ⟨p, vs, e1, e2⟩ := r.own j ds h
    exact ⟨p, vs, by rw [List.getElem?_set_ne c]; exact e1, e2⟩
  · obtain ⟨cj, h1⟩ := set_back h1 (by intro z; cases z)
    obtain ⟨ck, h2⟩ := set_back h2 (by intro z; cases z)
    rw [List.getElem?_set_ne cj] at h3
    rw [List.getElem?_set_ne ck] at h4
    exact r.inj j k ds es p ne h1 h2 h3 h4
  · obtain ⟨c, h⟩ := set_back h (by intro z; cases z)
    obtain ⟨vs, e1, e2⟩ := r.din j ds h
    exact ⟨vs, by rw [List.getElem?_set_ne c]; exact e1, e2⟩
  · obtain ⟨cj, h1⟩ := set_back h1 (by intro z; cases z)
    obtain ⟨ck, h2⟩ := set_back h2 (by intro z; cases z)
    rw [List.getElem?_set_ne cj] at h3
    exact r.inj0 j k ds es h1 h2 h3
  · exact r.one j k ds es (set_back h1 (by intro z; cases z)).2 (set_back h2 (by intro z; cases z)).2
/-- a new list of one's own -/
theorem RO.putOwn (r : RO K p0 H0 ok0 O S σ H) {i : Nat} {ds : List D} {p : Addr} {vs : List V} (hp : H p = none) (hx : H' p = some (.lst vs)) (s : Same H H') (fd : flats ds = true) (rv : Reps K H' (ex (fun _ => False) H) vs ds) :
    RO K p0 H0 ok0 (fun a => O a ∨ a = p) (S.set i (.own ds)) (σ.set i (some (.ref p))) H' := by
  have r' := r.grow s
  have imp : ∀ {v : V} {d : D}, Rep K H (fun a => ex ok0 H0 a ∧ ¬ O a) v d → Rep K H' (fun a => ex ok0 H0 a ∧ ¬ (O a ∨ a = p)) v d := fun {v d} h =>
    (Rep.dom d v h).keeps (Same.keeps s) fun a g => ⟨g.1.1, fun z => z.elim g.1.2 fun z => g.2 (by rw [z]; exact hp)⟩
  have imps : ∀ {v : List V} {d : List D}, Reps K H (fun a => ex ok0 H0 a ∧ ¬ O a) v d → Reps K H' (fun a => ex ok0 H0 a ∧ ¬ (O a ∨ a = p)) v d := fun {v d} h =>
    (Reps.dom d v h).keeps (Same.keeps s) fun a g => ⟨g.1.1, fun z => z.elim g.1.2 fun z => g.2 (by rw [z]; exact hp)⟩
  have old : ∀ {m : Nat} {gs : List D} {q : Addr}, i ≠ m → (S.set i (.own ds))[m]? = some (.own gs) → (σ.set i (some (.ref p)))[m]? = some (some (.ref q)) → q ≠ p := fun {m gs q} c g1 g2 z => by
      rw [List.getElem?_set_ne c] at g1 g2
      obtain ⟨q', ws, e1, e2, e3, e4⟩ := r.own m gs g1
      rw [e1] at g2
      cases g2
      rw [z, hp] at e3
      cases e3
  have hl : ∀ {gs : List D} {q : Addr}, (S.set i (.own ds))[i]? = some (.own gs) → (σ.set i (some (.ref p)))[i]? = some (some (.ref q)) → q = p := fun {gs q} g1 g2 => by
      rw [List.getElem?_set, if_pos rfl] at g2
      split at g2
      · cases g2; rfl
      · cases g2
  refine ⟨r'.same, by rw [List.length_set, List.length_set, r.len], fun a h => h.elim (r'.own0 a) fun h => by rw [h]; exact ⟨r.same.free hp, vs, hx⟩, fun j e h => ?_, fun j es h => ?_, fun j k es fs q ne h1 h2 h3 h4 => ?_, fun j es h => ?_, fun j k es fs h1 h2 h3 => ?_, fun j k es fs h1 h2 => ?_⟩
  · by_cases c : i = j
    · subst c
      rw [List.getElem?_set, if_pos rfl] at h
      split at h <;> cases h
    · rw [List.getElem?_set_ne c] at h
      obtain ⟨u, e1, e2⟩ := r.dat j e h
      exact ⟨u, by rw [List.getElem?_set_ne c]; exact e1, imp e2⟩
  · by_cases c : i = j
    · subst c
      rw [List.getElem?_set, if_pos rfl] at h
      split at h
      · next hl =>
        cases h
        exact ⟨p, vs, List.getElem?_set_self (by rw [← r.len]; exact hl), .inr rfl, hx, rv.flat _ _ fd⟩
      · cases h
    · rw [List.getElem?_set_ne c] at h
      obtain ⟨q, ws, e1, e2, e3, e4⟩ := r.own j es h
      exact ⟨q, ws, by rw [List.getElem?_set_ne c]; exact e1, .inl e2, s _ _ e3, imps e4⟩
  · by_cases cj : i = j
    · by_cases ck : i = k
      · exact ne (cj.symm.trans ck)
      · subst cj
        exact old ck h2 h4 (hl h1 h3)
    · by_cases ck : i = k
      · subst ck
        exact old cj h1 h3 (hl h2 h4)
      · rw [List.getElem?_set_ne cj] at h1 h3
        rw [List.getElem?_set_ne ck] at h2 h4
        exact r.inj j k es fs q ne h1 h2 h3 h4
  · obtain ⟨c, h⟩ := set_back h (by intro z; cases z)
    obtain ⟨ws, e1, e2, e3, e4⟩ := r.din j es h
    exact ⟨ws, by rw [List.getElem?_set_ne c]; exact e1, .inl e2, s _ _ e3, imps e4⟩
  · obtain ⟨ck, h2⟩ := set_back h2 (by intro z; cases z)
    obtain ⟨ws, e1, e2, e3, e4⟩ := r.din k fs h2
    by_cases cj : i = j
    · subst cj
      rw [hl h1 h3, hp] at e3
      cases e3
    · rw [List.getElem?_set_ne cj] at h1 h3
      exact r.inj0 j k es fs h1 h2 h3
  · exact r.one j k es fs (set_back h1 (by intro z; cases z)).2 (set_back h2 (by intro z; cases z)).2
/-- all but one address stays -/
def SameX (p : Addr) (H H' : Hp) : Prop := ∀ a o, a ≠ p → H a = some o → H' a = some o
theorem sameX_upd {p : Addr} {o : HO} : SameX p H (upd H p o) := fun a x ne e => by
  rw [upd_ne ne]
  exact e
theorem RO.keepX (r : RO K p0 H0 ok0 O S σ H) {p : Addr} (hO : O p) {vs : List V} (hp : H p = some (.lst vs)) (x : SameX p H H') : Keeps (fun a => ex ok0 H0 a ∧ ¬ O a) H H' := fun a o e g => by
  have ne : a ≠ p := fun z => by
    rw [z] at e g
    rw [hp] at e
    cases e
    exact g.elim (fun g => g.2 hO) fun g => g
  exact x a o ne e
/-- an own list is changed -/
theorem RO.updOwn (r : RO K p0 H0 ok0 O S σ H) {i : Nat} {ds es : List D} {p : Addr} {ws : List V} (hS : S[i]? = some (.own ds)) (hσ : σ[i]? = some (some (.ref p))) (x : SameX p H H') (hp : H' p = some (.lst ws)) (rv : Reps K H' (fun a => ex ok0 H0 a ∧ ¬ O a) ws es) :
    RO K p0 H0 ok0 O (S.set i (.own es)) σ H' := by
  obtain ⟨p', vs', e1, e2, e3, e4⟩ := r.own i ds hS
  rw [hσ] at e1
  cases e1
  have kp := r.keepX e2 e3 x
  have back : ∀ {m : Nat} {gs : List D}, (S.set i (.own es))[m]? = some (.own gs) → ∃ hs, S[m]? = some (.own hs) := fun {m gs} g => by
      by_cases c : i = m
      · subst c; exact ⟨ds, hS⟩
      · rw [List.getElem?_set_ne c] at g; exact ⟨gs, g⟩
  refine ⟨fun a o e => x a o (ne_of_none e (r.own0 p e2).1) (r.same a o e), by rw [List.length_set, r.len], fun a h => ?_, fun j e h => ?_, fun j gs h => ?_, fun j k gs fs q ne h1 h2 h3 h4 => ?_, fun j gs h => ?_, fun j k gs fs h1 h2 h3 => ?_, fun j k gs fs h1 h2 => ?_⟩
  · obtain ⟨h1, us, h2⟩ := r.own0 a h
    by_cases c : a = p
    · subst c
      exact ⟨h1, _, hp⟩
    · exact ⟨h1, us, x a _ c h2⟩
  · obtain ⟨c, h⟩ := set_back h (by intro z; cases z)
    obtain ⟨u, e1, e2⟩ := r.dat j e h
    exact ⟨u, e1, e2.keeps kp fun _ z => z⟩
  · by_cases c : i = j
    · subst c
      rw [List.getElem?_set, if_pos rfl] at h
      split at h
      · cases h
        exact ⟨p, _, hσ, e2, hp, rv⟩
      · cases h
    · rw [List.getElem?_set_ne c] at h
      obtain ⟨q, us, f1, f2, f3, f4⟩ := r.own j gs h
      have ne : q ≠ p := fun z => by
        subst z
        exact r.inj i j ds gs q c hS h hσ f1
      exact ⟨q, us, f1, f2, x q _ ne f3, f4.keeps kp fun _ z => z⟩
  · obtain ⟨_, g1⟩ := back h1
    obtain ⟨_, g2⟩ := back h2
    exact r.inj j k _ _ q ne g1 g2 h3 h4
  · obtain ⟨c, h⟩ := set_back h (by intro z; cases z)
    obtain ⟨us, f1, f2, f3, f4⟩ := r.din j gs h
    have ne : p0 ≠ p := fun z => by
      subst z
      exact r.inj0 i j ds gs hS h hσ
    exact ⟨us, f1, f2, x _ _ ne f3, f4.keeps kp fun _ z => z⟩
  · obtain ⟨_, g1⟩ := back h1
    exact r.inj0 j k _ _ g1 (set_back h2 (by intro z; cases z)).2 h3
  · exact r.one j k gs fs (set_back h1 (by intro z; cases z)).2 (set_back h2 (by intro z; cases z)).2
/-- the lent list is changed -/
theorem RO.updDin (r : RO K p0 H0 ok0 O S σ H) {i : Nat} {ds es : List D} {ws : List V} (hS : S[i]? = some (.din ds)) (x : SameX p0 H H') (hp : H' p0 = some (.lst ws)) (rv : Reps K H' (fun a => ex ok0 H0 a ∧ ¬ O a) ws es) :
    RO K p0 H0 ok0 O (S.set i (.din es)) σ H' := by
  obtain ⟨vs', e1, e2, e3, e4⟩ := r.din i ds hS
  have kp := r.keepX e2 e3 x
  have back : ∀ {m : Nat} {gs : List D}, (S.set i (.din es))[m]? = some (.din gs) → ∃ hs, S[m]? = some (.din hs) := fun {m gs} g => by
      by_cases c : i = m
      · subst c; exact ⟨ds, hS⟩
      · rw [List.getElem?_set_ne c] at g; exact ⟨gs, g⟩
  refine ⟨fun a o e => x a o (ne_of_none e (r.own0 p0 e2).1) (r.same a o e), by rw [List.length_set, r.len], fun a h => ?_, fun j e h => ?_, fun j gs h => ?_, fun j k gs fs q ne h1 h2 h3 h4 => ?_, fun j gs h => ?_, fun j k gs fs h1 h2 h3 => ?_, fun j k gs fs h1 h2 => ?_⟩
  · obtain ⟨h1, us, h2⟩ := r.own0 a h
    by_cases c : a = p0
    · subst c
      exact ⟨h1, _, hp⟩
    · exact ⟨h1, us, x a _ c h2⟩
  · obtain ⟨c, h⟩ := set_back h (by intro z; cases z)
    obtain ⟨u, e1, e2⟩ := r.dat j e h
    exact ⟨u, e1, e2.keeps kp fun _ z => z⟩
  · obtain ⟨c, h⟩ := set_back h (by intro z; cases z)
    obtain ⟨q, us, f1, f2, f3, f4⟩ := r.own j gs h
    have ne : q ≠ p0 := fun z => by
      subst z
      exact r.inj0 j i gs ds h hS f1
    exact ⟨q, us, f1, f2, x q _ ne f3, f4.keeps kp fun _ z => z⟩
  · exact r.inj j k _ _ q ne (set_back h1 (by intro z; cases z)).2 (set_back h2 (by intro z; cases z)).2 h3 h4
  · by_cases c : i = j
    · subst c
      rw [List.getElem?_set, if_pos rfl] at h
      split at h
      · cases h
        exact ⟨_, e1, e2, hp, rv⟩
      · cases h
    · rw [List.getElem?_set_ne c] at h
      exact absurd (r.one i j ds gs hS h) c
  · obtain ⟨_, g2⟩ := back h2
    exact r.inj0 j k _ _ (set_back h1 (by intro z; cases z)).2 g2 h3
  · obtain ⟨_, g1⟩ := back h1
    obtain ⟨_, g2⟩ := back h2
    exact r.one j k _ _ g1 g2
/-- an own list grows by data -/
theorem RO.app (r : RO K p0 H0 ok0 O S σ H) {i : Nat} {ds : List D} {d : D} {p : Addr} {v : V} {vs : List V} (hS : S[i]? = some (.own ds)) (hσ : σ[i]? = some (some (.ref p))) (hp : H p = some (.lst vs)) (rv : Rep K H (fun a => ex ok0 H0 a ∧ ¬ O a) v d) :
    RO K p0 H0 ok0 O (S.set i (.own (ds ++ [d]))) σ (upd H p (.lst (vs ++ [v]))) := by
  obtain ⟨p', vs', e1, e2, e3, e4⟩ := r.own i ds hS
  rw [hσ] at e1
  cases e1
  rw [hp] at e3
  cases e3
  have kp := r.keepX e2 hp (sameX_upd (o := .lst (vs ++ [v])))
  exact r.updOwn hS hσ sameX_upd upd_same (Reps.append (e4.keeps kp fun _ z => z) (.cons (rv.keeps kp fun _ z => z) .nil))
/-- a slot is forgotten -/
theorem RO.drop (r : RO K p0 H0 ok0 O S σ H) (i : Nat) : RO K p0 H0 ok0 O (S.set i .un) σ H :=
  ⟨r.same, by rw [List.length_set, r.len], r.own0, fun j d h => r.dat j d (set_back h (by intro z; cases z)).2, fun j d h => r.own j d (set_back h (by intro z; cases z)).2,
    fun j k ds es p ne h1 h2 h3 h4 => r.inj j k ds es p ne (set_back h1 (by intro z; cases z)).2 (set_back h2 (by intro z; cases z)).2 h3 h4,
    fun j d h => r.din j d (set_back h (by intro z; cases z)).2, fun j k ds es h1 h2 h3 => r.inj0 j k ds es (set_back h1 (by intro z; cases z)).2 (set_back h2 (by intro z; cases z)).2 h3,
    fun j k ds es h1 h2 => r.one j k ds es (set_back h1 (by intro z; cases z)).2 (set_back h2 (by intro z; cases z)).2⟩
/-- an own list is owned no more: it is data -/
theorem RO.lend (r : RO K p0 H0 ok0 O S σ H) {i : Nat} {ds : List D} {p : Addr} (hS : S[i]? = some (.own ds)) (hσ : σ[i]? = some (some (.ref p))) : RO K p0 H0 ok0 (fun a => O a ∧ a ≠ p) (S.set i (.dat (.lst ds))) σ H := by
  obtain ⟨p', vs, e1, e2, e3, e4⟩ := r.own i ds hS
  rw [hσ] at e1
  cases e1
  have wk : ∀ a, (ex ok0 H0 a ∧ ¬ O a) → (ex ok0 H0 a ∧ ¬ (O a ∧ a ≠ p)) := fun a h => ⟨h.1, fun z => h.2 z.1⟩
  refine ⟨r.same, by rw [List.length_set, r.len], fun a h => r.own0 a h.1, fun j e h => ?_, fun j es h => ?_, fun j k es fs q ne h1 h2 h3 h4 => ?_, fun j es h => ?_, fun j k es fs h1 h2 h3 => ?_, fun j k es fs h1 h2 => ?_⟩
  · by_cases c : i = j
    · subst c
      rw [List.getElem?_set, if_pos rfl] at h
      split at h
      · cases h
        exact ⟨_, hσ, .lst ⟨.inr (r.own0 p e2).1, fun z => z.2 rfl⟩ e3 (e4.keeps (Same.keeps (Same.refl _)) wk)⟩
      · cases h
    · rw [List.getElem?_set_ne c] at h
      obtain ⟨u, f1, f2⟩ := r.dat j e h
      exact ⟨u, f1, f2.keeps (Same.keeps (Same.refl _)) wk⟩
  · obtain ⟨c, h⟩ := set_back h (by intro z; cases z)
    obtain ⟨q, ws, f1, f2, f3, f4⟩ := r.own j es h
    exact ⟨q, ws, f1, ⟨f2, fun z => by subst z; exact r.inj i j ds es q c hS h hσ f1⟩, f3, f4.keeps (Same.keeps (Same.refl _)) wk⟩
  · exact r.inj j k es fs q ne (set_back h1 (by intro z; cases z)).2 (set_back h2 (by intro z; cases z)).2 h3 h4
  · obtain ⟨c, h⟩ := set_back h (by intro z; cases z)
    obtain ⟨ws, f1, f2, f3, f4⟩ := r.din j es h
    exact ⟨ws, f1, ⟨f2, fun z => by subst z; exact r.inj0 i j ds es hS h hσ⟩, f3, f4.keeps (Same.keeps (Same.refl _)) wk⟩
  · exact r.inj0 j k es fs (set_back h1 (by intro z; cases z)).2 (set_back h2 (by intro z; cases z)).2 h3
  · exact r.one j k es fs (set_back h1 (by intro z; cases z)).2 (set_back h2 (by intro z; cases z)).2
end

/-! ### the ends -/
def Reach (K : PySem.W.Frag) (p0 : Addr) (H0 : Hp) (ok0 : Addr → Prop) (E : Ends) : Out → Prop
  | .nx S => ∀ σ H, RS K p0 H0 ok0 S σ H → E.nx σ H
  | .rt d S => ∀ v σ H, RS K p0 H0 ok0 S σ H → Rep K H (ex ok0 H0) v d → E.rt v H
  | .bk S => ∀ σ H, RS K p0 H0 ok0 S σ H → E.bk σ H
  | .ct S => ∀ σ H, RS K p0 H0 ok0 S σ H → E.ct σ H
abbrev Ms := Sl → Option Out
def tS (K : PySem.W.Frag) (m : Ms) : TS := fun E σ H => ∃ p0 H0 ok0 S o, RS K p0 H0 ok0 S σ H ∧ m S = some o ∧ Reach K p0 H0 ok0 E o
abbrev Es (X : Cx) (st : Stmt) (m : Ms) : Prop := PS X st (tS X.K m)
abbrev Ess (X : Cx) (st : List Stmt) (m : Ms) : Prop := PSs X st (tS X.K m)
def sSeq (a b : Ms) : Ms := fun S => (a S).bind fun o => match o with
  | .nx S1 => b S1
  | o => some o
def sNext : Ms := fun S => some (.nx S)
def sNever : Ms := fun _ => none
def sRet (m : Mi) : Ms := fun S => (m (op S)).map fun d => .rt d S
def sRetN : Ms := fun S => some (.rt .non S)
def sSet (i : Nat) (m : Mi) : Ms := fun S => (m (cl S)).map fun d => .nx (S.set i (.dat d))
def sSetF (i : Nat) (m : Mi) : Ms := fun S => (m (op S)).bind fun d => if flat d = true then some (.nx (S.set i (.dat d))) else none
def sSetO (i : Nat) (m : Mi) : Ms := fun S => (m (fl S)).bind fun d => match d with
  | .lst ds => if flats ds = true then some (.nx (S.set i (.own ds))) else none
  | _ => none
def sDrop (m : Mi) : Ms := fun S => (m (op S)).map fun _ => .nx S
def sIf (t : Mt) (a b : Ms) : Ms := fun S => (t (op S)).bind fun c => if c = true then a S else b S
def sAugI (i : Nat) (m : Mi) : Ms := fun S => match S[i]? with
  | some (.dat (.int a)) => (m (op S)).bind fun d => match d with
    | .int b => some (.nx (S.set i (.dat (.int (a + b)))))
    | _ => none
  | _ => none
def sApp (i : Nat) (m : Mi) : Ms := fun S => match S[i]? with
  | some (.own ds) => if ds.length < 1000000 then (m (cl S)).map fun d => .nx (S.set i (.own (ds ++ [d]))) else none
  | _ => none
def sAppF (i : Nat) (m : Mi) : Ms := fun S => match S[i]? with
  | some (.own ds) => if ds.length < 1000000 then (m (op S)).bind fun d => if flat d = true then some (.nx (S.set i (.own (ds ++ [d])))) else none else none
  | _ => none
def sLend (i : Nat) (m : Ms) : Ms := fun S => match S[i]? with
  | some (.own ds) => m (S.set i (.dat (.lst ds)))
  | _ => m S
section
variable {X : Cx} {st : Stmt} {rest a b : List Stmt} {e c : Expr} {me : Mi} {t : Mt} {m1 m2 : Ms} {pos pos' : Pos}
theorem ess_nil : Ess X [] sNext := PSs.imp pss_nil fun E σ H h => by
  obtain ⟨p0, H0, ok0, S, o, r, m, q⟩ := h
  cases m
  exact q σ H r
theorem ess_cons (h1 : Es X st m1) (h2 : Ess X rest m2) : Ess X (st :: rest) (sSeq m1 m2) := PSs.imp (pss_cons h1 h2) fun E σ H h => by
  obtain ⟨p0, H0, ok0, S, o, r, m, q⟩ := h
  obtain ⟨o1, e1, m⟩ := bind_some m
  refine ⟨p0, H0, ok0, S, o1, r, e1, ?_⟩
  cases o1 with
  | nx S1 => exact fun σ1 H1 r1 => ⟨p0, H0, ok0, S1, o, r1, m, q⟩
  | rt d S1 => cases m; exact q
  | bk S1 => cases m; exact q
  | ct S1 => cases m; exact q
theorem ess_one (h1 : Es X st m1) : Ess X [st] m1 := PSs.imp (pss_one h1) fun E σ H h => h
theorem es_never : Es X st sNever := PS.imp ps_never fun E σ H h => by
  obtain ⟨p0, H0, ok0, S, o, r, m, q⟩ := h
  cases m
theorem es_pass : Es X (.Pass pos) sNext := PS.imp ps_pass fun E σ H h => by
  obtain ⟨p0, H0, ok0, S, o, r, m, q⟩ := h
  cases m
  exact q σ H r
theorem es_cont : Es X (.Continue pos) (fun S => some (.ct S)) := PS.imp ps_continue fun E σ H h => by
  obtain ⟨p0, H0, ok0, S, o, r, m, q⟩ := h
  cases m
  exact q σ H r
theorem es_break : Es X (.Break pos) (fun S => some (.bk S)) := PS.imp ps_break fun E σ H h => by
  obtain ⟨p0, H0, ok0, S, o, r, m, q⟩ := h
  cases m
  exact q σ H r
theorem map_some {α β : Type} {o : Option α} {f : α → β} {z : β} (h : o.map f = some z) : ∃ x, o = some x ∧ f x = z := by
  cases o with
  | none => cases h
  | some x => exact ⟨x, rfl, Option.some.inj h⟩
theorem es_ret (he : Ev X e me) : Es X (.Return (some e) pos) (sRet me) := PS.imp (ps_ret he) fun E σ H h => by
  obtain ⟨p0, H0, ok0, S, o, ⟨O, r⟩, m, q⟩ := h
  obtain ⟨d, e1, m⟩ := map_some m
  subst m
  exact ⟨_, _, d, r.opened, e1, fun v H' s rv => q v σ H' ⟨O, r.grow s⟩ (rv.keeps (Same.keeps (Same.refl _)) fun a h => good_open r h)⟩
theorem es_retN : Es X (.Return none pos) sRetN := PS.imp ps_retN fun E σ H h => by
  obtain ⟨p0, H0, ok0, S, o, ⟨O, r⟩, m, q⟩ := h
  cases m
  exact q _ σ H ⟨O, r⟩ .non
theorem es_set (i : Nat) {x : Str} (hN : X.N.Nodup) (he : Ev X e me) (hi : X.N[i]? = some x := by rfl) (hx : Loc X.env.scope x := by first | exact Or.inl rfl | exact Or.inr rfl) (hs : swapsWith e (some (.Name x pos')) pos.line X.env = pure false := by rfl)
    (hf : X.fn x = true ∨ X.env.scope.names.lookup x = some .local := by first | exact .inl rfl | exact .inr rfl) : Es X (.Assign [.Name x pos'] e pos) (sSet i me) := PS.imp (ps_set hN hi hx he hs hf) fun E σ H h => by
  obtain ⟨p0, H0, ok0, S, o, ⟨O, r⟩, m, q⟩ := h
  obtain ⟨d, e1, m⟩ := map_some m
  subst m
  exact ⟨_, _, d, r.closed, e1, fun v H' s rv => q _ H' ⟨O, (r.grow s).put (rv.keeps (Same.keeps (Same.refl _)) fun a h => good_new r h)⟩⟩
theorem es_setF (i : Nat) {x : Str} (hN : X.N.Nodup) (he : Ev X e me) (hi : X.N[i]? = some x := by rfl) (hx : Loc X.env.scope x := by first | exact Or.inl rfl | exact Or.inr rfl) (hs : swapsWith e (some (.Name x pos')) pos.line X.env = pure false := by rfl)
    (hf : X.fn x = true ∨ X.env.scope.names.lookup x = some .local := by first | exact .inl rfl | exact .inr rfl) : Es X (.Assign [.Name x pos'] e pos) (sSetF i me) := PS.imp (ps_set hN hi hx he hs hf) fun E σ H h => by
  obtain ⟨p0, H0, ok0, S, o, ⟨O, r⟩, m, q⟩ := h
  obtain ⟨d, e1, m⟩ := bind_some m
  split at m
  · next fd =>
    cases m
    exact ⟨_, _, d, r.opened, e1, fun v H' s rv => q _ H' ⟨O, (r.grow s).put (rv.flat _ _ fd)⟩⟩
  · cases m
theorem es_setO (i : Nat) {x : Str} (hN : X.N.Nodup) (he : Ev X e me) (hi : X.N[i]? = some x := by rfl) (hx : Loc X.env.scope x := by first | exact Or.inl rfl | exact Or.inr rfl) (hs : swapsWith e (some (.Name x pos')) pos.line X.env = pure false := by rfl)
    (hf : X.fn x = true ∨ X.env.scope.names.lookup x = some .local := by first | exact .inl rfl | exact .inr rfl) : Es X (.Assign [.Name x pos'] e pos) (sSetO i me) := PS.imp (ps_set hN hi hx he hs hf) fun E σ H h => by
  obtain ⟨p0, H0, ok0, S, o, ⟨O, r⟩, m, q⟩ := h
  obtain ⟨d, e1, m⟩ := bind_some m
  split at m
  · next ds =>
    split at m
    · next fd =>
      cases m
      refine ⟨_, _, _, r.flatly, e1, fun v H' s rv => ?_⟩
      cases rv with
      | lst g h rr => exact q _ H' ⟨_, r.putOwn (g.elim (fun z => z.elim) fun z => z) h s fd rr⟩
    · cases m
  · cases m
theorem es_drop (he : Ev X e me) (hs : swapsWith e none pos.line X.env = pure false := by rfl) : Es X (.Expr e pos) (sDrop me) := PS.imp (ps_expr he hs) fun E σ H h => by
  obtain ⟨p0, H0, ok0, S, o, ⟨O, r⟩, m, q⟩ := h
  obtain ⟨d, e1, m⟩ := map_some m
  subst m
  exact ⟨_, _, d, r.opened, e1, fun v H' s rv => q _ H' ⟨O, r.grow s⟩⟩
theorem es_doc {x j} : Es X (.Expr (.Constant (.str x) j pos) pos') sNext := PS.imp ps_doc fun E σ H h => by
  obtain ⟨p0, H0, ok0, S, o, r, m, q⟩ := h
  cases m
  exact q σ H r
theorem es_if (hc : Et X c t) (ha : Ess X a m1) (hb : Ess X b m2) : Es X (.If c a b pos) (sIf t m1 m2) := PS.imp (ps_if hc ha hb) fun E σ H h => by
  obtain ⟨p0, H0, ok0, S, o, ⟨O, r⟩, m, q⟩ := h
  obtain ⟨d, e1, m⟩ := bind_some m
  refine ⟨_, _, d, r.opened, e1, fun H' s => ?_⟩
  cases d with
  | true => exact ⟨p0, H0, ok0, S, o, ⟨O, r.grow s⟩, m, q⟩
  | false => exact ⟨p0, H0, ok0, S, o, ⟨O, r.grow s⟩, m, q⟩
theorem es_aug (i : Nat) {x : Str} (hN : X.N.Nodup) (he : Ev X e me) (hi : X.N[i]? = some x := by rfl) (hx : Loc X.env.scope x := by first | exact Or.inl rfl | exact Or.inr rfl)
    (hf : X.fn x = true ∨ X.env.scope.names.lookup x = some .local := by first | exact .inl rfl | exact .inr rfl) : Es X (.AugAssign (.Name x pos') .Add e pos) (sAugI i me) := PS.imp (ps_aug hN hi hx he ip_add hf) fun E σ H h => by
  obtain ⟨p0, H0, ok0, S, o, ⟨O, r⟩, m, q⟩ := h
  unfold sAugI at m
  split at m
  · next x' hS =>
    obtain ⟨d, e1, m⟩ := bind_some m
    split at m
    · cases m
      obtain ⟨v, h1, h2⟩ := r.dat i _ hS
      cases h2
      refine ⟨_, h1, _, _, _, r.opened, e1, fun y H' s ry => ?_⟩
      cases ry
      exact ⟨_, _, rfl, rfl, q _ H' ⟨O, (r.grow s).put (.int _)⟩⟩
    · cases m
  · cases m
theorem pe_app {x : Str} {p1 p2 p3 : Pos} (i : Nat) (he : Ev X e me) (hi : X.N[i]? = some x := by rfl) (hv : Vis X.env.scope x := by first | exact Or.inl rfl | exact Or.inr (Or.inl rfl) | exact Or.inr (Or.inr rfl))
    (hd : (x == ("__debug__" : Str)) = false := by decide) (hcd : (x == ("__classdict__" : Str)) = false := by decide)
    (hbase : attributeBase (.Name x p1) "append" X.env (eval (.Name x p1) X.env) = eval (.Name x p1) X.env := by rfl)
    (hfew : ((backTo p3 (starEach [e] X.env)).all (fun x => !x.1) && (backToKw p3 (keywordEach [] X.env)).all (fun x => x.1.isSome) && decide ([e].length + ([] : List Keyword).length + (if ([] : List Keyword).isEmpty then 0 else 1) < 30)) = true := by rfl)
    (hline : (p2.endLine == p3.line) = true := by rfl) (hs : starEach [e] X.env = (false, eval e X.env) :: starEach [] X.env := by rfl) (hplain : (backTo p3 (starEach [] X.env)).any (fun x => x.1) = false := by rfl) :
    PE X (.Call (.Attribute (.Name x p1) "append" p2) [e] [] p3) (tBM X.K "list" rAppend (tVar i) (tA X.K (aCons me aNil))) :=
  pe_bm PySem.F.plainAttrs_list PySem.F.slot_list_append PySem.F.type_list_append mt_append (pe_var hi hv hd hcd) (ea_cons he ea_nil hs) hbase hfew hline hs hplain
theorem t_app {K : PySem.W.Frag} {p0 : Addr} {i : Nat} {E : Ends} {σ : L2.St} {H H0 : Hp} {ok0 O : Addr → Prop} {S : Sl} {ds : List D} {d : D} {ok : Addr → Prop} {Sd0 : Sd} (r : RO K p0 H0 ok0 O S σ H) (hS : S[i]? = some (.own ds)) (hl : ds.length < 1000000) (rs : Rs K H ok Sd0 σ) (e1 : me Sd0 = some d)
    (hr : ∀ v H', Same H H' → Rep K H' (ex ok H) v d → Rep K H' (fun a => ex ok0 H0 a ∧ ¬ O a) v d) (q : ∀ σ' H', RS K p0 H0 ok0 (S.set i (.own (ds ++ [d]))) σ' H' → E.nx σ' H') : tDrop (tBM K "list" rAppend (tVar i) (tA K (aCons me aNil))) E σ H := by
  obtain ⟨p, vs, h1, h2, h3, h4⟩ := r.own i ds hS
  refine ⟨_, h1, .inl ⟨rfl, _, SqL.of h3⟩, ok, Sd0, [d], rs, ?_, fun us H' s ru => ?_⟩
  · show (me Sd0).bind (fun x => some [x]) = some [d]
    rw [e1]
    rfl
  · cases ru with
    | cons rv ru =>
      cases ru
      have hp : H' p = some (.lst vs) := s _ _ h3
      refine ⟨p, vs, _, rfl, rfl, hp, ?_, q σ _ ⟨O, (r.grow s).app hS h1 hp (hr _ H' s rv)⟩⟩
      rw [h4.length]
      exact Nat.lt_trans hl (by decide)
theorem es_app {x : Str} {p1 p2 p3 : Pos} (i : Nat) (h : PE X (.Call (.Attribute (.Name x p1) "append" p2) [e] [] p3) (tBM X.K "list" rAppend (tVar i) (tA X.K (aCons me aNil))))
    (hs : swapsWith (.Call (.Attribute (.Name x p1) "append" p2) [e] [] p3) none pos.line X.env = pure false := by rfl) : Es X (.Expr (.Call (.Attribute (.Name x p1) "append" p2) [e] [] p3) pos) (sApp i me) := PS.imp (ps_expr h hs) fun E σ H hh => by
  obtain ⟨p0, H0, ok0, S, o, ⟨O, r⟩, m, q⟩ := hh
  unfold sApp at m
  split at m
  · next ds hS =>
    split at m
    · next hl =>
      obtain ⟨d, e1, m⟩ := map_some m
      subst m
      exact t_app r hS hl r.closed e1 (fun v H' s rv => rv.keeps (Same.keeps (Same.refl _)) fun a h => good_new r h) q
    · cases m
  · cases m
theorem es_appF {x : Str} {p1 p2 p3 : Pos} (i : Nat) (h : PE X (.Call (.Attribute (.Name x p1) "append" p2) [e] [] p3) (tBM X.K "list" rAppend (tVar i) (tA X.K (aCons me aNil))))
    (hs : swapsWith (.Call (.Attribute (.Name x p1) "append" p2) [e] [] p3) none pos.line X.env = pure false := by rfl) : Es X (.Expr (.Call (.Attribute (.Name x p1) "append" p2) [e] [] p3) pos) (sAppF i me) := PS.imp (ps_expr h hs) fun E σ H hh => by
  obtain ⟨p0, H0, ok0, S, o, ⟨O, r⟩, m, q⟩ := hh
  unfold sAppF at m
  split at m
  · next ds hS =>
    split at m
    · next hl =>
      obtain ⟨d, e1, m⟩ := bind_some m
      split at m
      · next fd =>
        cases m
        exact t_app r hS hl r.opened e1 (fun v H' s rv => rv.flat _ _ fd) q
      · cases m
    · cases m
  · cases m
theorem es_lend (i : Nat) (h : Es X st m1) : Es X st (sLend i m1) := PS.imp h fun E σ H hh => by
  obtain ⟨p0, H0, ok0, S, o, ⟨O, r⟩, m, q⟩ := hh
  unfold sLend at m
  split at m
  · next ds hS =>
    obtain ⟨p, vs, h1, h2, h3, h4⟩ := r.own i ds hS
    exact ⟨p0, H0, ok0, _, o, ⟨_, r.lend hS h1⟩, m, q⟩
  · exact ⟨p0, H0, ok0, _, o, ⟨O, r⟩, m, q⟩
end
end Ice

/-! stores to tuples of names, loops, defs -/
namespace Ice
open PySem PySem.Spec PyProof.Rows L2

mutual
def asgL : Tg → D → Sl → Option Sl
  | .nm i, d, S => some (S.set i (.dat d))
  | .tp ts, .tup ds, S => asgsL ts ds S
  | .tp ts, .wt ds, S => asgsL ts ds S
  | .tp _, _, _ => none
def asgsL : List Tg → List D → Sl → Option Sl
  | [], [], S => some S
  | t :: ts, d :: ds, S => (asgL t d S).bind fun S1 => asgsL ts ds S1
  | _, _, _ => none
end
def tGL (K : PySem.W.Frag) (t : Tg) : TG := fun v σ H Q => ∃ p0 H0 ok0 O S d S', RO K p0 H0 ok0 O S σ H ∧ Rep K H (fun a => ex ok0 H0 a ∧ ¬ O a) v d ∧ asgL t d S = some S' ∧ ∀ σ', RO K p0 H0 ok0 O S' σ' H → Q σ' H
def tGLs (K : PySem.W.Frag) (ts : List Tg) : TGs := fun vs σ H Q => ∃ p0 H0 ok0 O S ds S', RO K p0 H0 ok0 O S σ H ∧ Reps K H (fun a => ex ok0 H0 a ∧ ¬ O a) vs ds ∧ asgsL ts ds S = some S' ∧ ∀ σ', RO K p0 H0 ok0 O S' σ' H → Q σ' H
abbrev El (X : Cx) (e : Expr) (t : Tg) : Prop := PG X e (tGL X.K t)
abbrev Els (X : Cx) (es : List Expr) (ts : List Tg) : Prop := PGs X es (tGLs X.K ts)
section
variable {X : Cx} {e : Expr} {es : List Expr} {pos : Pos}
theorem el_nm (i : Nat) {x : Str} (hN : X.N.Nodup) (hi : X.N[i]? = some x := by rfl) (hx : Loc X.env.scope x := by first | exact Or.inl rfl | exact Or.inr rfl) (hf : X.fn x = true ∨ X.env.scope.names.lookup x = some .local := by first | exact .inl rfl | exact .inr rfl) : El X (.Name x pos) (.nm i) :=
  PG.imp (pg_name hN hi hx hf) fun v σ H Q h => by
    obtain ⟨p0, H0, ok0, O, S, d, S', r, rv, a, q⟩ := h
    have a' : some (S.set i (.dat d)) = some S' := a
    cases a'
    exact q _ (r.put rv)
theorem els_nil : Els X [] [] := PGs.imp pgs_nil fun v σ H Q h => by
  obtain ⟨p0, H0, ok0, O, S, ds, S', r, rv, a, q⟩ := h
  cases rv with
  | nil =>
    have a' : some S = some S' := a
    cases a'
    exact ⟨rfl, q σ r⟩
  | cons _ _ => cases a
theorem els_cons {t : Tg} {ts : List Tg} (h1 : El X e t) (h2 : Els X es ts) (hs : (assignEach (e :: es) X.env).map (fun x => x.2) = assign e X.env :: (assignEach es X.env).map (fun x => x.2) := by rfl) : Els X (e :: es) (t :: ts) := PGs.imp (pgs_cons h1 h2 hs) fun v σ H Q h => by
  obtain ⟨p0, H0, ok0, O, S, ds, S', r, rv, a, q⟩ := h
  cases rv with
  | nil => cases a
  | cons rv rr =>
    obtain ⟨S1, a1, a2⟩ := bind_some (show (asgL t _ S).bind (fun S1 => asgsL ts _ S1) = some S' from a)
    exact ⟨_, _, rfl, p0, H0, ok0, O, S, _, S1, r, rv, a1, fun σ1 r1 => ⟨p0, H0, ok0, O, S1, _, S', r1, rr, a2, q⟩⟩
theorem asgsL_len : ∀ {ts : List Tg} {ds : List D} {S S' : Sl}, asgsL ts ds S = some S' → ds.length = ts.length
  | [], [], _, _, _ => rfl
  | [], _ :: _, _, _, h => by cases h
  | _ :: _, [], _, _, h => by cases h
  | t :: ts, d :: ds, S, S', h => by
    obtain ⟨S1, _, h2⟩ := bind_some (show (asgL t d S).bind (fun S1 => asgsL ts ds S1) = some S' from h)
    exact congrArg (· + 1) (asgsL_len h2)
theorem el_tp {k : Nat} {ts : List Tg} (h : Els X es ts) (hn : (assignEach es X.env).length = ts.length := by rfl) (hst : (assignEach es X.env).findIdx? (fun x => x.1) = none := by rfl) (hc : X.calm = true := by rfl) : El X (.Tuple es k pos) (.tp ts) := PG.imp (pg_tup (n := (assignEach es X.env).length) hc h rfl hst) fun v σ H Q h => by
  obtain ⟨p0, H0, ok0, O, S, d, S', r, rv, a, q⟩ := h
  cases rv with
  | tup h rr =>
    have a' : asgsL ts _ S = some S' := a
    exact ⟨_, _, rfl, SqT.of h, by rw [rr.length, asgsL_len a', ← hn], p0, H0, ok0, O, S, _, S', r, rr, a', q⟩
  | wt h rr =>
    have a' : asgsL ts _ S = some S' := a
    exact ⟨_, _, rfl, h, by rw [rr.length, asgsL_len a', ← hn], p0, H0, ok0, O, S, _, S', r, rr, a', q⟩
  | _ => cases a
def sUnp (t : Tg) (m : Mi) : Ms := fun S => (m (cl S)).bind fun d => (asgL t d S).map .nx
theorem es_unp {tg : Expr} {me : Mi} {t : Tg} (he : Ev X e me) (hg : El X tg t) (hs : swapsWithSole [tg] e pos.line X.env = pure false := by rfl) (hw : swappedStores [tg] e X.env = pure none := by rfl) (h1 : (assignEach [tg] X.env).map (fun x => x.2) = [assign tg X.env] := by rfl) : Es X (.Assign [tg] e pos) (sUnp t me) :=
  PS.imp (ps_asg he hg hs hw (h1 := h1)) fun E σ H h => by
    obtain ⟨p0, H0, ok0, S, o, ⟨O, r⟩, m, q⟩ := h
    obtain ⟨d, e1, m⟩ := bind_some m
    obtain ⟨S1, e2, m⟩ := map_some m
    subst m
    exact ⟨_, _, d, r.closed, e1, fun v H' s rv => ⟨p0, H0, ok0, O, S, d, S1, r.grow s, rv.keeps (Same.keeps (Same.refl _)) (fun a h => good_new r h), e2, fun σ' r' => q σ' H' ⟨O, r'⟩⟩⟩
end

/-! ### a fixed part: all that is not owned now -/
open Classical in
noncomputable def off (H : Hp) (O : Addr → Prop) : Hp := fun a => if O a then none else H a
section
variable {K : PySem.W.Frag} {p0 : Addr} {H0 H H' : Hp} {ok0 O : Addr → Prop} {S : Sl} {σ : L2.St}
theorem off_some {a : Addr} {o : HO} (h : off H O a = some o) : ¬ O a ∧ H a = some o := by
  unfold off at h
  by_cases c : O a
  · rw [if_pos c] at h; cases h
  · rw [if_neg c] at h; exact ⟨c, h⟩
theorem off_of {a : Addr} (c : ¬ O a) : off H O a = H a := by
  unfold off
  rw [if_neg c]
theorem off_in {a : Addr} (c : O a) : off H O a = none := by
  unfold off
  rw [if_pos c]
/-- the entry moved up to here -/
theorem RO.base (r : RO K p0 H0 ok0 O S σ H) : RO K p0 (off H O) (ex ok0 H0) O S σ H := by
  have s : Same (off H O) H := fun a o e => (off_some e).2
  have g : ∀ a, (ex ok0 H0 a ∧ ¬ O a) → (ex (ex ok0 H0) (off H O) a ∧ ¬ O a) := fun a h => ⟨.inl h.1, h.2⟩
  exact ⟨s, r.len, fun a h => ⟨off_in h, (r.own0 a h).2⟩, fun i d h => let ⟨v, h1, h2⟩ := r.dat i d h; ⟨v, h1, h2.keeps (Same.keeps (Same.refl _)) g⟩,
    fun i ds h => let ⟨p, vs, h1, h2, h3, h4⟩ := r.own i ds h; ⟨p, vs, h1, h2, h3, h4.keeps (Same.keeps (Same.refl _)) g⟩, r.inj,
    fun i ds h => let ⟨vs, h1, h2, h3, h4⟩ := r.din i ds h; ⟨vs, h1, h2, h3, h4.keeps (Same.keeps (Same.refl _)) g⟩, r.inj0, r.one⟩
theorem base_same (r : RO K p0 H0 ok0 O S σ H) : Same H0 (off H O) := fun a o e => by
  have c : ¬ O a := fun z => by
    have := (r.own0 a z).1
    rw [e] at this
    cases this
  rw [off_of c]
  exact r.same a o e
/-- and back -/
theorem RO.unbase {Hb : Hp} {O' : Addr → Prop} {S' : Sl} {σ' : L2.St} (s : Same H0 Hb) (r : RO K p0 Hb (ex ok0 H0) O' S' σ' H') : RO K p0 H0 ok0 O' S' σ' H' := by
  have g : ∀ a, (ex (ex ok0 H0) Hb a ∧ ¬ O' a) → (ex ok0 H0 a ∧ ¬ O' a) := fun a h => ⟨h.1.elim (fun z => z) fun z => .inr (s.free z), h.2⟩
  exact ⟨s.trans r.same, r.len, fun a h => ⟨s.free (r.own0 a h).1, (r.own0 a h).2⟩, fun i d h => let ⟨v, h1, h2⟩ := r.dat i d h; ⟨v, h1, h2.keeps (Same.keeps (Same.refl _)) g⟩,
    fun i ds h => let ⟨p, vs, h1, h2, h3, h4⟩ := r.own i ds h; ⟨p, vs, h1, h2, h3, h4.keeps (Same.keeps (Same.refl _)) g⟩, r.inj,
    fun i ds h => let ⟨vs, h1, h2, h3, h4⟩ := r.din i ds h; ⟨vs, h1, h2, h3, h4.keeps (Same.keeps (Same.refl _)) g⟩, r.inj0, r.one⟩
theorem Reach.rebase {Hb : Hp} {E : Ends} (s : Same H0 Hb) : ∀ {o : Out}, Reach K p0 H0 ok0 E o → Reach K p0 Hb (ex ok0 H0) E o
  | .nx _, q => fun σ H ⟨O, r⟩ => q σ H ⟨O, r.unbase s⟩
  | .bk _, q => fun σ H ⟨O, r⟩ => q σ H ⟨O, r.unbase s⟩
  | .ct _, q => fun σ H ⟨O, r⟩ => q σ H ⟨O, r.unbase s⟩
  | .rt _ _, q => fun v σ H ⟨O, r⟩ rv => q v σ H ⟨O, r.unbase s⟩ (rv.keeps (Same.keeps (Same.refl _)) fun a h => h.elim (fun z => z) fun z => .inr (s.free z))
end

/-! ### loops -/
def forM (t : Tg) (b : Ms) : List D → Sl → Option Out
  | [], S => some (.nx S)
  | d :: r, S => (asgL t d S).bind fun S1 => (b S1).bind fun o => match o with
    | .nx S2 => forM t b r S2
    | .ct S2 => forM t b r S2
    | .bk S2 => some (.nx S2)
    | .rt d S2 => some (.rt d S2)
def sFor (mi : Ma) (t : Tg) (b : Ms) : Ms := fun S => (mi (cl S)).bind fun ds => forM t b ds S
theorem t_for {K : PySem.W.Frag} {mi : Ma} {t : Tg} {b : Ms} {E : Ends} {σ : L2.St} {H : Hp} (h : tS K (sFor mi t b) E σ H) : tFor (tI K mi) (tGL K t) (tS K b) E σ H := by
  obtain ⟨p0, H0, ok0, S, o, ⟨O, r⟩, m, q⟩ := h
  obtain ⟨ds, e1, m⟩ := bind_some m
  refine ⟨_, _, ds, r.closed, e1, fun J H1 s wk => ?_⟩
  have r1 := r.grow s
  have sb := base_same r1
  have q1 := q.rebase (K := K) sb
  -- what the walk leans on is not owned
  have kp : Keeps (fun a => ex (fun a => ex ok0 H0 a ∧ ¬ O a) H a ∧ H1 a ≠ none) H1 (off H1 O) := fun a o e g => by
    have c : ¬ O a := fun z => by
      rcases g with g | g
      · exact (good_new r g.1).2 z
      · obtain ⟨_, vs, e2⟩ := r1.own0 a z
        rw [e2] at e
        cases e
        exact g
    rw [off_of c]
    exact e
  refine ⟨fun i n σ' H' => n = ds.length - i ∧ i ≤ ds.length ∧ ∃ S' o', RS K p0 (off H1 O) (ex ok0 H0) S' σ' H' ∧ forM t b (ds.drop i) S' = some o' ∧ Reach K p0 (off H1 O) (ex ok0 H0) E o', ⟨ds.length, rfl, Nat.zero_le _, S, o, ⟨O, r1.base⟩, m, q1⟩, ?_⟩
  rintro i n σ' H' ⟨rfl, hi, S', o', ⟨O', r'⟩, hm, hq⟩
  have wk' := wk _ kp i H' r'.same
  by_cases hlt : i < ds.length
  · have hg : ds[i]? = some ds[i] := List.getElem?_eq_getElem hlt
    have hdrop : ds.drop i = ds[i] :: ds.drop (i + 1) := List.drop_eq_getElem_cons hlt
    obtain ⟨go, yl⟩ := wk'.1 _ hg
    rw [hdrop] at hm
    obtain ⟨S1, ha, hm⟩ := bind_some (show (asgL t ds[i] S').bind _ = some o' from hm)
    obtain ⟨ob, hb, hm⟩ := bind_some hm
    let Nx : L2.St → Hp → Prop := fun σ'' H'' => i + 1 ≤ ds.length ∧ ∃ S' o', RS K p0 (off H1 O) (ex ok0 H0) S' σ'' H'' ∧ forM t b (ds.drop (i + 1)) S' = some o' ∧ Reach K p0 (off H1 O) (ex ok0 H0) E o'
    refine .inr ⟨go, Nx, fun σ'' H'' nx => ⟨ds.length - (i + 1), by omega, rfl, nx⟩, fun x H3 y => ?_⟩
    obtain ⟨s3, rx⟩ := yl x H3 y
    refine ⟨_, _, _, O', S', ds[i], S1, r'.grow s3, rx.keeps (Same.keeps (Same.refl _)) (fun a g => ?_), ha, fun σ2 r2 => ⟨_, _, _, S1, ob, ⟨O', r2⟩, hb, ?_⟩⟩
    · obtain ⟨g1, g2⟩ := g
      have gg := good_new r g1
      refine ⟨.inl gg.1, fun z => ?_⟩
      obtain ⟨z1, _⟩ := r'.own0 a z
      rw [off_of gg.2] at z1
      exact g2 z1
    · cases ob with
      | nx S2 => exact fun σ4 H4 r4 => ⟨hlt, S2, o', r4, hm, hq⟩
      | ct S2 => exact fun σ4 H4 r4 => ⟨hlt, S2, o', r4, hm, hq⟩
      | bk S2 => cases hm; exact fun σ4 H4 r4 => hq σ4 H4 r4
      | rt d S2 => cases hm; exact fun v σ4 H4 r4 rv => hq v σ4 H4 r4 rv
  · have e : i = ds.length := by omega
    subst e
    rw [List.drop_length] at hm
    cases hm
    exact .inl ⟨wk'.2 (List.getElem?_eq_none_iff.mpr (Nat.le_refl _)), hq σ' H' ⟨O', r'⟩⟩
def whM (t : Mt) (b : Ms) : Nat → Sl → Option Out
  | 0, _ => none
  | n + 1, S => (t (op S)).bind fun c => if c = true then (b S).bind fun o => match o with
      | .nx S2 => whM t b n S2
      | .ct S2 => whM t b n S2
      | .bk S2 => some (.nx S2)
      | .rt d S2 => some (.rt d S2)
    else some (.nx S)
def sWhile (f : Sl → Nat) (t : Mt) (b : Ms) : Ms := fun S => whM t b (f S) S
theorem t_while {K : PySem.W.Frag} {f : Sl → Nat} {t : Mt} {b : Ms} {E : Ends} {σ : L2.St} {H : Hp} (h : tS K (sWhile f t b) E σ H) : tWhile (tT K t) (tS K b) E σ H := by
  obtain ⟨p0, H0, ok0, S, o, ⟨O, r⟩, m, q⟩ := h
  refine ⟨fun n σ' H' => ∃ S' o', RS K p0 H0 ok0 S' σ' H' ∧ whM t b n S' = some o' ∧ Reach K p0 H0 ok0 E o', ⟨f S, S, o, ⟨O, r⟩, m, q⟩, ?_⟩
  rintro n σ' H' ⟨S', o', ⟨O', r'⟩, hm, hq⟩
  cases n with
  | zero => cases hm
  | succ n =>
    obtain ⟨c, hc, hm⟩ := bind_some (show (t (op S')).bind _ = some o' from hm)
    refine ⟨_, _, c, r'.opened, hc, fun H2 s => ?_⟩
    have r2 := r'.grow s
    cases c with
    | false =>
      rw [if_neg Bool.false_ne_true] at hm
      cases hm
      exact hq σ' H2 ⟨O', r2⟩
    | true =>
      rw [if_pos rfl] at hm
      obtain ⟨ob, hb, hm⟩ := bind_some hm
      refine iteT ?_
      refine ⟨fun σ'' H'' => ∃ S' o', RS K p0 H0 ok0 S' σ'' H'' ∧ whM t b n S' = some o' ∧ Reach K p0 H0 ok0 E o', fun σ'' H'' nx => ⟨n, Nat.lt_succ_self n, nx⟩, p0, H0, ok0, S', ob, ⟨O', r2⟩, hb, ?_⟩
      cases ob with
      | nx S2 => exact fun σ4 H4 r4 => ⟨S2, o', r4, hm, hq⟩
      | ct S2 => exact fun σ4 H4 r4 => ⟨S2, o', r4, hm, hq⟩
      | bk S2 => cases hm; exact fun σ4 H4 r4 => hq σ4 H4 r4
      | rt d S2 => cases hm; exact fun v σ4 H4 r4 rv => hq v σ4 H4 r4 rv
section
variable {X : Cx} {tg iter c : Expr} {body : List Stmt} {mi : Ma} {t : Tg} {tt : Mt} {mb : Ms} {pos : Pos}
theorem es_for (hi : Ei X tg iter mi) (hg : El X tg t) (hb : Ess X body mb) (hp : PassesOwn (model X.prog X.w) X.A X.env X.xe := by exact PassesOwn.never) (hc : X.calm = true := by rfl) (hs : ∀ x, foldedSetIterable iter X.env x = pure x := by intro _; rfl) :
    Es X (.For tg iter body [] pos) (sFor mi t mb) := PS.imp (ps_for hp hc hi hg hb hs) fun E σ H h => t_for h
theorem es_while (f : Sl → Nat) (hc : Et X c tt) (hb : Ess X body mb) (hp : PassesOwn (model X.prog X.w) X.A X.env X.xe := by exact PassesOwn.never) : Es X (.While c body [] pos) (sWhile f tt mb) := PS.imp (ps_while hp hc hb) fun E σ H h => t_while h
end

/-! ### defs -/
def initS (n : Nat) (ds : List D) : Sl := ds.map .dat ++ List.replicate (n - ds.length) .un
def outD : Out → Option D
  | .rt d _ => some d
  | .nx _ => some .non
  | _ => none
def runF (n : Nat) (m : Ms) (ds : List D) : Option D := (m (initS n ds)).bind outD
theorem init_RO {K : PySem.W.Frag} {p0 : Addr} {H : Hp} {ok : Addr → Prop} {vs : List V} {ds : List D} {N : List Str} (r : Reps K H ok vs ds) : RO K p0 H ok (fun _ => False) (initS N.length ds) (L2.start N vs) H := by
  have hl : vs.length = ds.length := r.length
  have at_ : ∀ (i : Nat) (s : SL), (initS N.length ds)[i]? = some s → s ≠ .un → ∃ d, s = .dat d ∧ ds[i]? = some d := fun i s h hs => by
    unfold initS at h
    by_cases c : i < ds.length
    · rw [List.getElem?_append_left (by rw [List.length_map]; exact c), List.getElem?_map] at h
      cases e : ds[i]? with
      | none => rw [e] at h; cases h
      | some d => rw [e] at h; exact ⟨d, (Option.some.inj h).symm, rfl⟩
    · rw [List.getElem?_append_right (by rw [List.length_map]; omega), List.getElem?_replicate] at h
      split at h
      · cases h; exact absurd rfl hs
      · cases h
  refine ⟨Same.refl H, by unfold initS L2.start; rw [List.length_append, List.length_append, List.length_map, List.length_map, List.length_replicate, List.length_replicate, hl], fun a h => h.elim, fun i d h => ?_, fun i es h => ?_, fun i j es fs p ne h => ?_, fun i es h => ?_, fun i j es fs h => ?_, fun i j es fs h => ?_⟩
  · obtain ⟨d', e1, e2⟩ := at_ i _ h (by intro z; cases z)
    cases e1
    obtain ⟨v, h1, h2⟩ := r.get e2
    have hi : i < vs.length := (List.getElem?_eq_some_iff.mp h1).1
    refine ⟨v, ?_, h2.keeps (Same.keeps (Same.refl _)) fun a g => ⟨.inl g, fun z => z⟩⟩
    unfold L2.start
    rw [List.getElem?_append_left (by rw [List.length_map]; exact hi), List.getElem?_map, h1]
    rfl
  · obtain ⟨d', e1, e2⟩ := at_ i _ h (by intro z; cases z)
    cases e1
  · obtain ⟨d', e1, e2⟩ := at_ i _ h (by intro z; cases z)
    cases e1
  · obtain ⟨d', e1, e2⟩ := at_ i _ h (by intro z; cases z)
    cases e1
  · obtain ⟨d', e1, e2⟩ := at_ i _ h (by intro z; cases z)
    cases e1
  · obtain ⟨d', e1, e2⟩ := at_ i _ h (by intro z; cases z)
    cases e1
theorem hu65 {A : Around} {k : Nat} (hr : Room k A) : A.units + 65 < cLine := by
  have := hr.un
  omega
section
variable {P : Program} {w : World} {K : PySem.W.Frag} {mg : Str → Option Value} {base : Heap} {x qual : Str} {st : Stmt} {f : Addr} {fd : FuncData} {N ps : List Str} {k : Nat} {mb : Ms}
/-- a def by its mirror -/
theorem fn_ok (F : Fun K x qual st f fd) (S : FnScope N ps (defScope st))
    (hb : ∀ (cdv : Value) (A : Around) (outer : List Env) (s : Shared) (H : Hp) (E : XK), Room k (A.deeper (envOfC qual (defScope st) s.heap.objs.size f cdv)) → Ess (cxOf CX0 P w K mg base N qual (defScope st) f cdv A outer s H E).nox (defBody st) mb) :
    FnOk P w K mg base CX0 (k + 1) f fd ps (spD K ps.length (runF N.length mb)) := by
  refine F.ok S (fun vs H Q E h => ?_) (fun cdv A outer s H vs Q E hr h => ?_)
  · obtain ⟨ds, ok, d, r, hl, _⟩ := h
    rw [r.length, hl]
  · obtain ⟨ds, ok, d, r, hl, hg, q⟩ := h
    obtain ⟨o, e1, e2⟩ := bind_some hg
    refine ⟨_, hb cdv A outer s H E hr, 0, H, ok, _, o, ⟨_, init_RO r⟩, e1, ?_⟩
    cases o with
    | rt d' S' => cases e2; exact fun v σ' H' ⟨O, r'⟩ rv => q v H' r'.same rv
    | nx S' => cases e2; exact fun σ' H' ⟨O, r'⟩ => q .non H' r'.same .non
    | bk S' => cases e2
    | ct S' => cases e2
/-- .. said by another function -/
theorem spD_imp {n : Nat} {g g' : List D → Option D} (h : ∀ ds d, ds.length = n → g' ds = some d → g ds = some d) : ∀ vs H Q E, spD K n g' vs H Q E → spD K n g vs H Q E := fun vs H Q E ⟨ds, ok, d, r, hl, e, q⟩ => ⟨ds, ok, d, r, hl, h ds d hl e, q⟩
end
end Ice

/-! enumerate of a tuple -/
namespace Ice
open PySem PySem.Spec PyProof.Rows L2

theorem enum_new1 {u : Value} {ob : Obj} {Hs : Heap → Prop} (B : Begins u ob Hs) : Meets (Builtin.«enumerate.__new__» ⟨[.type "enumerate", u], []⟩) (fun _ R st => Hs st.heap ∧ R (.ok (.ret (.ref (st.heap.push ob).objs.size)))
    { st with heap := (st.heap.push ob).push { cls := .type "enumerate", data := .fields #[.none, .bool false, .ref st.heap.objs.size, rawInt 0, .none, .none] } }) := .of_wp fun prg wd Ar R st hh => by
  obtain ⟨hp, gg, dd, tt, oo⟩ := st
  obtain ⟨hb, hh⟩ := hh
  have sb := sub_enumerate
  have it1 : ∀ {Ar' : Around} {E' : Value → Shared → Prop} {Q' : Value → Shared → Prop}, Q' (.ref hp.objs.size) ⟨hp.push ob, gg, dd, tt, oo⟩ → wpAny (model prg wd) Ar' (pyIter u) Q' E' ⟨hp, gg, dd, tt, oo⟩ := fun q => B.iter prg wd _ _ ⟨hp, gg, dd, tt, oo⟩ _ hb q
  wp_walk using it1
  refine wpAny_stack_any fun sk => wpAny_pure ?_
  split
  · rename_i cc _ _ _ _ _
    cases (cc == Value.type "enumerate") <;> (wp_walk using it1; exact ⟨_, rfl, hh⟩)
  · wp_walk using it1
    exact ⟨_, rfl, hh⟩
theorem call_enum1 {prog : Program} {w : World} {A : Around} {E : Value → Shared → Prop} {s : Shared} {u : Value} {ob : Obj} {Hs : Heap → Prop} {Q : Value → Shared → Prop} (B : Begins u ob Hs) (hb : Hs s.heap)
    (h : ∀ h', IsEnum h' (s.heap.objs.size + 1) s.heap.objs.size 0 .none → h'.get? s.heap.objs.size = some ob → (∀ b o, s.heap.get? b = some o → h'.get? b = some o) → Q (.ref (s.heap.objs.size + 1)) { s with heap := h' }) :
    wpAny (model prog w) A (call (.type "enumerate") [u]) Q E s := by
  refine callType_new F.called_enumerate (by decide) (F.typeCall_enumerate_1 _) (F.newCall_enumerate_1 _) (fun obj => F.args_object_init_2 obj _) F.entry_enumerate_new (enum_new1 B) ⟨hb, ?_⟩
  have z : (s.heap.push ob).objs.size = s.heap.objs.size + 1 := Heap.size_push ..
  show _ ∧ _
  rw [z]
  have e1 := Heap.get?_push_size (s.heap.push ob) (o := { cls := .type "enumerate", data := .fields #[.none, .bool false, .ref s.heap.objs.size, rawInt 0, .none, .none] }) rfl
  rw [z] at e1
  exact ⟨⟨_, e1, rfl⟩, h _ e1 (Heap.get?_push_of_some _ (Heap.get?_push_size _ B.free)) fun b o x => Heap.get?_push_of_some _ (Heap.get?_push_of_some _ x)⟩

/-- the tuple at a, item by item, each in a new pair with its number -/
def ItE (K : PySem.W.Frag) (a : Addr) : It where
  go := fun i H => ∃ (ys : List V) (y : V), SqT K H a ys ∧ ys[i]? = some y
  yld := fun i H v H' => ∃ (T : Addr) (y : V), v = .ref T ∧ H T = none ∧ H' = upd H T (.tup [.int (i : Nat), y]) ∧ ∀ ys, SqT K H a ys → ys[i]? = some y
  stop := fun i H => ∃ ys : List V, SqT K H a ys ∧ ys.length ≤ i
theorem turn_enumT {P : Program} {w : World} {K : PySem.W.Frag} {elts : List Expr} {kk : Nat} {tpos : Pos} {a en it : Addr} (hae : a ≠ it) (hen : a ≠ en) :
    Turn P w K (.Tuple elts kk tpos) (ItE K a) [en, it] en (fun i h => (∃ old, IsEnum h en it ((i : Nat) : Int) old) ∧ h.IsTupleIter it a i ∧ en ≠ it) where
  mem := by simp
  obj := fun i h st b hb => by
    obtain ⟨⟨old, he⟩, ⟨o, ho, hc, hd⟩, _⟩ := st
    rcases (by simpa using hb : b = en ∨ b = it) with z | z
    · rw [z]
      exact ⟨_, he, fun v q => nomatch q⟩
    · rw [z]
      exact ⟨o, ho, fun v q => by rw [hd] at q; cases q⟩
  keep := fun i h h' st k => let ⟨⟨old, he⟩, hi, hne⟩ := st; ⟨⟨old, k en (by simp) _ he⟩, hi.at fun o q => k it (by simp) o q, hne⟩
  item := by
    intro X hP hw hK hc i pins s σ H E I hf st hg
    subst hP hw hK
    obtain ⟨⟨old, he⟩, hit, hne⟩ := st
    obtain ⟨ys, y, hq, hy⟩ := hg
    obtain ⟨its, rv, p, hz⟩ := I.tuple hq
    obtain ⟨u, hu, ru⟩ := rv.get hy
    have el : en < s.heap.objs.size := Heap.lt_size he
    have il : it < s.heap.objs.size := by
      obtain ⟨_, q, _⟩ := hit
      exact Heap.lt_size q
    have D := Draws.tuple (prog := X.prog) (w := X.w) (A := X.A.in1) (I.ok.hd hc) it a hae its.toArray
    have lt : i < its.toArray.size := by
      have := (List.getElem?_eq_some_iff.mp hu).1
      simpa using this
    refine wpAny_pyNext_enum_itemD D he ⟨hit, p⟩ lt hne (by simp [hne, Ne.symm hen]) fun x h' tk hx ho hst hT hsz hk => ?_
    have ex : x = u := by
      have e1 : its[i]? = some x := by simpa using hx
      rw [hu] at e1
      exact (Option.some.inj e1).symm
    subst ex
    refine ⟨_, rfl, wpAny_letOwnedTupleGo_enum (s := { s with heap := h', toks := tk + 1 }) ho fun h'' he' sb => ?_⟩
    have hT2 : h''.get? s.heap.objs.size = some { cls := .type "tuple", data := .seq #[.int i tk, x] } := (sb.2 _ (Nat.ne_of_gt el)).trans hT
    have new : ObjOk X.prog X.w (upd H s.heap.objs.size (.tup [.int (i : Nat), y])) h'' s.heap.objs.size (.tup [.int (i : Nat), y]) := ⟨by show 2 ≤ sizeLine; decide, [.int i tk, x], .cons ⟨_, rfl⟩ (.cons ru .nil), ⟨_, hT2, rfl, _, rfl⟩⟩
    have I1 : Inv X pins σ (upd H s.heap.objs.size (.tup [.int (i : Nat), y])) { s with heap := h'', toks := tk + 1 } :=
      I.turnedNew (ch := [en, it]) (fun b ob hb q => (sb.2 b fun z => hb (by simp [z])).trans (hk b ob (fun z => hb (by simp [z])) (fun z => hb (by simp [z])) q)) hf (Nat.le_refl _) new
    refine ⟨.ref s.heap.objs.size, _, I1, rfl, ⟨_, y, rfl, I.hok.fresh (Nat.le_refl _), rfl, fun zs hz' => by rw [I.tuple_inj hz' hq]; exact hy⟩, ⟨⟨x, ?_⟩, hst.1.at fun o q => (sb.2 it (Ne.symm hne)).trans q, hne⟩, fun b hb => ?_⟩
    · rw [show ((i + 1 : Nat) : Int) = (i : Int) + 1 by omega]
      exact he'
    · have hb' : b < s.heap.objs.size := by
        rcases (by simpa using hb : b = en ∨ b = it) with z | z
        · rw [z]; exact el
        · rw [z]; exact il
      rw [upd_ne (Nat.ne_of_lt hb')]
      exact (hf b hb).1
  done := by
    intro X hP hw hK hc i pins s σ H E I hf st hg
    subst hP hw hK
    obtain ⟨⟨old, he⟩, hit, hne⟩ := st
    obtain ⟨ys, hq, hx⟩ := hg
    obtain ⟨its, rv, p, hz⟩ := I.tuple hq
    obtain ⟨f0, f1, f2, f3, f4, f5⟩ := hf it (by simp)
    have hl := rv.length
    have hh : X.A.in1.handled = none := I.ok.hd hc
    have D : Draws X.prog X.w X.A.in1 it [it, a] i (fun _ _ => False) (fun j h => (h.IsTupleIter it a j ∧ h.IsTuple a its.toArray) ∧ i ≤ j) :=
      ⟨fun j h z => let ⟨o, ho, _⟩ := z.1.1; ⟨o, ho⟩, fun j h h' z k => ⟨⟨z.1.1.at fun o q => k it (by simp) o q, z.1.2.at fun o q => k a (by simp) o q⟩, z.2⟩,
        fun j st Q E' lt z _ => absurd z.2 (Nat.not_le_of_lt lt), fun st Q E' z k => wpAny_nextOf_tuple_end hh z.1.1 z.1.2 (by simp; omega) k⟩
    exact wpAny_pyNext_enum_endD D he ⟨⟨hit, p⟩, Nat.le_refl _⟩ fun h' eb => ⟨rfl, I.turned (t' := s.toks) (fun b o hb q => eb b o hb q) f0 f1 f3 f4 f5⟩
  self := fun A i s Q E st h => let ⟨⟨_, he⟩, _⟩ := st; wpAny_pyIter_enum he h
def iEnumT (K : PySem.W.Frag) (ta : TA) : TI := fun σ H R => ta σ H fun vs H1 => ∃ a ys, vs = [.ref a] ∧ SqT K H1 a ys ∧ R (ItE K a) H1
theorem pi_enumT {X : Cx} {e : Expr} {ta : TA} {p pos tpos : Pos} {elts : List Expr} {kk : Nat} (hg : Gl X "enumerate") (hm : X.mg "enumerate" = none) (ha : PA X [e] ta) (hs : starEach [e] X.env = [(false, eval e X.env)] := by rfl) : PI X (.Tuple elts kk tpos) (.Call (.Name "enumerate" p) [e] [] pos) (iEnumT X.K ta) := by
  refine ⟨fun pins s σ H R I h => ?_⟩
  refine Call_ (ld_blt I hg hm boot_enumerate (PyProof.Rows.callWith_type1 (thn (ha.run pos pins s σ H _ I h) fun us s1 ⟨vs, H1, I1, r1, q1⟩ => ?_) hs rfl))
  obtain ⟨a, ys, ex, hq, q⟩ := q1
  subst ex
  cases r1 with
  | cons r rr =>
    cases rr
    cases r
    obtain ⟨its, rv, p', hz⟩ := I1.tuple hq
    have la : a < s1.heap.objs.size := p'.lt
    refine call_enum1 (begins_tuple a its.toArray) p' fun h' he hit hk => wpAny_pyIter_enum he ?_
    have I2 : Inv X pins σ H1 { s1 with heap := h' } := I1.kept (t' := s1.toks) hk
    refine ⟨s1.heap.objs.size + 1, [s1.heap.objs.size + 1, s1.heap.objs.size], _, _, H1, rfl, I2, turn_enumT (a := a) (Nat.ne_of_lt la) (Nat.ne_of_lt (Nat.lt_succ_of_lt la)), ⟨⟨.none, he⟩, ⟨_, hit, rfl, rfl⟩, Nat.succ_ne_self _⟩, fun b hb => ?_, q⟩
    have hle : s1.heap.objs.size ≤ b := by
      rcases (by simpa using hb : b = s1.heap.objs.size + 1 ∨ b = s1.heap.objs.size) with z | z
      · rw [z]; exact Nat.le_add_right _ _
      · rw [z]; exact Nat.le_refl _
    exact I1.fpOk hle (I1.hok.fresh hle)
def numb : Nat → List D → List D
  | _, [] => []
  | n, d :: r => .tup [.int (n : Nat), d] :: numb (n + 1) r
theorem numb_get : ∀ (ds : List D) (n i : Nat), (numb n ds)[i]? = (ds[i]?).map fun d => .tup [.int ((n + i : Nat) : Int), d]
  | [], n, i => by simp [numb]
  | d :: r, n, 0 => by simp [numb]
  | d :: r, n, i + 1 => by
    show (numb (n + 1) r)[i]? = (r[i]?).map _
    rw [numb_get r (n + 1) i, show n + 1 + i = n + (i + 1) by omega]
theorem walk_enumT {K : PySem.W.Frag} {H : Hp} {ok : Addr → Prop} {p : Addr} {ws : List V} {es : List D} (h : SqT K H p ws) (r : Reps K H ok ws es) : Walk K H ok (ItE K p) (numb 0 es) := fun Hb k i H' s => by
  have hp : SqT K H' p ws := keeps_tup (Same.keeps (ok := fun _ => True) s) (keeps_tup k h)
  have r' : Reps K H' (fun a => ok a ∧ H a ≠ none) ws es := ((Reps.dom es ws r).keeps k fun _ z => z).keeps (Same.keeps s) fun _ z => z
  rw [numb_get]
  refine ⟨fun d hd => ?_, fun hn => ⟨ws, hp, ?_⟩⟩
  · cases hg : es[i]? with
    | none => rw [hg] at hd; cases hd
    | some d' =>
      rw [hg] at hd
      cases hd
      obtain ⟨v, hv, rv⟩ := r'.get hg
      exact ⟨⟨ws, v, hp, hv⟩, fun x H'' y => by
        obtain ⟨T, y, rfl, nT, rfl, f⟩ := y
        have := f ws hp
        rw [hv] at this
        cases this
        have sn := same_new (o := .tup [.int (i : Nat), v]) nT
        rw [Nat.zero_add]
        exact ⟨sn, .tup upd_same (.cons (.int _) (.cons (rv.keeps (Same.keeps sn) fun _ z => z) .nil))⟩⟩
  · cases hg : es[i]? with
    | none => rw [r'.length]; exact List.getElem?_eq_none_iff.mp hg
    | some d' => rw [hg] at hn; cases hn
def itE (m : Ma) : Ma := fun S => (m S).bind fun
  | [.tup ds] => some (numb 0 ds)
  | [.wt ds] => some (numb 0 ds)
  | _ => none
theorem ei_enum {X : Cx} {a : Expr} {mr : Ma} {p pos tpos : Pos} {elts : List Expr} {kk : Nat} (hg : Gl X "enumerate") (hm : X.mg "enumerate" = none) (ha : Ea X [a] mr) (hs : starEach [a] X.env = [(false, eval a X.env)] := by rfl) :
    Ei X (.Tuple elts kk tpos) (.Call (.Name "enumerate" p) [a] [] pos) (itE mr) := PI.imp (pi_enumT hg hm ha hs) fun σ H R hh => by
  obtain ⟨ok, S, ds, rs, m, q⟩ := hh
  obtain ⟨xs, h1, m1⟩ := bind_some m
  refine ⟨ok, S, xs, rs, h1, fun vs H1 s r => ?_⟩
  split at m1
  · cases m1
    cases r with
    | cons x r => cases r; cases x with
      | tup h r => exact ⟨_, _, rfl, SqT.of h, q _ H1 s (walk_enumT (SqT.of h) r)⟩
  · cases m1
    cases r with
    | cons x r => cases r; cases x with
      | wt h r => exact ⟨_, _, rfl, h, q _ H1 s (walk_enumT h r)⟩
  · cases m1
end Ice

/-! a dict comprehension whose keys are tuples -/
namespace Ice
open PySem PySem.Spec PyProof.Rows L2

section
variable {X : Cx}
/-- one pair more in a dict of tuple keys -/
theorem putT {pins : List (Addr × Obj)} {σ : L2.St} {G : Hp} {t : Shared} {E : Value → Shared → Prop} {D b : Addr} {prs : List (List Key × V)} {k : List Key} {x : V} {u : Value} {Q : Unit → Shared → Prop} (hu : X.A.units + 1 < cLine) (J : Inv X pins σ G t) (hD : G D = some (.dT prs))
    (hb : G b = some (.tup (k.map kV))) (few : prs.length < sizeLine) (rx : RelV x u) (q : ∀ t', Inv X pins σ (upd G D (.dT (putK prs k x))) t' → Q () t') : wpAny (model X.prog X.w) X.A (dictSet D (.ref b) u) Q E t := by
  obtain ⟨l1, low, es, rel, dd⟩ := dt_of J.hok hD
  have l2 : es.length ≤ sizeLine := by
    rw [← Paired.length rel]
    exact l1
  have l3 : (putK prs k x).length ≤ sizeLine := Nat.le_trans (length_putK prs k x) few
  have hu' : X.A.units < cLine := Nat.lt_of_succ_lt hu
  refine wpAny_dictSet_heap (hsz := l2) (show (tupleKind (mixKind X.prog X.w)).room X.A by exact hu') (key_of J.hok hb) dd fun h' dd' sb => q _ ?_
  obtain ⟨o, fs, ep, e1, e2, e3, e4, _, e5⟩ := dd'
  exact d_write J (by rw [hD]; trivial) sb ⟨o, e1⟩ ⟨l3, low, _, (rel.put k hb rx).keeps fun c ys ec => by
    rw [upd_ne (ne_of ec hD (fun z => nomatch z))]
    exact ec, o, fs, ep, e1, e2, e3, e4, e5⟩
/-- {k: v for target in iter if ..}: the new dict at D -/
def tDcT (wi : TI) (g : TG) (tt : TT) (tk tv : TE) (vs : List Nat) : TE := fun σ H Q => wi σ H fun J H1 => ∀ D, H1 D = none → ∃ W : Nat → Nat → Hp → Prop, (∃ m, W 0 m (upd H1 D (.dT []))) ∧ ∀ i m H, W i m H →
  (J.stop i H ∧ Q (.ref D) H) ∨ (J.go i H ∧ ∃ Nx : Hp → Prop, (∀ H', Nx H' → ∃ m', m' < m ∧ W (i + 1) m' H') ∧ ∀ x H', J.yld i H x H' → g x (wipe σ vs) H' fun σ2 H2 => wipe σ2 vs = wipe σ vs ∧ tt σ2 H2 fun c H3 =>
    if c = true then tk σ2 H3 fun y H4 => tv σ2 H4 fun z H5 => ∃ prs k b, y = .ref b ∧ H5 b = some (.tup (k.map kV)) ∧ H5 D = some (.dT prs) ∧ prs.length < sizeLine ∧ Nx (upd H5 D (.dT (putK prs k z))) else Nx H3)
theorem pe_dcT {kx vx tg iter : Expr} {ifs : List Expr} {scope : Scope} {own : List (Str × Nat)} {pos : Pos} {wi : TI} {g : TG} {tt : TT} {tk tv : TE} (hu : X.A.units + 1 < cLine) (hc : X.calm = true) (hN : X.N.Nodup) (hi : PI X tg iter wi) (ok : BlkOk X.N X.env.scope scope own)
    (hg : ∀ (t : Shared) (G : Hp) (C : Addr) (cs : List (Str × Addr)) (fp : List Addr), PG (X.blk t G scope (compEnvC scope cs C X.env) fp) tg g)
    (ht : ∀ (t : Shared) (G : Hp) (C : Addr) (cs : List (Str × Addr)) (fp : List Addr), PTs (X.blk t G scope (compEnvC scope cs C X.env) fp) ifs tt)
    (hk : ∀ (t : Shared) (G : Hp) (C : Addr) (cs : List (Str × Addr)) (fp : List Addr), PE (X.blk t G scope (compEnvC scope cs C X.env) fp) kx tk)
    (he : ∀ (t : Shared) (G : Hp) (C : Addr) (cs : List (Str × Addr)) (fp : List Addr), PE (X.blk t G scope (compEnvC scope cs C X.env) fp) vx tv) (hs : ∀ x, foldedSetIterable iter X.env x = pure x := by intro _; rfl) :
    PE X (.DictComp kx vx [⟨tg, iter, ifs, 0⟩] scope pos) (tDcT wi g tt tk tv (own.map (fun p => p.2))) := by
  refine ⟨fun pins t0 σ G0 Q J0 want => ?_⟩
  rw [arm_eval_DictComp]
  have fr : ∀ y ∈ scope.names, y.2 = .free → ∃ c, X.env.cells.lookup y.1 = some c := fun y hy e => (ok.free y hy e).elim (fun k => J0.ok.has _ (.inl k)) fun k => J0.ok.has _ (.inr k)
  refine wpAny_comprehension_free rfl hs (closure_ok fr) ok.kind (fun y hy e => by rw [ok.uniq y hy, e]) (thn (hi.run pins t0 σ G0 _ J0 want) fun xv t1 hx => thn hx fun itv t2 h2 => ?_)
  obtain ⟨it, fp, tn, Jt, G2, e, J2, T, st2, f2, q⟩ := h2
  subst e
  refine wpAny_newObj_type (newEnv_comp ?_)
  generalize hD : t2.heap.objs.size = D
  have free : G2 D = none := J2.hok.fresh (Nat.le_of_eq hD)
  obtain ⟨W, ⟨m0, w0⟩, turn⟩ := q D free
  generalize et3 : ({ t2 with heap := t2.heap.push { cls := .type "dict", data := .dict #[] } } : Shared) = t3
  have J3 : Inv X pins σ (upd G2 D (.dT [])) t3 := by
    rw [← et3]
    refine J2.laid (t' := t2.toks) (fun b o z => Heap.get?_push_of_some _ z) (Nat.le_of_eq hD) ?_
    rw [← hD]
    exact dt_empty t2.heap J2.big
  have hp3 : t3.heap = t2.heap.push { cls := .type "dict", data := .dict #[] } := by rw [← et3]
  have small : ∀ b ∈ fp, b < t2.heap.objs.size := fun b hb => let ⟨o, z, _⟩ := T.obj _ _ st2 b hb; Heap.lt_size z
  have f3 : ∀ b ∈ fp, FpOk X pins (upd G2 D (.dT [])) b ∧ b < t3.heap.objs.size := fun b hb => by
    have lt := small b hb
    refine ⟨⟨?_, (f2 b hb).2⟩, by rw [hp3, Heap.size_push]; exact Nat.lt_succ_of_lt lt⟩
    rw [upd_ne (show b ≠ D by rw [← hD]; exact Nat.ne_of_lt lt)]
    exact (f2 b hb).1
  have st3 : tn 0 t3.heap := T.keep _ _ _ st2 fun b _ o z => by
    rw [hp3]
    exact Heap.get?_push_of_some _ z
  have J4 := block_start J3 ok hN f3
  have rg := hg t3 (upd G2 D (.dT [])) t3.heap.objs.size (cellsFrom (t3.heap.objs.size + 1) scope.names (cloFrom X.env.cells scope.names [])) fp
  have rt := ht t3 (upd G2 D (.dT [])) t3.heap.objs.size (cellsFrom (t3.heap.objs.size + 1) scope.names (cloFrom X.env.cells scope.names [])) fp
  have rk := hk t3 (upd G2 D (.dT [])) t3.heap.objs.size (cellsFrom (t3.heap.objs.size + 1) scope.names (cloFrom X.env.cells scope.names [])) fp
  have re := he t3 (upd G2 D (.dT [])) t3.heap.objs.size (cellsFrom (t3.heap.objs.size + 1) scope.names (cloFrom X.env.cells scope.names [])) fp
  show codeAny _ _ (.compStart (.DictComp kx vx [⟨tg, iter, ifs, 0⟩] scope pos) 0 (.ref it) (.ref D) (compEnvC scope (cellsFrom (t3.heap.objs.size + 1) scope.names (cloFrom X.env.cells scope.names [])) t3.heap.objs.size X.env))
    (compPost (model X.prog X.w) X.A X.xe none _ (.ref D) t3.heap.objs.size) { t3 with heap := pushCells (t3.heap.push { cls := .type "dict", data := .dict #[] }) scope.names }
  have off3 : ∀ b ∈ fp, (upd G2 D (.dT [])) b = none := fun b hb => (f3 b hb).1.1
  generalize ece : compEnvC scope (cellsFrom (t3.heap.objs.size + 1) scope.names (cloFrom X.env.cells scope.names [])) t3.heap.objs.size X.env = ce at J4 rg rt rk re ⊢
  have cL : ce.locals = t3.heap.objs.size := by
    subst ece
    rfl
  generalize eG3 : upd G2 D (.dT []) = G3 at J3 J4 rg rt rk re w0 off3 f3
  generalize et4 : ({ t3 with heap := pushCells (t3.heap.push { cls := .type "dict", data := .dict #[] }) scope.names } : Shared) = t4 at J4 ⊢
  have st4 : tn 0 t4.heap := T.keep _ _ _ st3 fun b _ o z => by
    rw [← et4]
    exact pushCells_keeps _ _ _ _ (Heap.get?_push_of_some _ z)
  have still : ∀ {σ' : L2.St} {G' : Hp} {t' : Shared}, Inv (X.blk t3 G3 scope ce fp) [] σ' G' t' → (∀ b ∈ fp, G' b = none) → ∀ b ∈ fp, FpOk (X.blk t3 G3 scope ce fp) [] G' b := fun {σ' G' t'} J' no b hb =>
    ⟨no b hb, (J'.ok.exf b hb).1, J'.ok.exfs b hb, .inl hb, fun x c z => (J'.ok.exf b hb).2 x c z, fun p hp => absurd (show p ∈ ([] : List (Addr × Obj)) ++ [] from hp) (by simp)⟩
  have loop : codeAny (model X.prog X.w) X.A (.compLoop (.DictComp kx vx [⟨tg, iter, ifs, 0⟩] scope pos) 0 (.ref it) (.ref D) ce) (compPost (model X.prog X.w) X.A X.xe none (EP X pins σ Q) (.ref D) t3.heap.objs.size) t4 := by
    refine compLoop_anyD (fun n t' => ∃ i G', Inv (X.blk t3 G3 scope ce fp) [] (wipe σ (own.map (fun p => p.2))) G' t' ∧ tn i t'.heap ∧ (∀ b ∈ fp, G' b = none) ∧ W i n G') ?_ m0 ⟨0, G3, J4, st4, off3, w0⟩
    rintro n t5 ⟨i, G5, J5, st5, off5, w5⟩
    rcases turn i n G5 w5 with ⟨stop, qq⟩ | ⟨go, Nx, hNx, step⟩
    · refine thnF (T.done (X.blk t3 G3 scope ce fp) rfl rfl rfl hc i [] t5 _ G5 (fun _ _ => False) J5 (still J5 off5) st5 stop) fun r t6 ⟨hr, J6⟩ => ?_
      subst hr
      have J7 : Inv X pins σ G5 t6 := J3.call' (ch := fp) J6.os J6.base J6.hok J6.bare fun b hb => let z := (f3 b hb).1; ⟨z.2.2.2.1, z.2.1, z.2.2.2.2.1, z.2.2.2.2.2⟩
      have nC : G5 t3.heap.objs.size = none := by
        have z : G5 ce.locals = none := J6.free
        rw [cL] at z
        exact z
      obtain ⟨m, hn, _⟩ := J6.loc
      have hn : t6.heap.Ns ce.locals m := hn
      rw [cL] at hn
      obtain ⟨f0, f1, f2', f3', f4, f5⟩ := J3.fpOk (Nat.le_refl _) nC
      exact ⟨m, hn, fun h'' sb => ⟨.ref D, G5, J7.turned (t' := t6.toks) (fun b o hb z => (sb.2 b hb).trans z) f0 f1 f3' f4 f5, rfl, qq⟩⟩
    · refine thnF (T.item (X.blk t3 G3 scope ce fp) rfl rfl rfl hc i [] t5 _ G5 (fun _ _ => False) J5 (still J5 off5) st5 go) fun r t6 ⟨u, hr, h6⟩ => ?_
      subst hr
      refine thnF h6 fun _ t7 ⟨x, G7, J7, r7, y7, st7, off7⟩ => ?_
      refine thnF (rg.run _ t7 _ G7 x u _ (J7.pinned (still J7 off7) (T.obj _ _ st7)) r7 (step x G7 y7)) fun _ t8 ⟨σ8, G8, J8, hw8, q8⟩ => ?_
      refine thnF (rt.run _ t8 σ8 G8 _ J8 q8) fun c t9 ⟨G9, J9, q9⟩ => ?_
      have again : ∀ {t' : Shared} {G' : Hp}, Inv (X.blk t3 G3 scope ce fp) ([] ++ pinsAt fp t7.heap) σ8 G' t' → Nx G' → ∃ m, m < n ∧ ∃ i G', Inv (X.blk t3 G3 scope ce fp) [] (wipe σ (own.map (fun p => p.2))) G' t' ∧ tn i t'.heap ∧ (∀ b ∈ fp, G' b = none) ∧ W i m G' := fun {t' G'} J' nx => by
        obtain ⟨m', lt, w'⟩ := hNx G' nx
        have pin' : ∀ b ∈ fp, ∀ o, t7.heap.get? b = some o → t'.heap.get? b = some o ∧ G' b = none := fun b hb o z => let y := J'.pin (b, o) (List.mem_append_right _ (List.mem_append_right _ (mem_pinsAt hb z))); ⟨y.1, y.2.1⟩
        refine ⟨m', lt, i + 1, G', (J'.unpinned (pins := [])).weak (by rw [← hw8, wipe_length]) (fun j v z => ?_), T.keep _ _ _ st7 fun b hb o z => (pin' b hb o z).1, fun b hb => ?_, w'⟩
        · rw [← hw8] at z
          exact (wipe_some z).1
        · obtain ⟨o, z, _⟩ := T.obj _ _ st7 b hb
          exact (pin' b hb o z).2
      cases c with
      | false => exact again J9 q9
      | true =>
        refine thnF (rk.run _ t9 σ8 G9 _ J9 q9) fun z1 t10 ⟨yk, G10, J10, r10, q10⟩ => ?_
        refine thnF (re.run _ t10 σ8 G10 _ J10 q10) fun z2 t11 ⟨yv, G11, J11, r11, prs, k, b, ek, hb, hD11, few, nx⟩ => ?_
        subst ek
        cases (show z1 = Value.ref b from r10)
        exact putT (X := X.blk t3 G3 scope ce fp) hu J11 hD11 hb few r11 fun t12 J12 => again J12 nx
  exact codeAny_compStart_dict loop (T.self X.A 0 _ _ _ st4 loop)
end

/-! its mirror -/
def putKs (ks : List (List Key)) (k : List Key) : List (List Key) := if (ks.any fun j => decide (j = k)) = true then ks else ks ++ [k]
def replD (ks : List (List Key)) (es : List D) (k : List Key) (z : D) : List D := ks.zipWith (fun j e => if j = k then z else e) es
def putDs (ks : List (List Key)) (es : List D) (k : List Key) (z : D) : List D := if (ks.any fun j => decide (j = k)) = true then replD ks es k z else es ++ [z]
def compDc (vs : List Nat) (t : Tg) (tt : Mt) (mk mv : Mi) (S : Sd) : List D → List (List Key) → List D → Option (List (List Key) × List D)
  | [], ks, es => some (ks, es)
  | d :: r, ks, es => (asg t d (wipeD S vs)).bind fun S1 => (tt S1).bind fun c => if c = true then (mk S1).bind fun y => (mv S1).bind fun z => match y with
      | .tup xs => (keyOf xs).bind fun k => compDc vs t tt mk mv S r (putKs ks k) (putDs ks es k z)
      | _ => none
    else compDc vs t tt mk mv S r ks es
def mDc (mi : Ma) (vs : List Nat) (t : Tg) (tt : Mt) (mk mv : Mi) : Mi := fun S => (mi S).bind fun ds => if ds.length ≤ 1000000 then (compDc vs t tt mk mv S ds [] []).map fun p => .dic p.1 p.2 else none
theorem zip_put {ks : List (List Key)} {k : List Key} {x : V} {us : List V} (h : ks.length = us.length) : putK (ks.zip us) k x = (putKs ks k).zip (if (ks.any fun j => decide (j = k)) = true then ks.zipWith (fun j e => if j = k then x else e) us else us ++ [x]) := by
  unfold putK putKs
  rw [zip_any k ks us h]
  by_cases c : (ks.any fun j => decide (j = k)) = true
  · rw [if_pos c, if_pos c, if_pos c]
    clear c
    induction ks generalizing us with
    | nil => rfl
    | cons j ks ih => cases us with
      | nil => cases h
      | cons u us =>
        rw [List.zip_cons_cons, List.map_cons, List.zipWith_cons_cons, List.zip_cons_cons, ih (Nat.succ.inj h)]
        by_cases e : j = k
        · simp only [e, if_true]
        · simp only [e, if_false]
  · rw [if_neg c, if_neg c, if_neg c, List.zip_append h]
    rfl
theorem reps_repl {K : PySem.W.Frag} {H : Hp} {ok : Addr → Prop} {k : List Key} {x : V} {z : D} (rz : Rep K H ok x z) : ∀ {ks : List (List Key)} {us : List V} {es : List D}, Reps K H ok us es → Reps K H ok (ks.zipWith (fun j e => if j = k then x else e) us) (replD ks es k z)
  | [], _, _, _ => .nil
  | _ :: _, _, _, .nil => .nil
  | j :: ks, _, _, .cons a r => by
    refine .cons ?_ (reps_repl rz r)
    show Rep K H ok (if j = k then x else _) (if j = k then z else _)
    by_cases e : j = k
    · rw [if_pos e, if_pos e]; exact rz
    · rw [if_neg e, if_neg e]; exact a
theorem t_dc {K : PySem.W.Frag} {mi : Ma} {vs : List Nat} {t : Tg} {tt : Mt} {mk mv : Mi} {σ : L2.St} {H : Hp} {Q : VK} (hv : ∀ i ∈ sl t, i ∈ vs ∧ i < σ.length) (h : tE K (mDc mi vs t tt mk mv) σ H Q) : tDcT (tI K mi) (tG K t) (tT K tt) (tE K mk) (tE K mv) vs σ H Q := by
  obtain ⟨ok, S, dz, rs, m, q⟩ := h
  obtain ⟨ds, h1, m1⟩ := bind_some m
  by_cases hlen : ds.length ≤ 1000000
  case neg => rw [if_neg hlen] at m1; cases m1
  rw [if_pos hlen] at m1
  obtain ⟨fin, hfin, m1⟩ := map_some m1
  subst m1
  refine ⟨ok, S, ds, rs, h1, fun J H1 s1 wk D hD => ?_⟩
  have hD0 : H D = none := s1.free hD
  let okD : Addr → Prop := fun a => ex ok H a ∧ a ≠ D
  let okc : Addr → Prop := fun a => ex ok H a ∧ H1 a ≠ none
  have okcD : ∀ a, okc a → okD a := fun a h => ⟨h.1, fun z => h.2 (by rw [z]; exact hD)⟩
  have newD : ∀ {Ha Hb : Hp}, Same H1 Ha → Ha D ≠ none → Same Ha Hb → ∀ a, ex okc Ha a → okD a := fun {Ha Hb} sa nd sb a h => by
    rcases h with h | h
    · exact okcD a h
    · exact ⟨.inr (s1.free (sa.free h)), fun z => nd (by rw [← z]; exact h)⟩
  refine ⟨fun i n H' => n = ds.length - i ∧ i ≤ ds.length ∧ Same H1 H' ∧ ∃ ks us es, H' D = some (.dT (ks.zip us)) ∧ ks.length = us.length ∧ ks.length ≤ i ∧ Reps K H' okD us es ∧ compDc vs t tt mk mv S (ds.drop i) ks es = some fin,
    ⟨ds.length, rfl, Nat.zero_le _, same_new hD, [], [], [], upd_same, rfl, Nat.le_refl _, .nil, hfin⟩, ?_⟩
  rintro i n H' ⟨rfl, hi, s2, ks, us, es, hacc, hku, hal, racc, hrest⟩
  have wk' := wk H1 (fun a o e _ => e) i H' s2
  by_cases hlt : i < ds.length
  · have hg : ds[i]? = some ds[i] := List.getElem?_eq_getElem hlt
    have hdrop : ds.drop i = ds[i] :: ds.drop (i + 1) := List.drop_eq_getElem_cons hlt
    obtain ⟨go, yl⟩ := wk'.1 _ hg
    rw [hdrop] at hrest
    obtain ⟨S1, ha, hrest⟩ := bind_some (show (asg t ds[i] (wipeD S vs)).bind _ = some fin from hrest)
    obtain ⟨c, hc, hrest⟩ := bind_some hrest
    let Nx : Hp → Prop := fun H'' => i + 1 ≤ ds.length ∧ Same H1 H'' ∧ ∃ ks us es, H'' D = some (.dT (ks.zip us)) ∧ ks.length = us.length ∧ ks.length ≤ i + 1 ∧ Reps K H'' okD us es ∧ compDc vs t tt mk mv S (ds.drop (i + 1)) ks es = some fin
    refine .inr ⟨go, Nx, fun H'' nx => ⟨ds.length - (i + 1), by omega, rfl, nx⟩, fun x H3 y => ?_⟩
    obtain ⟨s3, rx⟩ := yl x H3 y
    have s13 := s2.trans s3
    have rs3 : Rs K H3 okc (wipeD S vs) (wipe σ vs) := ((Rs.wipe (fun i d e => by
      obtain ⟨v, e1, e2⟩ := rs i d e
      exact ⟨v, e1, Rep.dom d v e2⟩ : Rs K H (fun a => ok a ∧ H a ≠ none) S σ) vs)).keeps (Same.keeps (s1.trans s13)) fun a h => ⟨.inl h.1, fun z => h.2 (s1.free z)⟩
    refine ⟨okc, wipeD S vs, ds[i], S1, fun j hj => by rw [wipe_length]; exact (hv j hj).2, rs3, rx, ha, fun σ2 b2 rs2 => ⟨?_, okc, S1, c, rs2, hc, fun H4 s4 => ?_⟩⟩
    · have hw : wipe (wipe σ vs) vs = wipe σ vs := wipe_but ⟨wipe_length σ vs, fun j hj => by rw [wipe_get, if_neg hj]⟩
      rw [wipe_but (b2.mono fun j hj => (hv j hj).1), hw]
    have hacc4 : H4 D = some (.dT (ks.zip us)) := s4 _ _ (s3 _ _ hacc)
    have racc4 : Reps K H4 okD us es := racc.keeps (Same.keeps (s3.trans s4)) fun _ z => z
    cases c with
    | false =>
      rw [if_neg Bool.false_ne_true] at hrest
      exact ⟨hlt, s13.trans s4, ks, us, es, hacc4, hku, Nat.le_succ_of_le hal, racc4, hrest⟩
    | true =>
      rw [if_pos rfl] at hrest
      obtain ⟨yd, hy, hrest⟩ := bind_some hrest
      obtain ⟨zd, hz, hrest⟩ := bind_some hrest
      cases yd with
      | tup xs =>
        obtain ⟨k, hk, hrest⟩ := bind_some (show (keyOf xs).bind _ = some fin from hrest)
        have nd4 : H4 D ≠ none := fun z => by rw [hacc4] at z; cases z
        refine ⟨okc, S1, _, rs2.keeps (Same.keeps s4) (fun _ z => z), hy, fun yv H5 s5 ry => ?_⟩
        have hacc5 := s5 _ _ hacc4
        have nd5 : H5 D ≠ none := fun z => by rw [hacc5] at z; cases z
        refine ⟨okc, S1, _, rs2.keeps (Same.keeps (s4.trans s5)) (fun _ z => z), hz, fun zv H6 s6 rz => ?_⟩
        have hacc6 := s6 _ _ hacc5
        cases ry with
        | tup hb rr =>
          have ek := key_ok rr hk
          subst ek
          refine ⟨ks.zip us, k, _, rfl, s6 _ _ hb, hacc6, ?_, hlt, ?_, putKs ks k, (if (ks.any fun j => decide (j = k)) = true then ks.zipWith (fun j e => if j = k then zv else e) us else us ++ [zv]), putDs ks es k zd, ?_, ?_, ?_, ?_, hrest⟩
          · rw [List.length_zip]
            exact Nat.lt_of_le_of_lt (Nat.min_le_left _ _) (Nat.lt_of_le_of_lt hal (Nat.lt_of_lt_of_le hlt (Nat.le_trans hlen (by decide))))
          · intro a o e
            rw [upd_ne (ne_of_none e hD)]
            exact s6 _ _ (s5 _ _ (s4 _ _ (s13 _ _ e)))
          · rw [upd_same, zip_put hku]
          · unfold putKs
            split
            · rw [List.length_zipWith, hku, Nat.min_self]
            · rw [List.length_append, List.length_append, hku]
              rfl
          · unfold putKs
            split
            · exact Nat.le_succ_of_le hal
            · rw [List.length_append]
              exact Nat.succ_le_succ hal
          · have kp : Keeps okD H6 (upd H6 D (.dT (putK (ks.zip us) k zv))) := fun a o e g => by
              have ne : a ≠ D := fun z => by
                rw [z] at e g
                rw [hacc6] at e
                cases e
                exact g.elim (fun g => g.2 rfl) fun g => g
              rw [upd_ne ne]
              exact e
            have r1 := (racc4.keeps (Same.keeps (s5.trans s6)) fun _ z => z).keeps kp fun _ z => z
            have r2 := (rz.keeps (Same.keeps (Same.refl _)) (newD ((s13.trans s4).trans s5) nd5 s6)).keeps kp fun _ z => z
            unfold putDs
            split
            · exact reps_repl r2 r1
            · exact Reps.append r1 (.cons r2 .nil)
      | _ => cases hrest
  · have e : i = ds.length := by omega
    subst e
    rw [List.drop_length] at hrest
    cases hrest
    refine .inl ⟨wk'.2 (List.getElem?_eq_none_iff.mpr (Nat.le_refl _)), q _ H' (s1.trans s2) (.dic (.inr hD0) hacc hku (racc.keeps (Same.keeps (Same.refl _)) fun a h => h.1))⟩
theorem ev_dc {X : Cx} {kx vx tg iter : Expr} {ifs : List Expr} {scope : Scope} {pos : Pos} {mi : Ma} {t : Tg} {tt : Mt} {mk mv : Mi} (own : List (Str × Nat)) (hN : X.N.Nodup) (hi : Ei X tg iter mi) (ok : BlkOk X.N X.env.scope scope own)
    (hg : ∀ (s : Shared) (H : Hp) (C : Addr) (cl : List (Str × Addr)) (fp : List Addr), Eg (X.blk s H scope (compEnvC scope cl C X.env) fp) tg t) (ht : ∀ (s : Shared) (H : Hp) (C : Addr) (cl : List (Str × Addr)) (fp : List Addr), Ets (X.blk s H scope (compEnvC scope cl C X.env) fp) ifs tt)
    (hk : ∀ (s : Shared) (H : Hp) (C : Addr) (cl : List (Str × Addr)) (fp : List Addr), Ev (X.blk s H scope (compEnvC scope cl C X.env) fp) kx mk) (he : ∀ (s : Shared) (H : Hp) (C : Addr) (cl : List (Str × Addr)) (fp : List Addr), Ev (X.blk s H scope (compEnvC scope cl C X.env) fp) vx mv)
    (hu : X.A.units + 1 < cLine) (hs : ∀ x, foldedSetIterable iter X.env x = pure x := by intro _; rfl) (hv : ∀ i ∈ sl t, i ∈ own.map (fun p => p.2) := by decide) (hc : X.calm = true := by rfl) : Ev X (.DictComp kx vx [⟨tg, iter, ifs, 0⟩] scope pos) (mDc mi (own.map (fun p => p.2)) t tt mk mv) :=
  ⟨fun pins s σ H Q I h => (pe_dcT hu hc hN hi ok hg ht hk he hs).run pins s σ H Q I (t_dc (fun i h => ⟨hv i h, lt_of_own ok I.len (hv i h)⟩) h)⟩
end Ice

/-! dict(xs), xs a list of pairs whose keys are tuples -/
namespace Ice
open PySem PySem.Spec PyProof.Rows L2

/-- a pair of the list: its address, its key, the key's address, its value -/
structure Pr where
  at_ : Addr
  key : List Key
  kat : Addr
  val : V
def PrOk (H : Hp) (p : Pr) : Prop := H p.at_ = some (.tup [.ref p.kat, p.val]) ∧ H p.kat = some (.tup (p.key.map kV))
def fillT (acc : List (List Key × V)) (prs : List Pr) : List (List Key × V) := prs.foldl (fun m p => putK m p.key p.val) acc
def rDictT : List V → Hp → VK → Prop := fun xs H Q => ∃ (a : Addr) (prs : List Pr), xs = [.ref a] ∧ H a = some (.lst (prs.map fun p => V.ref p.at_)) ∧ (∀ p ∈ prs, PrOk H p) ∧ ∀ q, H q = none → Q (.ref q) (upd H q (.dT (fillT [] prs)))
theorem fill_len : ∀ (prs : List Pr) (acc : List (List Key × V)), (fillT acc prs).length ≤ acc.length + prs.length
  | [], acc => Nat.le_refl _
  | p :: prs, acc => by
    have h1 := fill_len prs (putK acc p.key p.val)
    have h2 := length_putK acc p.key p.val
    show (fillT (putK acc p.key p.val) prs).length ≤ acc.length + (prs.length + 1)
    omega
section
variable {X : Cx} {pins : List (Addr × Obj)} {σ : L2.St} {H : Hp} {s : Shared}
/-- the pairs, as values -/
theorem prs_vals (I : Inv X pins σ H s) : ∀ {prs : List Pr}, (∀ p ∈ prs, PrOk H p) → ∃ us : List Value, us.length = prs.length ∧ ∀ (j : Nat) (p : Pr), prs[j]? = some p → ∃ u, us[j]? = some u ∧ RelV p.val u ∧ IsTup s.heap p.at_ #[.ref p.kat, u]
  | [], _ => ⟨[], rfl, fun j p e => by simp at e⟩
  | p :: prs, h => by
    obtain ⟨us, hl, hu⟩ := prs_vals I (prs := prs) fun q hq => h q (List.mem_cons_of_mem _ hq)
    obtain ⟨its, rv, ht, _⟩ := I.tuple (SqT.of (h p List.mem_cons_self).1)
    obtain ⟨k, u, ei, rk, ru⟩ := vals2 rv
    subst ei
    cases rk
    refine ⟨u :: us, congrArg (· + 1) hl, fun j q e => ?_⟩
    cases j with
    | zero =>
      cases (Option.some.inj e : p = q)
      exact ⟨u, rfl, ru, ht⟩
    | succ j =>
      obtain ⟨u', e1, e2⟩ := hu j q (by simpa using e)
      exact ⟨u', by simpa using e1, e2⟩
def trip (p : Pr) (u : Value) : List Key × Addr × Value := (p.key, p.kat, u)
theorem fill_rel {H : Hp} : ∀ {prs : List Pr} {us : List Value} {acc : List (List Key × V)} {xs : List (List Key × Addr × Value)}, us.length = prs.length → (∀ (j : Nat) (p : Pr), prs[j]? = some p → ∃ u, us[j]? = some u ∧ RelV p.val u) → (∀ p ∈ prs, H p.kat = some (.tup (p.key.map kV))) → KT H acc xs →
    KT H (fillT acc prs) (storedAllH xs (prs.zipWith trip us))
  | [], [], _, _, _, _, _, r => r
  | [], _ :: _, _, _, h, _, _, _ => by cases h
  | _ :: _, [], _, _, h, _, _, _ => by cases h
  | p :: prs, u :: us, acc, xs, hl, hu, hk, r => by
    obtain ⟨u', e1, e2⟩ := hu 0 p rfl
    cases (Option.some.inj e1 : u = u')
    exact fill_rel (prs := prs) (us := us) (Nat.succ.inj hl) (fun j q e => by
      obtain ⟨u', f1, f2⟩ := hu (j + 1) q (by simpa using e)
      exact ⟨u', by simpa using f1, f2⟩) (fun q hq => hk q (List.mem_cons_of_mem _ hq)) (r.put p.key (hk p List.mem_cons_self) e2)
theorem cr_dictT (hc : X.calm = true) (hu : X.A.units + 2 < cLine) : CallR X (.type "dict") rDictT := by
  intro pins s σ H xs us Q I r q
  obtain ⟨a, prs, rfl, ha, hp, q⟩ := q
  obtain ⟨u, rfl, rx⟩ := vals1 r
  cases rx
  obtain ⟨its, rv, pl, hz⟩ := I.list (SqL.of ha)
  have ei : its = (prs.map fun p => p.at_).map Value.ref := refs_at (by rw [List.map_map]; exact rv)
  subst ei
  rw [List.length_map] at hz
  obtain ⟨ws, hl, hw⟩ := prs_vals I hp
  obtain ⟨o, n, ho, hcl, hd, hdat⟩ := pl
  let ps : List (List Key × Addr × Value) := prs.zipWith trip ws
  let vps : List (Value × Value) := ps.map fun p => (Value.ref p.2.1, p.2.2)
  have psl : ps.length = prs.length := by
    show (prs.zipWith trip ws).length = _
    rw [List.length_zipWith, hl, Nat.min_self]
  have vpl : vps.length = prs.length := by
    show (ps.map _).length = _
    rw [List.length_map, psl]
  have psg : ∀ (j : Nat) (y : List Key × Addr × Value), ps[j]? = some y → ∃ p u, prs[j]? = some p ∧ ws[j]? = some u ∧ y = trip p u := fun j y e => by
    have e' : (prs.zipWith trip ws)[j]? = some y := e
    rw [List.getElem?_zipWith] at e'
    cases e1 : prs[j]? with
    | none => rw [e1] at e'; cases e'
    | some p =>
      cases e2 : ws[j]? with
      | none => rw [e1, e2] at e'; cases e'
      | some u => rw [e1, e2] at e'; exact ⟨p, u, rfl, rfl, (Option.some.inj e').symm⟩
  let Ts : Nat → Addr := fun j => ((prs[j]?).map fun p => p.at_).getD 0
  have keyIs : ∀ y ∈ ps, (tupleKind (mixKind X.prog X.w)).is s.heap y.1 y.2.1 := fun y hy => by
    obtain ⟨j, e⟩ := List.getElem?_of_mem hy
    obtain ⟨p, u, e1, e2, rfl⟩ := psg j y e
    exact key_of I.hok (hp p (List.mem_of_getElem? e1)).2
  refine call_dict_pairsH (knd := tupleKind (mixKind X.prog X.w)) (ps := ps) (PairArg.list a _ Ts vps) (I.ok.hd hc) (show X.A.units + 2 < cLine from hu) ⟨⟨o, n, ho, hcl, hd, hdat⟩, ?_, fun j k v e => ?_⟩ ⟨psl.trans vpl.symm, fun j k v e => ?_⟩ (fun h' kp y hy => ?_) (by rw [vpl]; exact hz) fun h' tk dd' kp => ?_
  · rw [vpl]
    simp
  · obtain ⟨y, ey, ez⟩ : ∃ y, ps[j]? = some y ∧ (Value.ref y.2.1, y.2.2) = (k, v) := by
      have e' : (ps.map fun p => (Value.ref p.2.1, p.2.2))[j]? = some (k, v) := e
      rw [List.getElem?_map] at e'
      cases e1 : ps[j]? with
      | none => rw [e1] at e'; cases e'
      | some y => rw [e1] at e'; exact ⟨y, rfl, Option.some.inj e'⟩
    obtain ⟨p, u, e1, e2, rfl⟩ := psg j y ey
    cases ez
    have eT : Ts j = p.at_ := by
      show ((prs[j]?).map fun p => p.at_).getD 0 = p.at_
      rw [e1]
      rfl
    rw [eT]
    obtain ⟨u', f1, f2, f3⟩ := hw j p e1
    rw [e2] at f1
    cases f1
    exact ⟨by simp [e1], .inl f3⟩
  · have e' : (ps.map fun p => (Value.ref p.2.1, p.2.2))[j]? = some (k, v) := e
    rw [List.getElem?_map] at e'
    cases e1 : ps[j]? with
    | none => rw [e1] at e'; cases e'
    | some y =>
      rw [e1] at e'
      cases (Option.some.inj e')
      exact ⟨y.1, y.2.1, rfl, rfl⟩
  · obtain ⟨o1, it1, n1, g1, g2⟩ := keyIs y hy
    exact ⟨o1, it1, n1, kp _ _ (Nat.ne_of_lt (Heap.lt_size g1)) (fun z => nomatch z) g1, g2⟩
  · have low : (s.heap.objs.size == sysModules) = false := beq_eq_false_iff_ne.mpr (Nat.ne_of_gt I.big)
    have hn : H s.heap.objs.size = none := I.hok.fresh (Nat.le_refl _)
    obtain ⟨o1, es, ep, g1, g2, g3, g4, _, g5⟩ := dd'
    have few : (fillT [] prs).length ≤ sizeLine := Nat.le_trans (fill_len prs []) (by rw [List.length_nil, Nat.zero_add]; exact hz)
    have rel : KT H (fillT [] prs) (storedAllH [] ps) := fill_rel hl (fun j p e => let ⟨u, f1, f2, _⟩ := hw j p e; ⟨u, f1, f2⟩) (fun p h => (hp p h).2) .nil
    exact ⟨.ref s.heap.objs.size, upd H s.heap.objs.size (.dT (fillT [] prs)), I.laid (t' := tk) (fun b ob z => kp b ob (fun y => nomatch y) z) (Nat.le_refl _) ⟨few, low, _, rel.keeps fun c ys ec => by
      rw [upd_ne (ne_of_none ec hn)]
      exact ec, o1, es, ep, g1, g2, g3, g4, g5⟩, rfl, q _ hn⟩
end
/-! over data -/
def pairD : D → Option (List Key × D)
  | .tup [.tup xs, z] => (keyOf xs).map fun k => (k, z)
  | _ => none
def fillD : List D → List (List Key) → List D → Option (List (List Key) × List D)
  | [], ks, es => some (ks, es)
  | d :: r, ks, es => (pairD d).bind fun p => fillD r (putKs ks p.1) (putDs ks es p.1 p.2)
def dicF : List D → Option D
  | [.lst ds] => (fillD ds [] []).map fun p => .dic p.1 p.2
  | _ => none
theorem pair_ok {K : PySem.W.Frag} {H : Hp} {ok : Addr → Prop} {v : V} {d : D} {p : List Key × D} (a : Rep K H ok v d) (e : pairD d = some p) : ∃ (pa pk : Addr) (va : V), v = .ref pa ∧ H pa = some (.tup [.ref pk, va]) ∧ H pk = some (.tup (p.1.map kV)) ∧ Rep K H ok va p.2 := by
  unfold pairD at e
  split at e
  · obtain ⟨k, hk, e⟩ := map_some e
    subst e
    cases a with
    | tup ht ra => cases ra with
      | cons ak ra => cases ra with
        | cons az ra =>
          cases ra
          cases ak with
          | tup hb rk =>
            have ek := key_ok rk hk
            subst ek
            exact ⟨_, _, _, rfl, ht, hb, az⟩
  · cases e
theorem fill_data {K : PySem.W.Frag} {H : Hp} {ok : Addr → Prop} : ∀ {ds : List D} {ws : List V} {ks : List (List Key)} {es : List D} {us : List V} {fin : List (List Key) × List D}, Reps K H ok ws ds → fillD ds ks es = some fin → ks.length = us.length → Reps K H ok us es →
    ∃ (prs : List Pr) (us' : List V), ws = prs.map (fun p => V.ref p.at_) ∧ (∀ p ∈ prs, PrOk H p) ∧ fillT (ks.zip us) prs = fin.1.zip us' ∧ fin.1.length = us'.length ∧ Reps K H ok us' fin.2
  | [], _, ks, es, us, fin, .nil, e, hl, r => by
    cases e
    exact ⟨[], us, rfl, (fun p h => nomatch h), rfl, hl, r⟩
  | d :: ds, _, ks, es, us, fin, .cons a rr, e, hl, r => by
    obtain ⟨⟨k, z⟩, hp, e⟩ := bind_some (show (pairD d).bind _ = some fin from e)
    obtain ⟨pa, pk, va, rfl, ht, hb, az⟩ := pair_ok a hp
    have h1 : (putKs ks k).length = (if (ks.any fun j => decide (j = k)) = true then ks.zipWith (fun j e => if j = k then va else e) us else us ++ [va]).length := by
      unfold putKs
      split
      · rw [List.length_zipWith, hl, Nat.min_self]
      · rw [List.length_append, List.length_append, hl]
        rfl
    have h2 : Reps K H ok (if (ks.any fun j => decide (j = k)) = true then ks.zipWith (fun j e => if j = k then va else e) us else us ++ [va]) (putDs ks es k z) := by
      unfold putDs
      split
      · exact reps_repl az r
      · exact Reps.append r (.cons az .nil)
    obtain ⟨prs, us', f1, f2, f3, f4, f5⟩ := fill_data rr e h1 h2
    refine ⟨⟨pa, k, pk, va⟩ :: prs, us', by rw [f1]; rfl, fun p hp => ?_, ?_, f4, f5⟩
    · rcases List.mem_cons.mp hp with z | z
      · subst z
        exact ⟨ht, hb⟩
      · exact f2 p z
    · show fillT (putK (ks.zip us) k va) prs = _
      rw [zip_put hl]
      exact f3
theorem cd_dict {K : PySem.W.Frag} : CaD K rDictT dicF := fun vs ds z H ok Q rs e q => by
  unfold dicF at e
  split at e
  · obtain ⟨fin, hf, e⟩ := map_some e
    subst e
    cases rs with
    | cons a r =>
      cases r
      cases a with
      | lst o h r =>
        obtain ⟨prs, us', rfl, f2, f3, f4, f5⟩ := fill_data (us := []) r hf rfl .nil
        refine ⟨_, prs, rfl, h, f2, fun l hl => q _ _ (same_new hl) (.dic (.inr hl) ?_ f4 (f5.keeps (Same.keeps (same_new hl)) ex_of))⟩
        rw [upd_same]
        exact congrArg (fun z => some (HO.dT z)) f3
  · cases e
theorem call_dictT {X : Cx} {k : Nat} (hc : X.calm = true) (hr : Room k X.A) : CallR X (.type "dict") rDictT := cr_dictT hc (by have := hr.un; omega)
end Ice

/-! sum of a tuple of ints -/
namespace Ice
open PySem PySem.Spec PyProof.Rows L2
theorem preSum_take (ns : List Int) : ∀ n : Nat, preSum (fun i => ns.getD i 0) n = (ns.take n).sum
  | 0 => rfl
  | n + 1 => by
    show preSum (fun i => ns.getD i 0) n + ns.getD n 0 = _
    rw [preSum_take ns n]
    by_cases h : n < ns.length
    · rw [sum_take (List.getElem?_eq_getElem h), List.getD_eq_getElem?_getD, List.getElem?_eq_getElem h]
      rfl
    · rw [List.take_of_length_le (by omega : ns.length ≤ n + 1), List.take_of_length_le (by omega : ns.length ≤ n), List.getD_eq_getElem?_getD, List.getElem?_eq_none_iff.mpr (by omega)]
      exact Int.add_zero _
def rSumT (K : PySem.W.Frag) : List V → Hp → VK → Prop := fun vs H Q => ∃ (a : Addr) (ns : List Int), vs = [V.ref a] ∧ SqT K H a (ns.map V.int) ∧ Q (.int ns.sum) H
theorem cr_sumT {X : Cx} (hc : X.calm = true) : CallR X (.builtin "sum") (rSumT X.K) := by
  intro pins s σ H vs us Q I r h
  obtain ⟨a, ns, rfl, hs, q⟩ := h
  obtain ⟨its, rv, ht, _⟩ := I.tuple hs
  obtain ⟨u, rfl, rx⟩ := vals1 r
  cases rx
  have hlt : a < s.heap.objs.size := ht.lt
  have hl := rv.length
  rw [List.length_map] at hl
  refine call_sum_walkG (wpAny_pyIter_tuple (show s.heap.IsTuple a its.toArray from ht) ?_)
  refine ⟨_, _, _, _, _, _, fun i => ns.getD i 0, rfl, Walks.tuple (A := X.A.in1) (I.ok.hd hc) _ a (Nat.ne_of_lt hlt) its.toArray, ⟨⟨_, Heap.get?_push_size _ rfl, rfl, rfl⟩, let ⟨o, e, z⟩ := ht; ⟨o, Heap.get?_push_of_some _ e, z⟩⟩, fun b hb => ?_, fun i v hv => ?_, fun h' tk t' hk => ?_⟩
  · rw [Heap.size_push]
    rcases (by simpa using hb : b = s.heap.objs.size ∨ b = a) with z | z
    · rw [z]; exact Nat.lt_succ_self _
    · rw [z]; exact Nat.lt_succ_of_lt hlt
  · have hv' : its[i]? = some v := by simpa using hv
    have hi : i < ns.length := by
      rw [hl]
      exact (List.getElem?_eq_some_iff.mp hv').1
    obtain ⟨u, hu, ru⟩ := rv.get (i := i) (x := .int ns[i]) (by rw [List.getElem?_map, List.getElem?_eq_getElem hi]; rfl)
    rw [hv'] at hu
    cases hu
    obtain ⟨t, e⟩ := ru
    exact ⟨t, by rw [e]; show _ = Value.int (ns.getD i 0) t; rw [List.getD_eq_getElem?_getD, List.getElem?_eq_getElem hi]; rfl⟩
  · refine ⟨.int ns.sum, H, I.kept fun b o eo => hk b o (fun hm => ?_) (Heap.get?_push_of_some _ eo), ⟨t', ?_⟩, q⟩
    · have hlt2 := Heap.lt_size eo
      have z : b = s.heap.objs.size := by simpa using hm
      rw [z] at hlt2
      exact Nat.lt_irrefl _ hlt2
    · rw [preSum_take, List.size_toArray, ← hl, List.take_length]
def sumTF : List D → Option D
  | [.tup ds] => (intsOf ds).map fun ns => .int ns.sum
  | _ => none
theorem cd_sumT {K : PySem.W.Frag} : CaD K (rSumT K) sumTF := fun vs ds z H ok Q rs e q => by
  unfold sumTF at e
  split at e
  · obtain ⟨ns, hn, e⟩ := map_some e
    subst e
    cases rs with
    | cons a r =>
      cases r
      cases a with
      | tup h r =>
        have := ints_ok r hn
        subst this
        exact ⟨_, ns, rfl, SqT.of h, q _ H (Same.refl H) (.int _)⟩
  · cases e
def sumA : List D → Option D
  | [.lst ds] => (intsOf ds).map fun ns => .int ns.sum
  | [.tup ds] => (intsOf ds).map fun ns => .int ns.sum
  | _ => none
theorem cd_sumA {K : PySem.W.Frag} : CaD K (fun xs H Q => rSum K xs H Q ∨ rSumT K xs H Q) sumA := fun vs ds z H ok Q rs e q => by
  unfold sumA at e
  split at e
  · exact .inl (cd_sum _ _ _ _ _ _ rs e q)
  · exact .inr (cd_sumT _ _ _ _ _ _ rs e q)
  · cases e
end Ice

/-! zip of two tuples; list comprehensions of two clauses -/
namespace Ice
open PySem PySem.Spec PyProof.Rows L2

def pairUp : List D → List D → List D
  | x :: xs, y :: ys => .tup [x, y] :: pairUp xs ys
  | _, _ => []
theorem pairUp_get : ∀ (xs ys : List D) (i : Nat), (pairUp xs ys)[i]? = (xs[i]?).bind fun x => (ys[i]?).map fun y => .tup [x, y]
  | [], ys, i => by simp [pairUp]
  | x :: xs, [], i => by
    show ([] : List D)[i]? = _
    cases h : (x :: xs)[i]? <;> simp
  | x :: xs, y :: ys, 0 => rfl
  | x :: xs, y :: ys, i + 1 => by
    show (pairUp xs ys)[i]? = _
    rw [pairUp_get xs ys i]
    rfl
section
variable {K : PySem.W.Frag} {H : Hp} {ok : Addr → Prop}
theorem walk_zipT {p q : Addr} {ws us : List V} {es fs : List D} (h : SqT K H p ws) (h' : SqT K H q us) (r : Reps K H ok ws es) (r' : Reps K H ok us fs) : Walk K H ok (RZ.ItzT K p q) (pairUp es fs) := fun Hb k i H' s => by
  have hp : SqT K H' p ws := keeps_tup (Same.keeps (ok := fun _ => True) s) (keeps_tup k h)
  have hq : SqT K H' q us := keeps_tup (Same.keeps (ok := fun _ => True) s) (keeps_tup k h')
  have r1 : Reps K H' (fun a => ok a ∧ H a ≠ none) ws es := ((Reps.dom es ws r).keeps k fun _ z => z).keeps (Same.keeps s) fun _ z => z
  have r2 : Reps K H' (fun a => ok a ∧ H a ≠ none) us fs := ((Reps.dom fs us r').keeps k fun _ z => z).keeps (Same.keeps s) fun _ z => z
  rw [pairUp_get]
  refine ⟨fun d hd => ?_, fun hn => ⟨ws, us, hp, hq, ?_⟩⟩
  · cases hx : es[i]? with
    | none => rw [hx] at hd; cases hd
    | some x =>
      cases hy : fs[i]? with
      | none => rw [hx, hy] at hd; cases hd
      | some y =>
        rw [hx, hy] at hd
        cases hd
        obtain ⟨v, hv, rv⟩ := r1.get hx
        obtain ⟨u, hu, ru⟩ := r2.get hy
        exact ⟨⟨ws, us, v, u, hp, hq, hv, hu⟩, fun z H'' yy => by
          obtain ⟨T, a, b, rfl, nT, rfl, f1, f2⟩ := yy
          have e1 := f1 ws hp
          rw [hv] at e1
          cases e1
          have e2 := f2 us hq
          rw [hu] at e2
          cases e2
          have sn := same_new (o := .tup [v, u]) nT
          exact ⟨sn, .tup upd_same (.cons (rv.keeps (Same.keeps sn) fun _ z => z) (.cons (ru.keeps (Same.keeps sn) fun _ z => z) .nil))⟩⟩
  · rw [r1.length, r2.length]
    cases hx : es[i]? with
    | none => exact .inl (List.getElem?_eq_none_iff.mp hx)
    | some x =>
      cases hy : fs[i]? with
      | none => exact .inr (List.getElem?_eq_none_iff.mp hy)
      | some y => rw [hx, hy] at hn; cases hn
theorem walk_zipL {p q : Addr} {ws us : List V} {es fs : List D} (op : ok p) (oq : ok q) (h : H p = some (.lst ws)) (h' : H q = some (.lst us)) (r : Reps K H ok ws es) (r' : Reps K H ok us fs) : Walk K H ok (Itz K p q) (pairUp es fs) := fun Hb k i H' s => by
  have hp : SqL K H' p ws := SqL.of (s _ _ (k _ _ h (.inl ⟨op, fun n => by rw [n] at h; cases h⟩)))
  have hq : SqL K H' q us := SqL.of (s _ _ (k _ _ h' (.inl ⟨oq, fun n => by rw [n] at h'; cases h'⟩)))
  have r1 : Reps K H' (fun a => ok a ∧ H a ≠ none) ws es := ((Reps.dom es ws r).keeps k fun _ z => z).keeps (Same.keeps s) fun _ z => z
  have r2 : Reps K H' (fun a => ok a ∧ H a ≠ none) us fs := ((Reps.dom fs us r').keeps k fun _ z => z).keeps (Same.keeps s) fun _ z => z
  rw [pairUp_get]
  refine ⟨fun d hd => ?_, fun hn => ⟨ws, us, hp, hq, ?_⟩⟩
  · cases hx : es[i]? with
    | none => rw [hx] at hd; cases hd
    | some x =>
      cases hy : fs[i]? with
      | none => rw [hx, hy] at hd; cases hd
      | some y =>
        rw [hx, hy] at hd
        cases hd
        obtain ⟨v, hv, rv⟩ := r1.get hx
        obtain ⟨u, hu, ru⟩ := r2.get hy
        exact ⟨⟨ws, us, v, u, hp, hq, hv, hu⟩, fun z H'' yy => by
          obtain ⟨T, a, b, rfl, nT, rfl, f1, f2⟩ := yy
          have e1 := f1 ws hp
          rw [hv] at e1
          cases e1
          have e2 := f2 us hq
          rw [hu] at e2
          cases e2
          have sn := same_new (o := .tup [v, u]) nT
          exact ⟨sn, .tup upd_same (.cons (rv.keeps (Same.keeps sn) fun _ z => z) (.cons (ru.keeps (Same.keeps sn) fun _ z => z) .nil))⟩⟩
  · rw [r1.length, r2.length]
    cases hx : es[i]? with
    | none => exact .inl (List.getElem?_eq_none_iff.mp hx)
    | some x =>
      cases hy : fs[i]? with
      | none => exact .inr (List.getElem?_eq_none_iff.mp hy)
      | some y => rw [hx, hy] at hn; cases hn
end
def itZ (m : Ma) : Ma := fun S => (m S).bind fun
  | [.tup xs, .tup ys] => some (pairUp xs ys)
  | [.lst xs, .lst ys] => some (pairUp xs ys)
  | _ => none
theorem ei_zip {X : Cx} {a b : Expr} {mr : Ma} {p pos tpos : Pos} {elts : List Expr} {kk : Nat} (hg : Gl X "zip") (hm : X.mg "zip" = none) (ha : Ea X [a, b] mr) (hs : starEach [a, b] X.env = (false, eval a X.env) :: starEach [b] X.env := by rfl) (hpl : (backTo pos (starEach [b] X.env)).any (fun x => x.1) = false := by rfl) :
    Ei X (.Tuple elts kk tpos) (.Call (.Name "zip" p) [a, b] [] pos) (itZ mr) := PI.imp (RZ.pi_zipA hg hm ha hs hpl) fun σ H R hh => by
  obtain ⟨ok, S, ds, rs, m, q⟩ := hh
  obtain ⟨xs, h1, m1⟩ := bind_some m
  refine ⟨ok, S, xs, rs, h1, fun vs H1 s r => ?_⟩
  split at m1
  · cases m1
    cases r with
    | cons x r => cases r with
      | cons y r => cases r; cases x with
        | tup h r1 => cases y with
          | tup h' r2 => exact ⟨_, _, _, _, rfl, .inr ⟨SqT.of h, SqT.of h', q _ H1 s (walk_zipT (SqT.of h) (SqT.of h') r1 r2)⟩⟩
  · cases m1
    cases r with
    | cons x r => cases r with
      | cons y r => cases r; cases x with
        | lst o1 h r1 => cases y with
          | lst o2 h' r2 => exact ⟨_, _, _, _, rfl, .inl ⟨SqL.of h, SqL.of h', q _ H1 s (walk_zipL o1 o2 h h' r1 r2)⟩⟩
  · cases m1

/-! ### two clauses -/
def hide (D : Addr) (H : Hp) : Hp := fun a => if a = D then none else H a
theorem hide_ne {D a : Addr} {H : Hp} (h : a ≠ D) : hide D H a = H a := if_neg h
theorem hide_same {D : Addr} {H H' : Hp} (s : Same H H') (h : H D = none) : Same H (hide D H') := fun a o e => by
  have ne : a ≠ D := ne_of_none e h
  rw [hide_ne ne]
  exact s a o e
theorem hide_keeps {D : Addr} {H H' : Hp} {ok : Addr → Prop} {xs : List V} (hD : H D = some (.lst xs)) (g : ∀ a, ok a → a ≠ D) (s : Same (hide D H) H') : Keeps ok H H' := fun a o e k => by
  have ne : a ≠ D := k.elim (g a) fun f z => by
    rw [z, hD] at e
    cases e
    exact f
  exact s a o (by rw [hide_ne ne]; exact e)
def compM2 (vs : List Nat) (t : Tg) (tt : Mt) (mi1 : Ma) (vs1 : List Nat) (t1 : Tg) (tt1 : Mt) (me : Mi) (S : Sd) : List D → Option (List D)
  | [] => some []
  | d :: r => (asg t d (wipeD S vs)).bind fun S1 => (tt S1).bind fun c => if c = true then (mi1 S1).bind fun ds1 => (compM vs1 t1 tt1 me S1 ds1).bind fun ys => (compM2 vs t tt mi1 vs1 t1 tt1 me S r).map fun zs => ys ++ zs
    else compM2 vs t tt mi1 vs1 t1 tt1 me S r
def mLc2 (mi : Ma) (vs : List Nat) (t : Tg) (tt : Mt) (mi1 : Ma) (vs1 : List Nat) (t1 : Tg) (tt1 : Mt) (me : Mi) : Mi := fun S => (mi S).bind fun ds => (compM2 vs t tt mi1 vs1 t1 tt1 me S ds).bind fun ys => if ys.length ≤ 1000000 then some (.lst ys) else none
theorem t_lc2 {K : PySem.W.Frag} {mi mi1 : Ma} {vs vs1 : List Nat} {t t1 : Tg} {tt tt1 : Mt} {me : Mi} {σ : L2.St} {H : Hp} {Q : VK} (hv : ∀ i ∈ sl t, i ∈ vs ∧ i < σ.length) (hv1 : ∀ i ∈ sl t1, i ∈ vs1 ∧ i < σ.length) (h : tE K (mLc2 mi vs t tt mi1 vs1 t1 tt1 me) σ H Q) :
    tLc2 (tI K mi) (tG K t) (tT K tt) (tI K mi1) (tG K t1) (tT K tt1) (tE K me) vs vs1 σ H Q := by
  obtain ⟨ok, S, dz, rs, m, q⟩ := h
  obtain ⟨ds, h1, m1⟩ := bind_some m
  obtain ⟨ys, hys, m1⟩ := bind_some m1
  by_cases hlen : ys.length ≤ 1000000
  case neg => rw [if_neg hlen] at m1; cases m1
  rw [if_pos hlen] at m1
  cases m1
  refine ⟨ok, S, ds, rs, h1, fun J H1 s1 wk D hD => ?_⟩
  have hD0 : H D = none := s1.free hD
  let okD : Addr → Prop := fun a => ex ok H a ∧ a ≠ D
  let okc : Addr → Prop := fun a => ex ok H a ∧ H1 a ≠ none
  have okcD : ∀ a, okc a → okD a := fun a h => ⟨h.1, fun z => h.2 (by rw [z]; exact hD)⟩
  refine ⟨fun i n H' => n = ds.length - i ∧ i ≤ ds.length ∧ Same H1 H' ∧ ∃ acc accd rest, H' D = some (.lst acc) ∧ Reps K H' okD acc accd ∧ compM2 vs t tt mi1 vs1 t1 tt1 me S (ds.drop i) = some rest ∧ accd ++ rest = ys,
    ⟨ds.length, rfl, Nat.zero_le _, same_new hD, [], [], ys, upd_same, .nil, hys, rfl⟩, ?_⟩
  rintro i n H' ⟨rfl, hi, s2, acc, accd, rest, hacc, racc, hrest, hcat⟩
  have wk' := wk H1 (fun a o e _ => e) i H' s2
  by_cases hlt : i < ds.length
  · have hg : ds[i]? = some ds[i] := List.getElem?_eq_getElem hlt
    have hdrop : ds.drop i = ds[i] :: ds.drop (i + 1) := List.drop_eq_getElem_cons hlt
    obtain ⟨go, yl⟩ := wk'.1 _ hg
    rw [hdrop] at hrest
    obtain ⟨S1, ha, hrest⟩ := bind_some (show (asg t ds[i] (wipeD S vs)).bind _ = some rest from hrest)
    obtain ⟨c, hc, hrest⟩ := bind_some hrest
    let Nx : Hp → Prop := fun H'' => i + 1 ≤ ds.length ∧ Same H1 H'' ∧ ∃ acc accd rest, H'' D = some (.lst acc) ∧ Reps K H'' okD acc accd ∧ compM2 vs t tt mi1 vs1 t1 tt1 me S (ds.drop (i + 1)) = some rest ∧ accd ++ rest = ys
    refine .inr ⟨go, Nx, fun H'' nx => ⟨ds.length - (i + 1), by omega, rfl, nx⟩, fun x H3 y => ?_⟩
    obtain ⟨s3, rx⟩ := yl x H3 y
    have s13 := s2.trans s3
    have rs3 : Rs K H3 okc (wipeD S vs) (wipe σ vs) := ((Rs.wipe (fun i d e => by
      obtain ⟨v, e1, e2⟩ := rs i d e
      exact ⟨v, e1, Rep.dom d v e2⟩ : Rs K H (fun a => ok a ∧ H a ≠ none) S σ) vs)).keeps (Same.keeps (s1.trans s13)) fun a h => ⟨.inl h.1, fun z => h.2 (s1.free z)⟩
    refine ⟨okc, wipeD S vs, ds[i], S1, fun j hj => by rw [wipe_length]; exact (hv j hj).2, rs3, rx, ha, fun σ2 b2 rs2 => ⟨?_, okc, S1, c, rs2, hc, fun H4 s4 => ?_⟩⟩
    · have hw : wipe (wipe σ vs) vs = wipe σ vs := wipe_but ⟨wipe_length σ vs, fun j hj => by rw [wipe_get, if_neg hj]⟩
      rw [wipe_but (b2.mono fun j hj => (hv j hj).1), hw]
    have hacc4 : H4 D = some (.lst acc) := s4 _ _ (s3 _ _ hacc)
    have racc4 : Reps K H4 okD acc accd := racc.keeps (Same.keeps (s3.trans s4)) fun _ z => z
    have len2 : σ2.length = σ.length := by rw [b2.1, wipe_length]
    cases c with
    | false =>
      rw [if_neg Bool.false_ne_true] at hrest
      exact ⟨hlt, s13.trans s4, acc, accd, rest, hacc4, racc4, hrest, hcat⟩
    | true =>
      rw [if_pos rfl] at hrest
      obtain ⟨ds1, hi1, hrest⟩ := bind_some hrest
      obtain ⟨ys1, hy1, hrest⟩ := bind_some hrest
      obtain ⟨rest2, hr2, hrest⟩ := map_some hrest
      subst hrest
      -- the inner loop
      refine ⟨okc, S1, ds1, rs2.keeps (Same.keeps s4) (fun _ z => z), hi1, fun J1 H5 s5 wk1 => ?_⟩
      have s15 : Same H1 H5 := (s13.trans s4).trans s5
      have hacc5 : H5 D = some (.lst acc) := s5 _ _ hacc4
      have sH1 : Same H1 (hide D H5) := hide_same s15 hD
      refine ⟨fun j k Hj => k = ds1.length - j ∧ j ≤ ds1.length ∧ Same (hide D H5) Hj ∧ ∃ acc accd rest1, Hj D = some (.lst acc) ∧ Reps K Hj okD acc accd ∧ compM vs1 t1 tt1 me S1 (ds1.drop j) = some rest1 ∧ accd ++ (rest1 ++ rest2) = ys,
        ⟨ds1.length, rfl, Nat.zero_le _, (fun a o e => by
          by_cases z : a = D
          · rw [z] at e; unfold hide at e; rw [if_pos rfl] at e; cases e
          · rw [hide_ne z] at e; exact e), acc, accd, ys1, s5 _ _ hacc4, racc4.keeps (Same.keeps s5) (fun _ z => z), hy1, hcat⟩, ?_⟩
      rintro j k Hj ⟨rfl, hj, sj, acc', accd', rest1, haccj, raccj, hrest1, hcat1⟩
      have nD4 : ∀ a, ex okc H4 a → a ≠ D := fun a h => by
        rcases h with g | g
        · exact (okcD a g).2
        · intro z
          rw [z, hacc4] at g
          cases g
      have wkj := wk1 (hide D H5) (hide_keeps hacc5 (fun a g => nD4 a g.1) (Same.refl _)) j Hj sj
      by_cases hltj : j < ds1.length
      · have hgj : ds1[j]? = some ds1[j] := List.getElem?_eq_getElem hltj
        have hdropj : ds1.drop j = ds1[j] :: ds1.drop (j + 1) := List.drop_eq_getElem_cons hltj
        obtain ⟨go1, yl1⟩ := wkj.1 _ hgj
        rw [hdropj] at hrest1
        obtain ⟨S2, ha2, hrest1⟩ := bind_some (show (asg t1 ds1[j] (wipeD S1 vs1)).bind _ = some rest1 from hrest1)
        obtain ⟨c1, hc1, hrest1⟩ := bind_some hrest1
        let Nx1 : Hp → Prop := fun H'' => j + 1 ≤ ds1.length ∧ Same (hide D H5) H'' ∧ ∃ acc accd rest1, H'' D = some (.lst acc) ∧ Reps K H'' okD acc accd ∧ compM vs1 t1 tt1 me S1 (ds1.drop (j + 1)) = some rest1 ∧ accd ++ (rest1 ++ rest2) = ys
        refine .inr ⟨go1, Nx1, fun H'' nx => ⟨ds1.length - (j + 1), by omega, rfl, nx⟩, fun x1 H6 y1 => ?_⟩
        obtain ⟨s6, rx1⟩ := yl1 x1 H6 y1
        have s56 := sj.trans s6
        have s16 := sH1.trans s56
        -- what is good in the inner turn
        let okc1 : Addr → Prop := fun a => ex okc H4 a ∧ H5 a ≠ none ∧ a ≠ D
        have okc1D : ∀ a, okc1 a → okD a := fun a h => by
          rcases h.1 with g | g
          · exact okcD a g
          · exact ⟨.inr (s1.free (s13.free (s4.free g))), h.2.2⟩
        have rs6 : Rs K H6 okc1 (wipeD S1 vs1) (wipe σ2 vs1) := ((Rs.wipe (fun i d e => by
          obtain ⟨v, e1, e2⟩ := rs2 i d e
          have e3 : Rep K H5 okc v d := e2.keeps (Same.keeps (s4.trans s5)) fun _ z => z
          exact ⟨v, e1, Rep.dom d v e3⟩ : Rs K H5 (fun a => okc a ∧ H5 a ≠ none) S1 σ2) vs1)).keeps (hide_keeps hacc5 (fun a g => (okcD a g.1).2) s56) fun a h => ⟨.inl h.1, h.2, (okcD a h.1).2⟩
        refine ⟨okc1, wipeD S1 vs1, ds1[j], S2, fun l hl => by rw [wipe_length, len2]; exact (hv1 l hl).2, rs6, rx1.keeps (Same.keeps (Same.refl _)) (fun a g => ⟨g.1, g.2, nD4 a g.1⟩), ha2, fun σ3 b3 rs7 => ⟨?_, okc1, S2, c1, rs7, hc1, fun H7 s7 => ?_⟩⟩
        · have hw : wipe (wipe σ2 vs1) vs1 = wipe σ2 vs1 := wipe_but ⟨wipe_length σ2 vs1, fun l hl => by rw [wipe_get, if_neg hl]⟩
          rw [wipe_but (b3.mono fun l hl => (hv1 l hl).1), hw]
        have hacc7 : H7 D = some (.lst acc') := s7 _ _ (s6 _ _ haccj)
        have racc7 : Reps K H7 okD acc' accd' := raccj.keeps (Same.keeps (s6.trans s7)) fun _ z => z
        cases c1 with
        | false =>
          rw [if_neg Bool.false_ne_true] at hrest1
          exact ⟨hltj, s56.trans s7, acc', accd', rest1, hacc7, racc7, hrest1, hcat1⟩
        | true =>
          rw [if_pos rfl] at hrest1
          obtain ⟨yd, hy, hrest1⟩ := bind_some hrest1
          obtain ⟨rest3, hr3, hrest1⟩ := map_some hrest1
          subst hrest1
          refine ⟨okc1, S2, yd, rs7.keeps (Same.keeps s7) (fun _ z => z), hy, fun yv H8 s8 ry => ?_⟩
          have hacc8 : H8 D = some (.lst acc') := s8 _ _ hacc7
          refine ⟨acc', hacc8, ?_, hltj, ?_, acc' ++ [yv], accd' ++ [yd], rest3, upd_same, ?_, hr3, ?_⟩
          · have e1 := congrArg List.length hcat1
            rw [List.length_append, List.length_append, List.length_cons] at e1
            have e2 := raccj.length
            have : acc'.length < 1000000 := by omega
            exact Nat.lt_trans this (by decide)
          · intro a o e
            have ne : a ≠ D := fun z => by
              rw [z] at e
              unfold hide at e
              rw [if_pos rfl] at e
              cases e
            rw [upd_ne ne]
            exact s8 _ _ (s7 _ _ (s56 _ _ e))
          · have kp : Keeps okD H8 (upd H8 D (.lst (acc' ++ [yv]))) := fun a o e g => by
              have ne : a ≠ D := fun z => by
                rw [z] at e g
                rw [hacc8] at e
                cases e
                exact g.elim (fun g => g.2 rfl) fun g => g
              rw [upd_ne ne]
              exact e
            refine Reps.append ((racc7.keeps (Same.keeps s8) fun _ z => z).keeps kp fun _ z => z) (.cons ((ry.keeps (Same.keeps (Same.refl _)) fun a h => ?_).keeps kp fun _ z => z) .nil)
            rcases h with h | h
            · exact okc1D a h
            · refine ⟨.inr (s1.free (s16.free (s7.free h))), fun z => ?_⟩
              rw [z, hacc7] at h
              cases h
          · rw [List.append_assoc]
            exact hcat1
      · have e : j = ds1.length := by omega
        subst e
        rw [List.drop_length] at hrest1
        cases hrest1
        exact .inl ⟨wkj.2 (List.getElem?_eq_none_iff.mpr (Nat.le_refl _)), hlt, sH1.trans sj, acc', accd', rest2, haccj, raccj, hr2, hcat1⟩
  · have e : i = ds.length := by omega
    subst e
    rw [List.drop_length] at hrest
    cases hrest
    rw [List.append_nil] at hcat
    subst hcat
    refine .inl ⟨wk'.2 (List.getElem?_eq_none_iff.mpr (Nat.le_refl _)), q _ H' (s1.trans s2) (.lst (.inr hD0) hacc (racc.keeps (Same.keeps (Same.refl _)) fun a h => h.1))⟩
theorem ev_lc2 {X : Cx} {elt tg iter tg1 iter1 : Expr} {ifs ifs1 : List Expr} {scope : Scope} {pos : Pos} {mi mi1 : Ma} {t t1 : Tg} {tt tt1 : Mt} {me : Mi} (own : List (Str × Nat)) (vs1 : List Nat) (hN : X.N.Nodup) (hi : Ei X tg iter mi) (ok : BlkOk X.N X.env.scope scope own)
    (hg : ∀ (s : Shared) (H : Hp) (C : Addr) (cl : List (Str × Addr)) (fp : List Addr), Eg (X.blk s H scope (compEnvC scope cl C X.env) fp) tg t) (ht : ∀ (s : Shared) (H : Hp) (C : Addr) (cl : List (Str × Addr)) (fp : List Addr), Ets (X.blk s H scope (compEnvC scope cl C X.env) fp) ifs tt)
    (hi1 : ∀ (s : Shared) (H : Hp) (C : Addr) (cl : List (Str × Addr)) (fp : List Addr), Ei (X.blk s H scope (compEnvC scope cl C X.env) fp) tg1 iter1 mi1)
    (hg1 : ∀ (s : Shared) (H : Hp) (C : Addr) (cl : List (Str × Addr)) (fp : List Addr), Eg (X.blk s H scope (compEnvC scope cl C X.env) fp) tg1 t1) (ht1 : ∀ (s : Shared) (H : Hp) (C : Addr) (cl : List (Str × Addr)) (fp : List Addr), Ets (X.blk s H scope (compEnvC scope cl C X.env) fp) ifs1 tt1)
    (he : ∀ (s : Shared) (H : Hp) (C : Addr) (cl : List (Str × Addr)) (fp : List Addr), Ev (X.blk s H scope (compEnvC scope cl C X.env) fp) elt me) (hs : ∀ x, foldedSetIterable iter X.env x = pure x := by intro _; rfl) (hs1 : ∀ env x, foldedSetIterable iter1 env x = pure x := by intro _ _; rfl)
    (hv : ∀ i ∈ sl t, i ∈ own.map (fun p => p.2) := by decide) (hv1 : ∀ i ∈ sl t1, i ∈ vs1 := by decide) (hv2 : ∀ i ∈ vs1, i ∈ own.map (fun p => p.2) := by decide) (hc : X.calm = true := by rfl) : Ev X (.ListComp elt [⟨tg, iter, ifs, 0⟩, ⟨tg1, iter1, ifs1, 0⟩] scope pos) (mLc2 mi (own.map (fun p => p.2)) t tt mi1 vs1 t1 tt1 me) :=
  ⟨fun pins s σ H Q I h => (pe_lc2 hc hN hi ok hv2 hg ht hi1 hg1 ht1 he hs hs1).run pins s σ H Q I (t_lc2 (fun i h => ⟨hv i h, lt_of_own ok I.len (hv i h)⟩) (fun i h => ⟨hv1 i h, lt_of_own ok I.len (hv2 i (hv1 i h))⟩) h)⟩
end Ice

/-! min(xs, default=None) -/
namespace Ice
open PySem PySem.Spec PyProof.Rows L2

section
variable {prog : Program} {w : World} {A : Around} {R : Result → Shared → Prop} {I : Addr} {fp wr : List Addr} {n : Nat} {P : Nat → Value → Prop} {St : Nat → Heap → Prop}
theorem nm_loop : (toString "min" ++ toString ".loop" : String) = "min.loop" := by decide
/-- the loop behind its first item, with any keywords -/
theorem minK_loop (W : Walks prog w A.in1 I fp wr n P St) (bt : Nat → Nat → Bool) (hc : CmpOf prog w A.in1 .Lt P bt) (B : Addr) (hB : B ∉ fp) (kw : List (Str × Value)) : ∀ (m j : Nat) (t : Shared) (x : Value) (c : Nat), n - (j + 1) = m → j + 1 ≤ n → St (j + 1) t.heap → P (argBest bt j) x →
    t.heap.get? B = some { cls := .type "list", dict := none, data := .seq #[x, x] c, slots := #[] } → (∀ v h' tk, P (argBest bt (n - 1)) v → (∀ b o, b ∉ wr → b ≠ B → t.heap.get? b = some o → h'.get? b = some o) → R (.ok (.ret v)) { t with heap := h', toks := tk }) →
    codeAny (model prog w) A (.builtin "min.loop" ⟨[.ref I, .none, .ref B], kw⟩) R t
  | 0, j, t, x, c, hm, hj, st, px, hb, hr => by
    have e : j + 1 = n := by omega
    have hw : B ∉ wr := fun z => hB (W.sub _ z)
    refine codeAny_builtin F.entry_min_loop ?_
    rw [Around.under_plainId F.plain_min_loop _]
    show wpAny _ A.in1 (seqItems? (.ref B) >>= _) _ _ t
    refine wpAny_bind (wpAny_seqItems hb rfl ?_)
    show wpAny _ A.in1 (tryCatch (pyNext (.ref I)) _ >>= _) _ _ t
    refine wpAny_bind (wpAny_tryCatch (W.done t _ _ (e ▸ st) fun h' tk hk => ?_))
    have hb' := hk B _ hw hb
    show wpAny _ A.in1 (updateSeq B (fun _ => #[]) >>= _) _ _ _
    refine wpAny_bind ?_
    refine wpAny_updateSeq hb' rfl (wpAny_bind (wpAny_letGo (wpAny_pure ?_)))
    exact hr x _ tk (by rw [← e]; exact px) fun b o h1 h2 z => (Heap.get?_update_other _ _ (Ne.symm h2)).trans (hk b o h1 z)
  | m + 1, j, t, x, c, hm, hj, st, px, hb, hr => by
    have lt : j + 1 < n := by omega
    have hw : B ∉ wr := fun z => hB (W.sub _ z)
    refine codeAny_builtin F.entry_min_loop ?_
    rw [Around.under_plainId F.plain_min_loop _]
    show wpAny _ A.in1 (seqItems? (.ref B) >>= _) _ _ t
    refine wpAny_bind (wpAny_seqItems hb rfl ?_)
    show wpAny _ A.in1 (tryCatch (pyNext (.ref I)) _ >>= _) _ _ t
    refine wpAny_bind (wpAny_tryCatch (W.item (j + 1) t _ _ lt st fun v h' tk pv st' hk => ?_))
    have hb' := hk B _ hw hb
    show wpAny _ A.in1 (tryCatch (holding [v, v] (richCompare .Lt v x >>= _)) _ >>= _) _ _ _
    refine wpAny_bind (wpAny_tryCatch (wpAny_holding (wpAny_bind (hc (j + 1) (argBest bt j) v x _ _ _ pv px ?_))))
    refine wpAny_bind (wpAny_holding (wpAny_truthy_bool ?_))
    refine wpAny_bind (wpAny_letGo (wpAny_pure ?_))
    cases hq : bt (j + 1) (argBest bt j) with
    | true =>
      simp only [if_true]
      refine wpAny_bind ?_
      refine wpAny_updateSeq hb' rfl (wpAny_bind (wpAny_letGo ?_))
      rw [nm_loop]
      refine wpAny_pure ⟨plainId_quiet F.plain_min_loop _, minK_loop W bt hc B hB kw m (j + 1) _ v _ (by omega) lt (W.frame _ _ _ st' fun b hbf o z => ?_) (by simp only [argBest, hq, if_true]; exact pv) (Heap.get?_update_self _ hb' rfl) fun v' h2 tk2 pv' hk2 => ?_⟩
      · exact (Heap.get?_update_other _ _ (fun y : B = b => hB (by rw [y]; exact hbf))).trans z
      · exact hr v' h2 tk2 pv' fun b o h1 h3 z => hk2 b o h1 h3 ((Heap.get?_update_other _ _ (Ne.symm h3)).trans (hk b o h1 z))
    | false =>
      simp only [Bool.false_eq_true, if_false]
      refine wpAny_bind (wpAny_letGo ?_)
      rw [nm_loop]
      exact wpAny_pure ⟨plainId_quiet F.plain_min_loop _, minK_loop W bt hc B hB kw m (j + 1) _ x c (by omega) lt st' (by simp only [argBest, hq, Bool.false_eq_true, if_false]; exact px) hb' fun v' h2 tk2 pv' hk2 => hr v' h2 tk2 pv' fun b o h1 h3 z => hk2 b o h1 h3 (hk b o h1 z)⟩
/-- from its start; d: the default -/
theorem minK_start (W : Walks prog w A.in1 I fp wr n P St) (bt : Nat → Nat → Bool) (hc : CmpOf prog w A.in1 .Lt P bt) (B : Addr) (hB : B ∉ fp) {nm : Str} {d : Value} {t : Shared} {c : Nat} (st : St 0 t.heap) (hb : t.heap.get? B = some { cls := .type "list", dict := none, data := .seq #[] c, slots := #[] })
    (hr : ∀ v h' tk, (if n = 0 then v = d else P (argBest bt (n - 1)) v) → (∀ b o, b ∉ wr → b ≠ B → t.heap.get? b = some o → h'.get? b = some o) → R (.ok (.ret v)) { t with heap := h', toks := tk }) :
    codeAny (model prog w) A (.builtin "min.loop" ⟨[.ref I, .none, .ref B], [(nm, d)]⟩) R t := by
  have hw : B ∉ wr := fun z => hB (W.sub _ z)
  refine codeAny_builtin F.entry_min_loop ?_
  rw [Around.under_plainId F.plain_min_loop _]
  show wpAny _ A.in1 (seqItems? (.ref B) >>= _) _ _ t
  refine wpAny_bind (wpAny_seqItems hb rfl ?_)
  show wpAny _ A.in1 (tryCatch (pyNext (.ref I)) _ >>= _) _ _ t
  by_cases hn : n = 0
  · refine wpAny_bind (wpAny_tryCatch (W.done t _ _ (hn ▸ st) fun h' tk hk => ?_))
    show wpAny _ A.in1 (rule _ >>= _) _ _ _
    refine wpAny_bind (wpAny_rule (wpAny_pure ?_))
    exact hr d h' tk (by rw [if_pos hn]) fun b o h1 _ z => hk b o h1 z
  · have lt : 0 < n := Nat.pos_of_ne_zero hn
    refine wpAny_bind (wpAny_tryCatch (W.item 0 t _ _ lt st fun v h' tk pv st' hk => ?_))
    have hb' := hk B _ hw hb
    show wpAny _ A.in1 (updateSeq B (fun _ => #[v, v]) >>= _) _ _ _
    refine wpAny_bind ?_
    refine wpAny_updateSeq hb' rfl ?_
    rw [nm_loop]
    refine wpAny_pure ⟨plainId_quiet F.plain_min_loop _, minK_loop W bt hc B hB _ _ 0 _ v _ rfl lt (W.frame _ _ _ st' fun b hbf o z => ?_) pv (Heap.get?_update_self _ hb' rfl) fun v' h2 tk2 pv' hk2 => ?_⟩
    · exact (Heap.get?_update_other _ _ (fun y : B = b => hB (by rw [y]; exact hbf))).trans z
    · exact hr v' h2 tk2 (by rw [if_neg hn]; exact pv') fun b o h1 h3 z => hk2 b o h1 h3 ((Heap.get?_update_other _ _ (Ne.symm h3)).trans (hk b o h1 z))
end
section
variable {prog : Program} {w : World} {A : Around} {E : Value → Shared → Prop} {s : Shared}
theorem args_minD (a d : Value) : argsOk "min" ⟨[a], [(Str.ofString "default", d)]⟩ := by
  unfold argsOk
  kernel_rfl
theorem call_minD {x d : Value} {Q : Value → Shared → Prop}
    (h : wpAny (model prog w) A.in1 (pyIter x) (fun it t => ∃ I fp wr n P St bt, it = .ref I ∧ Walks prog w A.in1 I fp wr n P St ∧ St 0 t.heap ∧ (∀ b ∈ fp, b < t.heap.objs.size) ∧ CmpOf prog w A.in1 .Lt P bt ∧
      ∀ v h' tk, (if n = 0 then v = d else P (argBest bt (n - 1)) v) → (∀ b o, b ∉ wr → t.heap.get? b = some o → h'.get? b = some o) → Q v { t with heap := h', toks := tk }) E s) : wpAny (model prog w) A (call (.builtin "min") [x] [(Str.ofString "default", d)]) Q E s := by
  refine wpAny_call (codeAny_call_builtin F.plain_min F.entry_min ?_)
  simp only [checkBuiltinCall, F.kind_min]
  have body : wpAny (model prog w) A.in1 (Builtin.«min» ⟨[x], [(Str.ofString "default", d)]⟩) (fun fin s' => match fin with
      | .done f => (match (Except.ok f : Result) with | .ok (.ret v) => Q v s' | .ok _ => False | .error e => E e s')
      | .again c' => c'.quiet = true ∧ codeAny (model prog w) A c' (fun r s' => match r with | .ok (.ret v) => Q v s' | .ok _ => False | .error e => E e s') s') E s := by
    show wpAny _ A.in1 (Builtin.Builtins.bindParams "min" ["key", "default"] 0 ⟨[], [(Str.ofString "default", d)]⟩ >>= _) _ _ s
    refine wpAny_bind (wpAny_of_eq (show Builtin.Builtins.bindParams "min" ["key", "default"] 0 ⟨[], [(Str.ofString "default", d)]⟩ = pure [none, some d] from rfl) ?_)
    refine wpAny_bind (wpAny_pure ?_)
    refine wpAny_bind (wpAny_mono h (fun it t ht => ?_) fun _ _ z => z)
    obtain ⟨I, fp, wr, n, P, St, bt, rfl, W, st, low, hc, hQ⟩ := ht
    refine wpAny_bind (wpAny_newObj_type ?_)
    have hB : t.heap.objs.size ∉ fp := fun z => Nat.lt_irrefl _ (low _ z)
    rw [nm_loop]
    refine wpAny_pure ⟨plainId_quiet F.plain_min_loop _, minK_start W bt hc t.heap.objs.size hB (W.frame _ _ _ st fun b _ o z => Heap.get?_push_of_some _ z) (Heap.get?_push_size _ rfl) fun v h' tk hv hk => ?_⟩
    exact hQ v h' tk hv fun b o h1 z => hk b o h1 (Nat.ne_of_lt (Heap.lt_size z)) (Heap.get?_push_of_some _ z)
  cases hsig : Manifest.signature? "min" with
  | none => exact wpAny_pure body
  | some sig =>
    have ha : Bind.checkArgs "min" sig ⟨[x], [(Str.ofString "default", d)]⟩ = pure () := by simpa only [argsOk, hsig] using args_minD x d
    simp only [ha]
    exact wpAny_pure body
end
def rMinD (K : PySem.W.Frag) : List V → List V → Hp → VK → Prop := fun vs zs H Q => ∃ (a : Addr) (ns : List Int), vs = [V.ref a] ∧ zs = [V.non] ∧ SqL K H a (ns.map V.int) ∧ (ns = [] → Q .non H) ∧ ∀ m, m ∈ ns → (∀ y, y ∈ ns → m ≤ y) → Q (.int m) H
theorem cr_minD {X : Cx} (hc : X.calm = true) : CallRK X (.builtin "min") [Str.ofString "default"] (rMinD X.K) := by
  intro pins s σ H vs zs us ws Q I r rz h
  obtain ⟨a, ns, rfl, rfl, hs, q0, q⟩ := h
  obtain ⟨its, rv, pl, _⟩ := I.list hs
  rw [Vals.ref1 r]
  obtain ⟨w1, rfl, e1⟩ := vals1 rz
  cases e1
  have hl := pl.isList
  have hi := rv.ints
  obtain ⟨xs, e⟩ := hi.allInts.items
  have hn : numsOf (intItems xs).toList = ns := by
    rw [← e]
    exact hi.numsOf
  rw [nums_intItems] at hn
  rw [e] at hl
  have sz : (intItems xs).size = ns.length := by
    rw [← hn]
    simp [intItems]
  show wpAny _ _ (call (.builtin "min") [.ref a] [(Str.ofString "default", Value.none)]) _ _ _
  refine call_minD (iter_intList hl fun t et st low hne => ?_)
  subst et
  refine ⟨_, _, _, _, _, _, _, rfl, Walks.list (A := X.A.in1) (I.ok.hd hc) _ a hne (intItems xs), st, low, CmpOf.ints_lt (numAt xs) (fun _ _ => intItems_at), fun v h' tk hv hk => ?_⟩
  have kept := old_kept hk
  by_cases z : (intItems xs).size = 0
  · rw [if_pos z] at hv
    subst hv
    have e0 : ns = [] := List.eq_nil_of_length_eq_zero (sz.symm.trans z)
    exact ⟨.non, H, I.kept kept, rfl, q0 e0⟩
  · rw [if_neg z] at hv
    have zx : (intItems xs).size = xs.size := by simp [intItems]
    rw [zx] at hv z
    obtain ⟨t, rfl⟩ := intItems_at hv
    obtain ⟨h1, h2⟩ := argBest_lt (numAt xs) (xs.size - 1)
    have lx : ns.length = xs.size := sz.symm.trans zx
    refine ⟨.int _, H, I.kept kept, ⟨t, rfl⟩, q _ ?_ fun y hy => ?_⟩
    · rw [numAt_eq, hn]
      exact PySem.getD_mem (by omega)
    · obtain ⟨j, hj, rfl⟩ := mem_getD hy
      rw [← hn, ← numAt_eq]
      exact h2 j (by omega)
def minDF : List D → Option D
  | [.lst ds] => (intsOf ds).map fun ns => match minL ns with | some m => .int m | none => .non
  | _ => none
abbrev Ek (X : Cx) (ks : List Keyword) (m : Ma) : Prop := PK X ks (tA X.K m)
/-- min(e, default=None) -/
theorem ev_minD {X : Cx} {e : Expr} {j : Nat} {mr : Ma} {p pos kpos cpos : Pos} (hg : Gl X "min") (hm : X.mg "min" = none) (ha : Ea X [e] mr) (hc : X.calm = true := by rfl)
    (he : backTo pos (starEach [e] X.env) = (false, eval e X.env) :: backTo pos (starEach [] X.env) := by rfl) (hpl : (backTo pos (starEach [e] X.env)).any (fun x => x.1) = false := by rfl)
    (hall : (backToKw pos (keywordEach [⟨some "default", .Constant .none j cpos, kpos⟩] X.env)).all (fun x => x.1.isSome) = true := by rfl) (hnone : (backToKw pos (keywordEach [⟨some "default", .Constant .none j cpos, kpos⟩] X.env)).any (fun x => x.1.isNone) = false := by rfl)
    (hks : (backToKw pos (keywordEach [⟨some "default", .Constant .none j cpos, kpos⟩] X.env)).filterMap (fun x => x.1) = [Str.ofString "default"] := by rfl) :
    Ev X (.Call (.Name "min" p) [e] [⟨some "default", .Constant .none j cpos, kpos⟩] pos) (mA minDF mr) := by
  refine PE.imp (pe_callBK (cr_minD hc) hg hm (by decide +kernel) ha (pk_cons pe_non pk_nil) (by decide) (by decide) he hpl hall hnone hks) fun σ H Q h => ?_
  refine t_ca (K := X.K) (r := fun vs H1 Q => rMinD X.K vs [V.non] H1 Q) (f := minDF) (fun vs ds z H ok Q rs e q => ?_) h
  unfold minDF at e
  split at e
  · obtain ⟨ns, hn, e⟩ := map_some e
    cases rs with
    | cons a r =>
      cases r
      cases a with
      | lst o h r =>
        have := ints_ok r hn
        subst this
        refine ⟨_, ns, rfl, rfl, SqL.of h, fun e0 => ?_, fun m h1 h2 => ?_⟩
        · subst e0
          cases e
          exact q _ H (Same.refl H) .non
        · cases hm : minL ns with
          | none => cases ns with
            | nil => cases h1
            | cons _ _ => cases hm
          | some m' =>
            rw [hm] at e
            subst e
            rw [min_uniq hm h1 h2]
            exact q _ H (Same.refl H) (.int _)
  · cases e
end Ice


/-! defs that change a list handed in, and expressions that call them -/
namespace Ice
open PySem PySem.Spec PyProof.Rows L2

/-- all that is not owned stays -/
def Fr (O : Addr → Prop) (H H' : Hp) : Prop := ∀ a o, ¬ O a → H a = some o → H' a = some o
theorem fr_of {O : Addr → Prop} {H H' : Hp} (s : Same H H') : Fr O H H' := fun a o _ e => s a o e
theorem Fr.trans {O : Addr → Prop} {H H1 H2 : Hp} (f : Fr O H H1) (g : Fr O H1 H2) : Fr O H H2 := fun a o c e => g a o c (f a o c e)
theorem fr_keeps {K : PySem.W.Frag} {p0 : Addr} {H0 H H' : Hp} {ok0 O : Addr → Prop} {S : Sl} {σ : L2.St} (r : RO K p0 H0 ok0 O S σ H) (f : Fr O H H') : Keeps (fun a => ex ok0 H0 a ∧ ¬ O a) H H' := fun a o e g =>
  f a o (fun z => by
    obtain ⟨_, vs, e2⟩ := r.own0 a z
    rw [e2] at e
    cases e
    exact g.elim (fun g => g.2 z) fun g => g) e
abbrev Mx := Sl → Option (D × Sl)
abbrev Mxt := Sl → Option (Bool × Sl)
abbrev Mxa := Sl → Option (List D × Sl)
def tX (K : PySem.W.Frag) (m : Mx) : TE := fun σ H Q => ∃ p0 H0 ok0 O S d S', RO K p0 H0 ok0 O S σ H ∧ m S = some (d, S') ∧ ∀ v H', Fr O H H' → RO K p0 H0 ok0 O S' σ H' → Rep K H' (fun a => ex ok0 H0 a ∧ ¬ O a) v d → Q v H'
def tXT (K : PySem.W.Frag) (m : Mxt) : TT := fun σ H Q => ∃ p0 H0 ok0 O S b S', RO K p0 H0 ok0 O S σ H ∧ m S = some (b, S') ∧ ∀ H', Fr O H H' → RO K p0 H0 ok0 O S' σ H' → Q b H'
def tXA (K : PySem.W.Frag) (m : Mxa) : TA := fun σ H Q => ∃ p0 H0 ok0 O S ds S', RO K p0 H0 ok0 O S σ H ∧ m S = some (ds, S') ∧ ∀ vs H', Fr O H H' → RO K p0 H0 ok0 O S' σ H' → Reps K H' (fun a => ex ok0 H0 a ∧ ¬ O a) vs ds → Q vs H'
abbrev Xv (X : Cx) (e : Expr) (m : Mx) : Prop := PE X e (tX X.K m)
abbrev Xt (X : Cx) (e : Expr) (m : Mxt) : Prop := PT X e (tXT X.K m)
abbrev Xw (X : Cx) (e : Expr) (m : Mxt) : Prop := PW X e (tXT X.K m)
abbrev Xa (X : Cx) (es : List Expr) (m : Mxa) : Prop := PA X es (tXA X.K m)
def xP (m : Mi) : Mx := fun S => (m (cl S)).map fun d => (d, S)
def xPF (m : Mi) : Mx := fun S => (m (op S)).bind fun d => if flat d = true then some (d, S) else none
def xT (t : Mt) : Mxt := fun S => (t (op S)).map fun b => (b, S)
def x2 (f : D → D → Option D) (a b : Mx) : Mx := fun S => (a S).bind fun x => (b x.2).bind fun y => (f x.1 y.1).map fun z => (z, y.2)
def x1 (f : D → Option D) (a : Mx) : Mx := fun S => (a S).bind fun x => (f x.1).map fun z => (z, x.2)
def xA (f : List D → Option D) (a : Mxa) : Mx := fun S => (a S).bind fun x => (f x.1).map fun z => (z, x.2)
def xNil : Mxa := fun S => some ([], S)
def xCons (m : Mx) (r : Mxa) : Mxa := fun S => (m S).bind fun x => (r x.2).bind fun y => some (x.1 :: y.1, y.2)
def xB (m : Mx) : Mxt := fun S => (m S).bind fun x => match x.1 with
  | .bl b => some (b, x.2)
  | _ => none
def xAnd (t u : Mxt) : Mxt := fun S => (t S).bind fun x => if x.1 = true then u x.2 else some (false, x.2)
section
variable {K : PySem.W.Frag} {ma mb : Mx} {mr : Mxa} {ta tb : Mxt} {σ : L2.St} {H : Hp}
theorem t_xP {m : Mi} {Q : VK} (h : tX K (xP m) σ H Q) : tE K m σ H Q := by
  obtain ⟨p0, H0, ok0, O, S, d, S', r, e, q⟩ := h
  obtain ⟨x, e1, e⟩ := map_some e
  cases e
  exact ⟨_, _, _, r.closed, e1, fun v H' s rv => q v H' (fr_of s) (r.grow s) (rv.keeps (Same.keeps (Same.refl _)) fun a g => good_new r g)⟩
theorem t_xPF {m : Mi} {Q : VK} (h : tX K (xPF m) σ H Q) : tE K m σ H Q := by
  obtain ⟨p0, H0, ok0, O, S, d, S', r, e, q⟩ := h
  obtain ⟨x, e1, e⟩ := bind_some e
  split at e
  · next fd =>
    cases e
    exact ⟨_, _, _, r.opened, e1, fun v H' s rv => q v H' (fr_of s) (r.grow s) (rv.flat _ _ fd)⟩
  · cases e
theorem t_xT {m : Mt} {Q : Bool → Hp → Prop} (h : tXT K (xT m) σ H Q) : tT K m σ H Q := by
  obtain ⟨p0, H0, ok0, O, S, d, S', r, e, q⟩ := h
  obtain ⟨x, e1, e⟩ := map_some e
  cases e
  exact ⟨_, _, _, r.opened, e1, fun H' s => q H' (fr_of s) (r.grow s)⟩
theorem t_xop {r : R2} {f : D → D → Option D} {Q : VK} (hf : OpD K r f) (h : tX K (x2 f ma mb) σ H Q) : tOp r (tX K ma) (tX K mb) σ H Q := by
  obtain ⟨p0, H0, ok0, O, S, d, S', r0, e, q⟩ := h
  obtain ⟨⟨x, S1⟩, e1, e⟩ := bind_some e
  obtain ⟨⟨y, S2⟩, e2, e⟩ := bind_some e
  obtain ⟨z, e3, e⟩ := map_some e
  cases e
  exact ⟨p0, H0, ok0, O, S, x, S1, r0, e1, fun vx H1 f1 r1 rx => ⟨p0, H0, ok0, O, S1, y, S2, r1, e2, fun vy H2 f2 r2 ry =>
    hf vx vy x y _ H2 _ Q (rx.keeps (fr_keeps r1 f2) fun _ g => g) ry e3 fun v H' s rz => q v H' (f1.trans (f2.trans (fr_of s))) (r2.grow s) (rz.keeps (Same.keeps (Same.refl _)) fun a g => good_new r2 g)⟩⟩
theorem t_xun {r : V → Hp → VK → Prop} {f : D → Option D} {Q : VK} (hf : UnD K r f) (h : tX K (x1 f ma) σ H Q) : tX K ma σ H fun v H1 => r v H1 Q := by
  obtain ⟨p0, H0, ok0, O, S, d, S', r0, e, q⟩ := h
  obtain ⟨⟨x, S1⟩, e1, e⟩ := bind_some e
  obtain ⟨z, e3, e⟩ := map_some e
  cases e
  exact ⟨p0, H0, ok0, O, S, x, S1, r0, e1, fun vx H1 f1 r1 rx => hf vx x _ H1 _ Q rx e3 fun v H' s rz => q v H' (f1.trans (fr_of s)) (r1.grow s) (rz.keeps (Same.keeps (Same.refl _)) fun a g => good_new r1 g)⟩
theorem t_xca {r : List V → Hp → VK → Prop} {f : List D → Option D} {Q : VK} (hf : CaD K r f) (h : tX K (xA f mr) σ H Q) : tXA K mr σ H fun vs H1 => r vs H1 Q := by
  obtain ⟨p0, H0, ok0, O, S, d, S', r0, e, q⟩ := h
  obtain ⟨⟨x, S1⟩, e1, e⟩ := bind_some e
  obtain ⟨z, e3, e⟩ := map_some e
  cases e
  exact ⟨p0, H0, ok0, O, S, x, S1, r0, e1, fun vx H1 f1 r1 rx => hf vx x _ H1 _ Q rx e3 fun v H' s rz => q v H' (f1.trans (fr_of s)) (r1.grow s) (rz.keeps (Same.keeps (Same.refl _)) fun a g => good_new r1 g)⟩
theorem t_xB {Q : Bool → Hp → Prop} (h : tXT K (xB ma) σ H Q) : tX K ma σ H fun v H1 => ∃ x, v = .bl x ∧ Q x H1 := by
  obtain ⟨p0, H0, ok0, O, S, d, S', r0, e, q⟩ := h
  obtain ⟨⟨x, S1⟩, e1, e⟩ := bind_some e
  refine ⟨p0, H0, ok0, O, S, x, S1, r0, e1, fun v H1 f1 r1 rx => ?_⟩
  cases x with
  | bl b => cases e; cases rx; exact ⟨_, rfl, q H1 f1 r1⟩
  | _ => cases e
end
section
variable {X : Cx} {e a b : Expr} {es rest : List Expr} {ma mb : Mx} {mr : Mxa} {ta tb : Mxt} {pos p : Pos} {x : Str} {r : List V → Hp → VK → Prop} {f : List D → Option D} {id T : String}
theorem xv_p {m : Mi} (h : Ev X e m) : Xv X e (xP m) := PE.imp h fun _ _ _ => t_xP
theorem xv_pf {m : Mi} (h : Ev X e m) : Xv X e (xPF m) := PE.imp h fun _ _ _ => t_xPF
theorem xt_p {m : Mt} (h : Et X e m) : Xt X e (xT m) := PT.imp h fun _ _ _ => t_xT
theorem xw_p {m : Mt} (h : Ew X e m) : Xw X e (xT m) := PW.imp h fun _ _ _ => t_xT
theorem xt_w (h : Xw X e ta) : Xt X e ta := PW.pt h
theorem xv_bin {op : Operator} {r : R2} {f : D → D → Option D} (ho : OpR X (binaryOp op) r) (hf : OpD X.K r f) (ha : Xv X a ma) (hb : Xv X b mb) : Xv X (.BinOp a op b pos) (x2 f ma mb) := PE.imp (pe_op ho ha hb) fun _ _ _ h => t_xop hf h
theorem xv_sub {r : R2} {f : D → D → Option D} (hr : IxR X r) (hf : OpD X.K r f) (ha : Xv X a ma) (hb : Xv X b mb) (hs : PlainIx b := by exact fun _ _ => rfl) : Xv X (.Subscript a b pos) (x2 f ma mb) := PE.imp (pe_ix hr ha hb hs) fun _ _ _ h => t_xop hf h
theorem xt_op {op : CmpOp} {r : R2} {f : D → D → Option D} (ho : OpR X (compareOp op) r) (hf : OpD X.K r f) (ha : Xv X a ma) (hb : Xv X b mb) (hm : behindInMarks op b = false := by first | exact nomark _ | rfl) : Xt X (.Compare a [op] [b] pos) (xB (x2 f ma mb)) :=
  PT.imp (pt_cmpR ho ha hb hm) fun σ H Q h => t_xop hf (t_xB h)
theorem xv_cmp {op : CmpOp} {r : R2} {f : D → D → Option D} (ho : OpR X (compareOp op) r) (hf : OpD X.K r f) (ha : Xv X a ma) (hb : Xv X b mb) (hm : behindInMarks op b = false := by first | exact nomark _ | rfl) : Xv X (.Compare a [op] [b] pos) (x2 f ma mb) :=
  PE.imp (pe_cmpR ho ha hb hm) fun _ _ _ h => t_xop hf h
theorem xa_nil : Xa X [] xNil := PA.imp pa_nil fun σ H Q h => by
  obtain ⟨p0, H0, ok0, O, S, d, S', r0, e, q⟩ := h
  cases e
  exact q [] H (fr_of (Same.refl H)) r0 .nil
theorem xa_cons (ha : Xv X e ma) (hr : Xa X es mr) (hs : starEach (e :: es) X.env = (false, eval e X.env) :: starEach es X.env := by rfl) : Xa X (e :: es) (xCons ma mr) := PA.imp (pa_cons ha hr hs) fun σ H Q h => by
  obtain ⟨p0, H0, ok0, O, S, d, S', r0, e, q⟩ := h
  obtain ⟨⟨x, S1⟩, e1, e⟩ := bind_some e
  obtain ⟨⟨y, S2⟩, e2, e⟩ := bind_some e
  cases e
  exact ⟨p0, H0, ok0, O, S, x, S1, r0, e1, fun vx H1 f1 r1 rx => ⟨p0, H0, ok0, O, S1, y, S2, r1, e2, fun vs H2 f2 r2 ry => q _ H2 (f1.trans f2) r2 (.cons (rx.keeps (fr_keeps r1 f2) fun _ g => g) ry)⟩⟩
theorem xv_lst (h : Xa X es mr) : Xv X (.List es pos) (xA lstD mr) := PE.imp (pe_lst h) fun σ H Q hh => by
  refine t_xca (K := X.K) (r := fun xs H1 Q => xs.length ≤ sizeLine ∧ ∀ p, H1 p = none → Q (.ref p) (upd H1 p (.lst xs))) (f := lstD) (fun vs ds z H ok Q r e q => ?_) hh
  unfold lstD at e
  split at e
  · next c =>
    cases e
    refine ⟨by rw [r.length]; exact Nat.le_trans c (by decide), fun p hp => ?_⟩
    have s := same_new (o := .lst vs) hp
    exact q _ _ s (.lst (.inr hp) upd_same (r.keeps (Same.keeps s) ex_of))
  · cases e
theorem xv_tup {k : Nat} (h : Xa X es mr) : Xv X (.Tuple es k pos) (xA tupD mr) := PE.imp (pe_tup h) fun σ H Q hh => by
  refine t_xca (K := X.K) (r := fun xs H1 Q => xs.length ≤ sizeLine ∧ ∀ p, H1 p = none → Q (.ref p) (upd H1 p (.tup xs))) (f := tupD) (fun vs ds z H ok Q r e q => ?_) hh
  unfold tupD at e
  split at e
  · next c =>
    cases e
    refine ⟨by rw [r.length]; exact Nat.le_trans c (by decide), fun p hp => ?_⟩
    have s := same_new (o := .tup vs) hp
    exact q _ _ s (.tup upd_same (r.keeps (Same.keeps s) ex_of))
  · cases e
theorem xv_callB (hc : CallR X (.builtin id) r) (hf : CaD X.K r f) (hg : Gl X x) (hm : X.mg x = none) (hv : bootBuiltins x = some (.builtin id)) (ha : Xa X (e :: es) mr) (hn : x ≠ "__name__" := by decide) (hdb : (x == ("__debug__" : Str)) = false := by decide)
    (he : starEach (e :: es) X.env = (false, eval e X.env) :: starEach es X.env := by rfl) (hpl : (backTo pos (starEach es X.env)).any (·.1) = false := by rfl) : Xv X (.Call (.Name x p) (e :: es) [] pos) (xA f mr) :=
  PE.imp (pe_callB hc hg hm hv ha hn hdb he hpl) fun σ H Q h => t_xca hf h
theorem xv_callT (hc : CallR X (.type T) r) (hf : CaD X.K r f) (hg : Gl X x) (hm : X.mg x = none) (hv : bootBuiltins x = some (.type T)) (ha : Xa X (e :: es) mr) (hn : x ≠ "__name__" := by decide) (hdb : (x == ("__debug__" : Str)) = false := by decide)
    (he : starEach (e :: es) X.env = (false, eval e X.env) :: starEach es X.env := by rfl) (hpl : (backTo pos (starEach es X.env)).any (·.1) = false := by rfl) : Xv X (.Call (.Name x p) (e :: es) [] pos) (xA f mr) :=
  PE.imp (pe_callTy hc hg hm hv ha hn hdb he hpl) fun σ H Q h => t_xca hf h
theorem xw_and1 (h : Xt X a ta) : Xw X (.BoolOp .And [a] pos) ta := pw_and1 h
theorem xw_and (h1 : Xt X a ta) (h2 : Xw X (.BoolOp .And (b :: rest) pos) tb) : Xw X (.BoolOp .And (a :: b :: rest) pos) (xAnd ta tb) := PW.imp (pw_and h1 h2) fun σ H Q hh => by
  obtain ⟨p0, H0, ok0, O, S, d, S', r0, e, q⟩ := hh
  obtain ⟨⟨x, S1⟩, e1, e⟩ := bind_some e
  refine ⟨p0, H0, ok0, O, S, x, S1, r0, e1, fun H1 f1 r1 => ?_⟩
  cases x with
  | true => exact ⟨p0, H0, ok0, O, S1, d, S', r1, e, fun H2 f2 r2 => q H2 (f1.trans f2) r2⟩
  | false => cases e; exact q H1 f1 r1
end

/-! ### calls that change the list lent -/
def nol : Addr → Prop := fun _ => False
def spX (K : PySem.W.Frag) (n : Nat) (g : List D → List D → Option (D × List D)) : Sp := fun vs H Q _ => ∃ p ws ds ok rest as d es, vs = .ref p :: rest ∧ H p = some (.lst ws) ∧ flats ds = true ∧ Reps K H nol ws ds ∧ ¬ ok p ∧ Reps K H ok rest as ∧ as.length + 1 = n ∧ g ds as = some (d, es) ∧
  ∀ v H' us, SameX p H H' → H' p = some (.lst us) → Reps K H' nol us es → Rep K H' nol v d → Q v H'
def xCallG (n : Nat) (g : List D → List D → Option (D × List D)) (ds as : List D) (back : List D → SL) (i : Nat) (S : Sl) : Option (D × Sl) :=
  if flats ds = true ∧ as.length + 1 = n then (g ds as).map fun z => (z.1, S.set i (back z.2)) else none
def xCall (i n : Nat) (g : List D → List D → Option (D × List D)) (mr : Ma) : Mx := fun S => match S[i]? with
  | some (.din ds) => (mr (cl S)).bind fun as => xCallG n g ds as .din i S
  | some (.own ds) => (mr (cl S)).bind fun as => xCallG n g ds as .own i S
  | _ => none
section
variable {X : Cx} {e : Expr} {es : List Expr} {mr : Ma} {pos p p1 : Pos} {x y : Str}
theorem pa_first {i : Nat} (hi : X.N[i]? = some y) (hv : Vis X.env.scope y) (hd : (y == ("__debug__" : Str)) = false) (hcd : (y == ("__classdict__" : Str)) = false) (ha : Ea X es mr)
    (hs : starEach (.Name y p1 :: es) X.env = (false, eval (.Name y p1) X.env) :: starEach es X.env := by rfl) : PA X (.Name y p1 :: es) (tCons (tVar i) (tA X.K mr)) := pa_cons (pe_var hi hv hd hcd) ha hs
theorem fr_ofX {O : Addr → Prop} {H H' : Hp} {a : Addr} (hO : O a) (s : SameX a H H') : Fr O H H' := fun b o c e => s b o (fun z => c (by rw [z]; exact hO)) e
theorem xv_call {k j n : Nat} {g : List D → List D → Option (D × List D)} (i : Nat) (c : C8.Cal X.prog X.w X.K X.mg X.base k x (spX X.K n g) []) (hr : Room j X.A) (hk : k ≤ j) (hg : Gl X x) (ha : Ea X es mr)
    (hi : X.N[i]? = some y := by rfl) (hv : Vis X.env.scope y := by first | exact Or.inl rfl | exact Or.inr (Or.inl rfl) | exact Or.inr (Or.inr rfl)) (hd : (y == ("__debug__" : Str)) = false := by decide) (hcd : (y == ("__classdict__" : Str)) = false := by decide)
    (hs : starEach (.Name y p1 :: es) X.env = (false, eval (.Name y p1) X.env) :: starEach es X.env := by rfl)
    (hdb : (x == ("__debug__" : Str)) = false := by decide) (hpl : (backTo pos (starEach es X.env)).any (·.1) = false := by rfl) :
    Xv X (.Call (.Name x p) (.Name y p1 :: es) [] pos) (xCall i n g mr) := PE.imp (C8.pe_c c hr hk hg (pa_first hi hv hd hcd ha hs) hdb hs hpl) fun σ H Q h => by
  obtain ⟨p0, H0, ok0, O, S, d, S', r0, e, q⟩ := h
  unfold xCall at e
  split at e
  · next ds hS =>
    obtain ⟨as, e1, e⟩ := bind_some e
    unfold xCallG at e
    split at e
    · next c =>
      obtain ⟨⟨z, zs⟩, e2, e⟩ := map_some e
      cases e
      obtain ⟨ws, h1, h2, h3, h4⟩ := r0.din i ds hS
      refine ⟨_, h1, _, _, as, r0.closed, e1, fun vs H1 s1 rs => ?_⟩
      have r1 := r0.grow s1
      have rs' : Reps X.K H1 (fun a => ex ok0 H0 a ∧ ¬ O a) vs as := rs.keeps (Same.keeps (Same.refl _)) fun a g => good_new r0 g
      refine ⟨p0, ws, ds, _, vs, as, _, zs, by rw [List.append_nil], s1 _ _ h3, c.1, (h4.keeps (Same.keeps s1) fun _ g => g).flat _ _ c.1, fun g => g.2 h2, rs', c.2, e2, fun v H' us sx hp ru rv => ?_⟩
      exact q v H' ((fr_of s1).trans (fr_ofX h2 sx)) (r1.updDin hS sx hp (ru.keeps (Same.keeps (Same.refl _)) fun _ g => g.elim)) (rv.keeps (Same.keeps (Same.refl _)) fun _ g => g.elim)
    · cases e
  · next ds hS =>
    obtain ⟨as, e1, e⟩ := bind_some e
    unfold xCallG at e
    split at e
    · next c =>
      obtain ⟨⟨z, zs⟩, e2, e⟩ := map_some e
      cases e
      obtain ⟨a, ws, h1, h2, h3, h4⟩ := r0.own i ds hS
      refine ⟨_, h1, _, _, as, r0.closed, e1, fun vs H1 s1 rs => ?_⟩
      have r1 := r0.grow s1
      have rs' : Reps X.K H1 (fun a => ex ok0 H0 a ∧ ¬ O a) vs as := rs.keeps (Same.keeps (Same.refl _)) fun a g => good_new r0 g
      refine ⟨a, ws, ds, _, vs, as, _, zs, by rw [List.append_nil], s1 _ _ h3, c.1, (h4.keeps (Same.keeps s1) fun _ g => g).flat _ _ c.1, fun g => g.2 h2, rs', c.2, e2, fun v H' us sx hp ru rv => ?_⟩
      exact q v H' ((fr_of s1).trans (fr_ofX h2 sx)) (r1.updOwn hS h1 sx hp (ru.keeps (Same.keeps (Same.refl _)) fun _ g => g.elim)) (rv.keeps (Same.keeps (Same.refl _)) fun _ g => g.elim)
    · cases e
  · cases e
end
end Ice

/-! statements with such calls, such defs -/
namespace Ice
open PySem PySem.Spec PyProof.Rows L2

def ySet (i : Nat) (m : Mx) : Ms := fun S => (m S).map fun x => .nx (x.2.set i (.dat x.1))
def yRet (m : Mx) : Ms := fun S => (m S).map fun x => .rt x.1 x.2
def yDrop (m : Mx) : Ms := fun S => (m S).map fun x => .nx x.2
def yIf (t : Mxt) (a b : Ms) : Ms := fun S => (t S).bind fun x => if x.1 = true then a x.2 else b x.2
def yApp (i : Nat) (m : Mx) : Ms := fun S => match S[i]? with
  | some (.own _) => (m S).bind fun x => match x.2[i]? with
    | some (.own ds) => if ds.length < 1000000 then some (.nx (x.2.set i (.own (ds ++ [x.1])))) else none
    | _ => none
  | _ => none
def ySub (i : Nat) (mi m : Mi) : Ms := fun S => (m (op S)).bind fun d => if flat d = true then (mi (cl S)).bind fun k => match k with
  | .int k => match S[i]? with
    | some (.din ds) => (ixN ds.length k).map fun j => .nx (S.set i (.din (ds.set j d)))
    | some (.own ds) => (ixN ds.length k).map fun j => .nx (S.set i (.own (ds.set j d)))
    | _ => none
  | _ => none else none
def yRev (i : Nat) : Ms := fun S => match S[i]? with
  | some (.own ds) => some (.nx (S.set i (.own ds.reverse)))
  | _ => none
def yOwn (i n : Nat) (g : List D → Option D) (mr : Ma) : Ms := fun S => (mr (cl S)).bind fun as => if flats as = true ∧ as.length = n then (g as).bind fun d => match d with
  | .lst ds => if flats ds = true then some (.nx (S.set i (.own ds))) else none
  | _ => none else none
theorem Reps.set {K : PySem.W.Frag} {ok : Addr → Prop} {H : Hp} {v : V} {d : D} (a : Rep K H ok v d) : ∀ {vs : List V} {ds : List D} (j : Nat), Reps K H ok vs ds → Reps K H ok (vs.set j v) (ds.set j d)
  | _, _, _, .nil => .nil
  | _, _, 0, .cons _ r => .cons a r
  | _, _, j + 1, .cons b r => .cons b (Reps.set a j r)
section
variable {X : Cx} {st : Stmt} {a b : List Stmt} {e c : Expr} {es : List Expr} {me : Mx} {t : Mxt} {m1 m2 : Ms} {pos pos' p1 p2 p3 p : Pos} {x y : Str} {mr : Ma}
theorem ys_set (i : Nat) (hN : X.N.Nodup) (he : Xv X e me) (hi : X.N[i]? = some x := by rfl) (hx : Loc X.env.scope x := by first | exact Or.inl rfl | exact Or.inr rfl) (hs : swapsWith e (some (.Name x pos')) pos.line X.env = pure false := by rfl)
    (hf : X.fn x = true ∨ X.env.scope.names.lookup x = some .local := by first | exact .inl rfl | exact .inr rfl) : Es X (.Assign [.Name x pos'] e pos) (ySet i me) := PS.imp (ps_set hN hi hx he hs hf) fun E σ H h => by
  obtain ⟨p0, H0, ok0, S, o, ⟨O, r⟩, m, q⟩ := h
  obtain ⟨⟨d, S1⟩, e1, m⟩ := map_some m
  subst m
  exact ⟨p0, H0, ok0, O, S, d, S1, r, e1, fun v H' f r' rv => q _ H' ⟨O, r'.put rv⟩⟩
theorem ys_ret (he : Xv X e me) : Es X (.Return (some e) pos) (yRet me) := PS.imp (ps_ret he) fun E σ H h => by
  obtain ⟨p0, H0, ok0, S, o, ⟨O, r⟩, m, q⟩ := h
  obtain ⟨⟨d, S1⟩, e1, m⟩ := map_some m
  subst m
  exact ⟨p0, H0, ok0, O, S, d, S1, r, e1, fun v H' f r' rv => q v σ H' ⟨O, r'⟩ (rv.keeps (Same.keeps (Same.refl _)) fun _ g => g.1)⟩
theorem ys_drop (he : Xv X e me) (hs : swapsWith e none pos.line X.env = pure false := by rfl) : Es X (.Expr e pos) (yDrop me) := PS.imp (ps_expr he hs) fun E σ H h => by
  obtain ⟨p0, H0, ok0, S, o, ⟨O, r⟩, m, q⟩ := h
  obtain ⟨⟨d, S1⟩, e1, m⟩ := map_some m
  subst m
  exact ⟨p0, H0, ok0, O, S, d, S1, r, e1, fun v H' f r' rv => q σ H' ⟨O, r'⟩⟩
theorem ys_if (hc : Xt X c t) (ha : Ess X a m1) (hb : Ess X b m2) : Es X (.If c a b pos) (yIf t m1 m2) := PS.imp (ps_if hc ha hb) fun E σ H h => by
  obtain ⟨p0, H0, ok0, S, o, ⟨O, r⟩, m, q⟩ := h
  obtain ⟨⟨d, S1⟩, e1, m⟩ := bind_some m
  refine ⟨p0, H0, ok0, O, S, d, S1, r, e1, fun H' f r' => ?_⟩
  cases d with
  | true => exact ⟨p0, H0, ok0, S1, o, ⟨O, r'⟩, m, q⟩
  | false => exact ⟨p0, H0, ok0, S1, o, ⟨O, r'⟩, m, q⟩
theorem ye_app (i : Nat) (he : Xv X e me) (hi : X.N[i]? = some x := by rfl) (hv : Vis X.env.scope x := by first | exact Or.inl rfl | exact Or.inr (Or.inl rfl) | exact Or.inr (Or.inr rfl))
    (hd : (x == ("__debug__" : Str)) = false := by decide) (hcd : (x == ("__classdict__" : Str)) = false := by decide)
    (hbase : attributeBase (.Name x p1) "append" X.env (eval (.Name x p1) X.env) = eval (.Name x p1) X.env := by rfl)
    (hfew : ((backTo p3 (starEach [e] X.env)).all (fun x => !x.1) && (backToKw p3 (keywordEach [] X.env)).all (fun x => x.1.isSome) && decide ([e].length + ([] : List Keyword).length + (if ([] : List Keyword).isEmpty then 0 else 1) < 30)) = true := by rfl)
    (hline : (p2.endLine == p3.line) = true := by rfl) (hs : starEach [e] X.env = (false, eval e X.env) :: starEach [] X.env := by rfl) (hplain : (backTo p3 (starEach [] X.env)).any (fun x => x.1) = false := by rfl) :
    PE X (.Call (.Attribute (.Name x p1) "append" p2) [e] [] p3) (tBM X.K "list" rAppend (tVar i) (tXA X.K (xCons me xNil))) :=
  pe_bm PySem.F.plainAttrs_list PySem.F.slot_list_append PySem.F.type_list_append mt_append (pe_var hi hv hd hcd) (xa_cons he xa_nil hs) hbase hfew hline hs hplain
theorem ys_app (i : Nat) (h : PE X (.Call (.Attribute (.Name x p1) "append" p2) [e] [] p3) (tBM X.K "list" rAppend (tVar i) (tXA X.K (xCons me xNil))))
    (hs : swapsWith (.Call (.Attribute (.Name x p1) "append" p2) [e] [] p3) none pos.line X.env = pure false := by rfl) : Es X (.Expr (.Call (.Attribute (.Name x p1) "append" p2) [e] [] p3) pos) (yApp i me) := PS.imp (ps_expr h hs) fun E σ H hh => by
  obtain ⟨p0, H0, ok0, S, o, ⟨O, r⟩, m, q⟩ := hh
  unfold yApp at m
  split at m
  · next ds0 hS0 =>
    obtain ⟨⟨d, S1⟩, e1, m⟩ := bind_some m
    obtain ⟨p, vs, h1, h2, h3, h4⟩ := r.own i ds0 hS0
    refine ⟨_, h1, .inl ⟨rfl, _, SqL.of h3⟩, p0, H0, ok0, O, S, [d], S1, r, ?_, fun us H' f r' ru => ?_⟩
    · show (me S).bind (fun x => (xNil x.2).bind fun y => some (x.1 :: y.1, y.2)) = some ([d], S1)
      rw [e1]
      rfl
    · cases ru with
      | cons rv ru =>
        cases ru
        split at m
        · next ds hS =>
          split at m
          · next hl =>
            cases m
            obtain ⟨p', ws, g1, g2, g3, g4⟩ := r'.own i ds hS
            have g1' := g1
            rw [h1] at g1'
            cases g1'
            refine ⟨_, ws, _, rfl, rfl, g3, ?_, q σ _ ⟨O, r'.app hS g1 g3 rv⟩⟩
            rw [g4.length]
            exact Nat.lt_trans hl (by decide)
          · cases m
        · cases m
  · cases m
theorem ys_sub {ix : Expr} {mi m : Mi} (i : Nat) (he : Ev X e m) (hix : Ev X ix mi) (hi : X.N[i]? = some x := by rfl) (hv : Vis X.env.scope x := by first | exact Or.inl rfl | exact Or.inr (Or.inl rfl) | exact Or.inr (Or.inr rfl))
    (hd : (x == ("__debug__" : Str)) = false := by decide) (hcd : (x == ("__classdict__" : Str)) = false := by decide)
    (ha : ∀ v, assign (.Subscript (.Name x p1) ix p2) X.env v = (do
      let ov ← holding [v] (eval (.Name x p1) X.env)
      let iv ← holding [v, ov] (eval ix X.env)
      standAt p2
      holding [v, ov, iv] (setItem ov iv v)
      release [v, ov, iv] []) := by intro _; rfl)
    (hs : swapsWithSole [.Subscript (.Name x p1) ix p2] e pos.line X.env = pure false := by rfl) (hw : swappedStores [.Subscript (.Name x p1) ix p2] e X.env = pure none := by rfl) (h1 : (assignEach [.Subscript (.Name x p1) ix p2] X.env).map (fun x => x.2) = [assign (.Subscript (.Name x p1) ix p2) X.env] := by rfl) :
    Es X (.Assign [.Subscript (.Name x p1) ix p2] e pos) (ySub i mi m) :=
  PS.imp (ps_asg he (pg_sub (pe_var hi hv hd hcd) hix set_list ha) hs hw h1) fun E σ H h => by
    obtain ⟨p0, H0, ok0, S, o, ⟨O, r⟩, m, q⟩ := h
    obtain ⟨d, e1, m⟩ := bind_some m
    split at m
    · next fd =>
      obtain ⟨k, e2, m⟩ := bind_some m
      refine ⟨_, _, d, r.opened, e1, fun v H1 s1 rv => ?_⟩
      have r1 := r.grow s1
      split at m
      · next k =>
        split at m
        · next ds hS =>
          obtain ⟨j, ej, m⟩ := map_some m
          subst m
          obtain ⟨ws, g1, g2, g3, g4⟩ := r1.din i ds hS
          refine ⟨_, g1, _, _, _, r1.closed, e2, fun vk H2 s2 rk => ?_⟩
          cases rk
          have r2 := r1.grow s2
          obtain ⟨ws', f1, f2, f3, f4⟩ := r2.din i ds hS
          have rv2 : Rep X.K (upd H2 p0 (.lst (ws'.set j v))) (fun a => ex ok0 H0 a ∧ ¬ O a) v d := ((rv.keeps (Same.keeps s2) fun _ g => g).flat (ok' := fun a => ex ok0 H0 a ∧ ¬ O a) _ _ fd).keeps (r2.keepX f2 f3 sameX_upd) fun _ g => g
          exact ⟨p0, ws', k, j, rfl, rfl, f3, by rw [f4.length]; exact ej, q σ _ ⟨O, r2.updDin hS sameX_upd upd_same (Reps.set rv2 j (f4.keeps (r2.keepX f2 f3 sameX_upd) fun _ g => g))⟩⟩
        · next ds hS =>
          obtain ⟨j, ej, m⟩ := map_some m
          subst m
          obtain ⟨a, ws, g1, g2, g3, g4⟩ := r1.own i ds hS
          refine ⟨_, g1, _, _, _, r1.closed, e2, fun vk H2 s2 rk => ?_⟩
          cases rk
          have r2 := r1.grow s2
          have f3 := s2 _ _ g3
          have f4 := g4.keeps (Same.keeps s2) fun _ g => g
          have rv2 : Rep X.K (upd H2 a (.lst (ws.set j v))) (fun a => ex ok0 H0 a ∧ ¬ O a) v d := ((rv.keeps (Same.keeps s2) fun _ g => g).flat (ok' := fun a => ex ok0 H0 a ∧ ¬ O a) _ _ fd).keeps (r2.keepX g2 f3 sameX_upd) fun _ g => g
          exact ⟨a, ws, k, j, rfl, rfl, f3, by rw [f4.length]; exact ej, q σ _ ⟨O, r2.updOwn hS g1 sameX_upd upd_same (Reps.set rv2 j (f4.keeps (r2.keepX g2 f3 sameX_upd) fun _ g => g))⟩⟩
        · cases m
      · cases m
    · cases m
theorem ys_rev (i : Nat) (hi : X.N[i]? = some x := by rfl) (hv : Vis X.env.scope x := by first | exact Or.inl rfl | exact Or.inr (Or.inl rfl) | exact Or.inr (Or.inr rfl))
    (hd : (x == ("__debug__" : Str)) = false := by decide) (hcd : (x == ("__classdict__" : Str)) = false := by decide)
    (hbase : attributeBase (.Name x p1) "reverse" X.env (eval (.Name x p1) X.env) = eval (.Name x p1) X.env := by rfl) (hline : (p2.endLine == p3.line) = true := by rfl)
    (hs : swapsWith (.Call (.Attribute (.Name x p1) "reverse" p2) [] [] p3) none pos.line X.env = pure false := by rfl) : Es X (.Expr (.Call (.Attribute (.Name x p1) "reverse" p2) [] [] p3) pos) (yRev i) :=
  PS.imp (ps_expr (pe_bm0 PySem.F.plainAttrs_list PySem.F.slot_list_reverse PySem.F.type_list_reverse mt_reverse (pe_var hi hv hd hcd) hbase hline) hs) fun E σ H hh => by
  obtain ⟨p0, H0, ok0, S, o, ⟨O, r⟩, m, q⟩ := hh
  unfold yRev at m
  split at m
  · next ds hS =>
    cases m
    obtain ⟨p, vs, h1, h2, h3, h4⟩ := r.own i ds hS
    exact ⟨_, h1, .inl ⟨rfl, _, SqL.of h3⟩, p, vs, rfl, rfl, h3, q σ _ ⟨O, r.updOwn hS h1 sameX_upd upd_same (Reps.reverse (h4.keeps (r.keepX h2 h3 sameX_upd) fun _ g => g))⟩⟩
  · cases m
theorem ys_own {k j n : Nat} {g : List D → Option D} (i : Nat) (hN : X.N.Nodup) (cc : C8.Cal X.prog X.w X.K X.mg X.base k y (spD X.K n g) []) (hr : Room j X.A) (hk : k ≤ j) (hg : Gl X y) (ha : Ea X (e :: es) mr)
    (hi : X.N[i]? = some x := by rfl) (hx : Loc X.env.scope x := by first | exact Or.inl rfl | exact Or.inr rfl) (hs : swapsWith (.Call (.Name y p) (e :: es) [] p1) (some (.Name x pos')) pos.line X.env = pure false := by rfl)
    (hf : X.fn x = true ∨ X.env.scope.names.lookup x = some .local := by first | exact .inl rfl | exact .inr rfl)
    (hdb : (y == ("__debug__" : Str)) = false := by decide) (he : starEach (e :: es) X.env = (false, eval e X.env) :: starEach es X.env := by rfl) (hpl : (backTo p1 (starEach es X.env)).any (·.1) = false := by rfl) :
    Es X (.Assign [.Name x pos'] (.Call (.Name y p) (e :: es) [] p1) pos) (yOwn i n g mr) := PS.imp (ps_set hN hi hx (C8.pe_c cc hr hk hg ha hdb he hpl) hs hf) fun E σ H h => by
  obtain ⟨p0, H0, ok0, S, o, ⟨O, r⟩, m, q⟩ := h
  obtain ⟨as, e1, m⟩ := bind_some m
  split at m
  · next c =>
    obtain ⟨d, e2, m⟩ := bind_some m
    split at m
    · next ds =>
      split at m
      · next fd =>
        cases m
        refine ⟨_, _, as, r.closed, e1, fun vs H1 s1 rs => ⟨as, fun _ => False, _, by rw [List.append_nil]; exact rs.flat _ _ c.1, c.2, e2, fun v H' s rv => ?_⟩⟩
        cases rv with
        | lst g h rr => exact q _ H' ⟨_, (r.grow s1).putOwn (g.elim (fun z => z.elim) fun z => z) h s fd rr⟩
      · cases m
    · cases m
  · cases m
end

/-! ### the defs -/
def initX (n : Nat) (ds as : List D) : Sl := .din ds :: (as.map .dat ++ List.replicate (n - 1 - as.length) .un)
def endX (d : D) (S : Sl) : Option (D × List D) := match S.head? with
  | some (.din es) => if flat d = true ∧ flats es = true then some (d, es) else none
  | _ => none
def outX : Out → Option (D × List D)
  | .rt d S => endX d S
  | .nx S => endX .non S
  | _ => none
def runX (n : Nat) (m : Ms) (ds as : List D) : Option (D × List D) := (m (initX n ds as)).bind outX
theorem init_ROX {K : PySem.W.Frag} {p : Addr} {H : Hp} {ok : Addr → Prop} {ws rest : List V} {ds as : List D} {N : List Str} (hN : N.length ≠ 0) (hp : H p = some (.lst ws)) (fd : flats ds = true) (rd : Reps K H nol ws ds) (hn : ¬ ok p) (r : Reps K H ok rest as) :
    RO K p (off H fun a => a = p) ok (fun a => a = p) (initX N.length ds as) (L2.start N (.ref p :: rest)) H := by
  have hl : rest.length = as.length := r.length
  have at_ : ∀ (i : Nat) (s : SL), (initX N.length ds as)[i]? = some s → s ≠ .un → (i = 0 ∧ s = .din ds) ∨ ∃ j d, i = j + 1 ∧ s = .dat d ∧ as[j]? = some d := fun i s h hs => by
    cases i with
    | zero => exact .inl ⟨rfl, (Option.some.inj h).symm⟩
    | succ i =>
      have h' : (as.map SL.dat ++ List.replicate (N.length - 1 - as.length) .un)[i]? = some s := h
      by_cases c : i < as.length
      · rw [List.getElem?_append_left (by rw [List.length_map]; exact c), List.getElem?_map] at h'
        cases e : as[i]? with
        | none => rw [e] at h'; cases h'
        | some d => rw [e] at h'; exact .inr ⟨i, d, rfl, (Option.some.inj h').symm, e⟩
      · rw [List.getElem?_append_right (by rw [List.length_map]; omega), List.getElem?_replicate] at h'
        split at h'
        · cases h'; exact absurd rfl hs
        · cases h'
  have sm : Same (off H fun a => a = p) H := fun a o e => (off_some e).2
  refine ⟨sm, ?_, fun a h => by rw [h]; exact ⟨off_in rfl, ws, hp⟩, fun i d h => ?_, fun i es h => ?_, fun i j es fs q ne h h2 => ?_, fun i es h => ?_, fun i j es fs h h2 => ?_, fun i j es fs h h2 => ?_⟩
  · unfold initX L2.start
    simp only [List.length_cons, List.length_append, List.length_map, List.length_replicate, hl]
    omega
  · rcases at_ i _ h (by intro z; cases z) with ⟨_, e⟩ | ⟨j, d', rfl, e, e2⟩
    · cases e
    · cases e
      obtain ⟨v, h1, h2⟩ := r.get e2
      have hi : j < rest.length := (List.getElem?_eq_some_iff.mp h1).1
      refine ⟨v, ?_, (Rep.dom _ _ h2).keeps (Same.keeps (Same.refl _)) fun a g => ⟨.inl g.1, fun z => hn (by rw [← z]; exact g.1)⟩⟩
      unfold L2.start
      rw [List.getElem?_append_left (by rw [List.length_map]; exact Nat.succ_lt_succ hi), List.getElem?_map]
      show (rest[j]?).map some = _
      rw [h1]
      rfl
  · rcases at_ i _ h (by intro z; cases z) with ⟨_, e⟩ | ⟨j, d', rfl, e, e2⟩ <;> cases e
  · rcases at_ i _ h (by intro z; cases z) with ⟨_, e⟩ | ⟨j, d', rfl, e, e2⟩ <;> cases e
  · rcases at_ i _ h (by intro z; cases z) with ⟨rfl, e⟩ | ⟨j, d', rfl, e, e2⟩
    · cases e
      exact ⟨ws, rfl, rfl, hp, rd.keeps (Same.keeps (Same.refl _)) fun _ g => g.elim⟩
    · cases e
  · rcases at_ i _ h (by intro z; cases z) with ⟨_, e⟩ | ⟨j, d', rfl, e, e2⟩ <;> cases e
  · rcases at_ i _ h (by intro z; cases z) with ⟨rfl, e⟩ | ⟨_, d', rfl, e, e2⟩
    · rcases at_ j _ h2 (by intro z; cases z) with ⟨rfl, e⟩ | ⟨_, d', rfl, e, e2⟩
      · rfl
      · cases e
    · cases e
section
variable {P : Program} {w : World} {K : PySem.W.Frag} {mg : Str → Option Value} {base : Heap} {x qual : Str} {st : Stmt} {f : Addr} {fd : FuncData} {N ps : List Str} {k : Nat} {mb : Ms}
theorem fn_okX (F : Fun K x qual st f fd) (S : FnScope N ps (defScope st)) (hN : N.length ≠ 0)
    (hb : ∀ (cdv : Value) (A : Around) (outer : List Env) (s : Shared) (H : Hp) (E : XK), Room k (A.deeper (envOfC qual (defScope st) s.heap.objs.size f cdv)) → Ess (cxOf CX0 P w K mg base N qual (defScope st) f cdv A outer s H E).nox (defBody st) mb) :
    FnOk P w K mg base CX0 (k + 1) f fd ps (spX K ps.length (runX N.length mb)) := by
  refine F.ok S (fun vs H Q E h => ?_) (fun cdv A outer s H vs Q E hr h => ?_)
  · obtain ⟨p, ws, ds, ok, rest, as, d, es, rfl, _, _, _, _, r, hl, _⟩ := h
    rw [List.length_cons, r.length, hl]
  · obtain ⟨p, ws, ds, ok, rest, as, d, es, rfl, hp, fd, rd, hn, r, hl, hg, q⟩ := h
    obtain ⟨o, e1, e2⟩ := bind_some hg
    have fin : ∀ (v : V) (d' : D) (S' : Sl) (σ' : L2.St) (H' : Hp), RS K p (off H fun a => a = p) ok S' σ' H' → Rep K H' (ex ok (off H fun a => a = p)) v d' → endX d' S' = some (d, es) → Q v H' := fun v d' S' σ' H' ⟨O, r'⟩ rv e => by
      unfold endX at e
      split at e
      · next gs hS =>
        split at e
        · next c =>
          cases e
          obtain ⟨us, g1, g2, g3, g4⟩ := r'.din 0 _ (by rw [← List.head?_eq_getElem?]; exact hS)
          exact q v H' us (fun a o ne e => r'.same a o ((off_of (H := H) (O := fun a => a = p) ne).trans e)) g3 (g4.flat _ _ c.2) (rv.flat _ _ c.1)
        · cases e
      · cases e
    refine ⟨_, hb cdv A outer s H E hr, p, _, ok, _, o, ⟨_, init_ROX hN hp fd rd hn r⟩, e1, ?_⟩
    cases o with
    | rt d' S' => exact fun v σ' H' r' rv => fin v d' S' σ' H' r' rv e2
    | nx S' => exact fun σ' H' r' => fin .non .non S' σ' H' r' .non e2
    | bk S' => cases e2
    | ct S' => cases e2
end

/-! ### more words -/
def divW : D → D → Option D
  | .int i, .int j => if 0 < j ∧ j < 18446744073709551616 then some (.int (i / j)) else none
  | _, _ => none
def intB : List D → Option D
  | [.bl k] => some (.int (if k then 1 else 0))
  | _ => none
section
variable {K : PySem.W.Frag}
theorem od_divW : OpD K (rI CDivW fun i j => .int (i / j)) divW := odI fun x y z e => by
  unfold divW at e
  split at e
  · next i j =>
    by_cases c : 0 < j ∧ j < 18446744073709551616
    · rw [if_pos c] at e
      cases e
      exact ⟨i, j, rfl, rfl, wide_div (b := 64) c.1 (by omega) (by omega) (by omega), fun _ _ => .int _⟩
    · rw [if_neg c] at e
      cases e
  · cases e
theorem cd_intB : CaD K (fun xs H Q => (∃ i, xs = [.int i] ∧ Q (.int i) H) ∨ ∃ k, xs = [.bl k] ∧ Q (.int (if k then 1 else 0)) H) intB := fun vs ds z H ok Q rs e q => by
  cases rs with
  | nil => cases e
  | cons a r =>
    cases r with
    | nil =>
      cases a with
      | bl k => cases e; exact .inr ⟨k, rfl, q _ H (Same.refl H) (.int _)⟩
      | _ => cases e
    | cons a2 r2 => cases a <;> cases e
end
section
variable {X : Cx} {a b : Expr} {ma mb : Mi} {pos : Pos}
theorem ev_divW (ha : Ev X a ma) (hb : Ev X b mb) : Ev X (.BinOp a .FloorDiv b pos) (m2 divW ma mb) := ev_bin op_fdivW od_divW ha hb
end
end Ice

/-! len of a dict; a pair of an own list to names -/
namespace Ice
open PySem PySem.Spec PyProof.Rows L2
def lenA : List D → Option D
  | [.tup ds] => some (.int ds.length)
  | [.lst ds] => some (.int ds.length)
  | [.fz ds] => some (.int ds.length)
  | [.dic ks _] => some (.int ks.length)
  | _ => none
theorem cd_lenA {K : PySem.W.Frag} : CaD K (fun xs H Q => (∃ p ys, xs = [.ref p] ∧ (SqL K H p ys ∨ SqT K H p ys) ∧ Q (.int ys.length) H) ∨ rLenT xs H Q) lenA := fun vs ds z H ok Q rs e q => by
  cases rs with
  | nil => cases e
  | cons a r =>
    cases r with
    | nil =>
      cases a with
      | tup h r => cases e; exact .inl ⟨_, _, rfl, .inr (SqT.of h), by rw [r.length]; exact q _ H (Same.refl H) (.int _)⟩
      | lst o h r => cases e; exact .inl ⟨_, _, rfl, .inl (SqL.of h), by rw [r.length]; exact q _ H (Same.refl H) (.int _)⟩
      | fz h r => cases e; exact .inl ⟨_, _, rfl, Or.inl h.sq, by rw [r.length]; exact q _ H (Same.refl H) (.int _)⟩
      | dic o h l r =>
        cases e
        refine .inr ⟨_, _, rfl, h, ?_⟩
        rw [List.length_zip, ← l, Nat.min_self]
        exact q _ H (Same.refl H) (.int _)
      | _ => cases e
    | cons a2 r2 => cases a <;> cases e
def sUnpF (t : Tg) (m : Mi) : Ms := fun S => (m (op S)).bind fun d => if flat d = true then (asgL t d S).map .nx else none
section
variable {X : Cx} {e : Expr} {pos : Pos}
theorem es_unpF {tg : Expr} {me : Mi} {t : Tg} (he : Ev X e me) (hg : El X tg t) (hs : swapsWithSole [tg] e pos.line X.env = pure false := by rfl) (hw : swappedStores [tg] e X.env = pure none := by rfl) (h1 : (assignEach [tg] X.env).map (fun x => x.2) = [assign tg X.env] := by rfl) : Es X (.Assign [tg] e pos) (sUnpF t me) :=
  PS.imp (ps_asg he hg hs hw (h1 := h1)) fun E σ H h => by
    obtain ⟨p0, H0, ok0, S, o, ⟨O, r⟩, m, q⟩ := h
    obtain ⟨d, e1, m⟩ := bind_some m
    split at m
    · next fd =>
      obtain ⟨S1, e2, m⟩ := map_some m
      subst m
      exact ⟨_, _, d, r.opened, e1, fun v H' s rv => ⟨p0, H0, ok0, O, S, d, S1, r.grow s, rv.flat _ _ fd, e2, fun σ' r' => q σ' H' ⟨O, r'⟩⟩⟩
    · cases m
end
end Ice

/-! the head: facts by names, one more look -/
namespace Ice
open PySem PySem.Spec PyProof.Rows L2
abbrev AlI : Type := He.Al × Bool
def obI (n : Nat) (fa : List He.Fa) (fn : List He.FnD) (ex : PySem.W.Frag → Bool) (g : Addr → Option Obj) : AlI := (He.obsE fa fn (He.frG g (He.asG g n)), ex (He.frG g (He.asG g n)))
def hookI (n : Nat) (fa : List He.Fa) (fn : List He.FnD) (ex : PySem.W.Frag → Bool) : PySem.W.Hook where
  α := AlI
  obs := fun s => obI n fa fn ex s.heap.get?
  val := fun _ => (He.valE fn, true)
  says := fun _ h => ∃ K : PySem.W.Frag, K.In h ∧ He.SaysE fa fn K ∧ ex K = true
  of := fun _ _ e => ⟨_, He.frG_in, congrArg (fun z : AlI => z.1) e, congrArg (fun z : AlI => z.2) e⟩
  keeps := fun _ _ _ ⟨K, hK, c, d⟩ k => ⟨K, PySem.W.Frag.In.keeps hK k, c, d⟩
theorem obI_eq {n : Nat} {fa : List He.Fa} {fn : List He.FnD} {ex : PySem.W.Frag → Bool} {g : Addr → Option Obj} {s : Shared} (h : ∀ a, g a = s.heap.get? a) : obI n fa fn ex g = (hookI n fa fn ex).obs s := by
  have e : g = s.heap.get? := funext h
  rw [e] <;> rfl
/-! data of the written part -/
def vOf : Value → V
  | .int i _ => .int i
  | .ref a => .ref a
  | _ => .non
mutual
def wtB (K : PySem.W.Frag) : Value → D → Bool
  | .int j _, .int i => decide (j = i)
  | .ref a, .wt ds => match K.lookup a with
    | some ⟨.type c, _, .seq its _, _⟩ => decide (c = "tuple") && (decide (its.size ≤ sizeLine) && wtsB K its.toList ds)
    | _ => false
  | _, _ => false
def wtsB (K : PySem.W.Frag) : List Value → List D → Bool
  | [], [] => true
  | v :: vs, d :: ds => wtB K v d && wtsB K vs ds
  | _, _ => false
end
mutual
theorem wtB_ok {K : PySem.W.Frag} {H : Hp} {ok : Addr → Prop} : ∀ (d : D) (v : Value), wtB K v d = true → Rep K H ok (vOf v) d ∧ RelV (vOf v) v
  | .int i, v, h => by
    cases v with
    | int j t =>
      have h' : decide (j = i) = true := by unfold wtB at h; exact h
      have e := of_decide_eq_true h'
      subst e
      exact ⟨.int _, t, rfl⟩
    | _ => unfold wtB at h; cases h
  | .wt ds, v, h => by
    cases v with
    | ref a =>
      unfold wtB at h
      cases q : K.lookup a with
      | none => rw [q] at h; cases h
      | some o =>
        obtain ⟨oc, od, dt, osl⟩ := o
        rw [q] at h
        cases oc with
        | type c =>
          cases dt with
          | seq its n =>
            obtain ⟨h1, h2⟩ := He.ba (show (decide (c = "tuple") && (decide (its.size ≤ sizeLine) && wtsB K its.toList ds)) = true from h)
            obtain ⟨h3, h4⟩ := He.ba h2
            obtain ⟨r, z⟩ := wtsB_ok ds its.toList h4
            exact ⟨.wt (.inr ⟨_, its, n, q, congrArg Value.type (of_decide_eq_true h1), rfl, of_decide_eq_true h3, z⟩) r, rfl⟩
          | _ => cases h
        | _ => cases dt <;> cases h
    | _ => unfold wtB at h; cases h
  | .non, v, h => by cases v <;> (unfold wtB at h; cases h)
  | .bl _, v, h => by cases v <;> (unfold wtB at h; cases h)
  | .str _, v, h => by cases v <;> (unfold wtB at h; cases h)
  | .tup _, v, h => by cases v <;> (unfold wtB at h; cases h)
  | .lst _, v, h => by cases v <;> (unfold wtB at h; cases h)
  | .fz _, v, h => by cases v <;> (unfold wtB at h; cases h)
  | .dic _ _, v, h => by cases v <;> (unfold wtB at h; cases h)
  | .raw _, v, h => by cases v <;> (unfold wtB at h; cases h)
theorem wtsB_ok {K : PySem.W.Frag} {H : Hp} {ok : Addr → Prop} : ∀ (ds : List D) (vs : List Value), wtsB K vs ds = true → Reps K H ok (vs.map vOf) ds ∧ Vals (vs.map vOf) vs
  | [], [], _ => ⟨.nil, .nil⟩
  | [], _ :: _, h => by unfold wtsB at h; cases h
  | _ :: _, [], h => by unfold wtsB at h; cases h
  | d :: ds, v :: vs, h => by
    unfold wtsB at h
    obtain ⟨h1, h2⟩ := He.ba h
    obtain ⟨a1, a2⟩ := wtB_ok (H := H) (ok := ok) d v h1
    obtain ⟨b1, b2⟩ := wtsB_ok (H := H) (ok := ok) ds vs h2
    exact ⟨.cons a1 b1, .cons a2 b2⟩
end
/-- the module's name x stands for this -/
def exB (x : Str) (d : D) (K : PySem.W.Frag) : Bool := match PySem.W.nsIn K mainGlobals x with
  | some (some (.ref a)) => wtB K (.ref a) d
  | _ => false
section
variable {P : Program} {w : World} {K : PySem.W.Frag} {mg : Str → Option Value} {base : Heap} {h : Heap} {fa : List He.Fa} {fn : List He.FnD}
theorem exB_ok (X : K.In h) (G : h.Ns mainGlobals mg) {x : Str} {d : D} (e : exB x d K = true) : ∃ p, mg x = some (.ref p) ∧ ∀ H ok, Rep K H ok (.ref p) d := by
  unfold exB at e
  cases q : PySem.W.nsIn K mainGlobals x with
  | none => rw [q] at e; cases e
  | some o =>
    rw [q] at e
    cases o with
    | none => cases e
    | some v =>
      cases v with
      | ref a => exact ⟨a, PySem.W.mg_of X G q, fun H ok => (wtB_ok d (.ref a) e).1⟩
      | _ => cases e
def fnI (x : Str) (st : Stmt) : He.FnD := ⟨(x, none), x, x, defArgs st, defBody st, defScope st⟩
/-- a def of the top, by its name -/
theorem def_at (X : K.In h) (G : h.Ns mainGlobals mg) (c : He.SaysE fa fn K) (x : Str) (st : Stmt) (i j k : Nat) (h1 : fn[i]? = some (fnI x st)) (h2 : fa[j]? = some (.glo x)) (h3 : fa[k]? = some (.keep x)) :
    ∃ fd, L2.Fun K x x st (He.ga K x) fd ∧ mg x = some (.ref (He.ga K x)) := by
  obtain ⟨oc, od, osl, kV, doc, pm, an, cdv, ct, l, cc⟩ := c.def_ i h1
  exact ⟨_, fun_mk l cc (He.keep_ok (c.fact k h3)), He.glo_ok X G (c.fact j h2)⟩
theorem cal_of {x : Str} {st : Stmt} {f : Addr} {fd : FuncData} {ps : List Str} {k : Nat} {sp : Sp} (F : L2.Fun K x x st f fd) (m : mg x = some (.ref f)) (o : FnOk P w K mg base CX0 k f fd ps sp)
    (b : ∀ (kV doc pm : Value) (an : Option Addr) (cdv ct : Value) (us : List Value), us.length = ps.length → bindArgs (PySem.W.fnOf x x (defArgs st) (defBody st) (defScope st) .none kV doc pm an cdv ct) ⟨us, []⟩ = pure (ps.zip us)) : C8.Cal P w K mg base k x sp [] :=
  ⟨f, fd, ps, [], o, m, F.kp, F.binds b, .nil⟩
theorem binds_to {x y : Str} {st : Stmt} {f : Addr} {fd : FuncData} (F : L2.Fun K x x st f fd) (h : ∀ (kV doc pm : Value) (an : Option Addr) (cdv ct : Value) (v : Value), bindArgs (PySem.W.fnOf x x (defArgs st) (defBody st) (defScope st) .none kV doc pm an cdv ct) ⟨[v], []⟩ = pure [(y, v)]) (s : Shared) (v : Value) : BindsTo s fd ⟨[v], []⟩ [(y, v)] := by
  obtain ⟨oc, od, kV, doc, pm, an, cdv, ct, osl, rfl, lk, hcd⟩ := F.ex
  exact .of_eq (h kV doc pm an cdv ct v)
end
/-! the script -/
theorem frz_ints {K : PySem.W.Frag} {H : Hp} {ok : Addr → Prop} : ∀ (ns : List Int), Reps K H ok (ns.map V.int) (ns.map D.int)
  | [] => .nil
  | n :: ns => .cons (.int n) (frz_ints ns)
theorem script_rep {K : PySem.W.Frag} {H : Hp} {a : Addr} {ns : List Int} (O : Only H) (s : SqL K H a (ns.map V.int)) : Rep K H (fun _ => False) (.ref a) (.fz (ns.map .int)) := by
  refine .fz ?_ (frz_ints ns)
  rcases s with (s | s) | s
  · rcases O a with e | ⟨o, xs, e⟩
    · rw [e] at s; cases s
    · rw [e] at s; cases s
  · exact .inl s
  · exact .inr s
end Ice

/-! texts; slices and sums of tuples; extend, index -/
namespace Ice
open PySem PySem.Spec PyProof.Rows L2
/-! ### texts -/
def strsOf : List D → Option (List Str)
  | [] => some []
  | .str x :: r => (strsOf r).map fun k => x :: k
  | _ => none
def strF : List D → Option D
  | [.int i] => if i.natAbs.log2 < 1920 then some (.str (toString i)) else none
  | _ => none
def joinS (a : Str) (ds : List D) : Option D := (strsOf ds).bind fun ys => if (ys.map (·.length)).sum + ys.length * a.length ≤ 16777216 then some (.str (Txt.join a ys)) else none
def joinD : D → D → Option D
  | .str a, .lst ds => joinS a ds
  | .str a, .tup ds => joinS a ds
  | _, _ => none
theorem joinD_some {x y d : D} (h : joinD x y = some d) : ∃ a ds, x = .str a ∧ (y = .lst ds ∨ y = .tup ds) ∧ joinS a ds = some d := by
  unfold joinD at h
  split at h
  · exact ⟨_, _, rfl, .inl rfl, h⟩
  · exact ⟨_, _, rfl, .inr rfl, h⟩
  · cases h
theorem strs_rep {K : PySem.W.Frag} {H : Hp} {ok : Addr → Prop} : ∀ {ds : List D} {vs : List V} {ys : List Str}, Reps K H ok vs ds → strsOf ds = some ys → vs = ys.map V.str
  | [], _, ys, r, e => by
    cases r
    cases e
    rfl
  | d :: ds, _, ys, r, e => by
    cases r with
    | cons a r =>
      cases d with
      | str x =>
        obtain ⟨k, e1, rfl⟩ := map_some (show (strsOf ds).map (fun k => x :: k) = some ys from e)
        cases a
        rw [strs_rep r e1]
        rfl
      | _ => cases e
theorem cd_str {K : PySem.W.Frag} : CaD K (fun xs H Q => ∃ i, xs = [.int i] ∧ i.natAbs.log2 < 1920 ∧ Q (.str (toString i)) H) strF := fun vs ds z H ok Q rs e q => by
  cases rs with
  | nil => cases e
  | cons a r =>
    cases r with
    | nil =>
      cases a with
      | int i =>
        have e' : (if i.natAbs.log2 < 1920 then some (D.str (toString i)) else none) = some z := e
        split at e'
        · next c => cases e'; exact ⟨i, rfl, c, q _ H (Same.refl H) (.str _)⟩
        · cases e'
      | _ => cases e
    | cons a2 r2 => cases a <;> cases e
section
variable {X : Cx} {e o : Expr} {ma mb : Mi} {pos apos : Pos} {x : Str}
theorem ev_gs {z : Str} (hg : Gl X x) (hm : ∃ t, X.mg x = some (.str z t)) (hd : (x == ("__debug__" : Str)) = false := by decide) : Ev X (.Name x pos) (mC (.str z)) := by
  obtain ⟨t, hm⟩ := hm
  exact ev_c (pe_glob hg hm (v := .str z) ⟨t, rfl⟩ hd) fun _ _ => .str z
theorem ev_join (ho : Ev X o ma) (he : Ev X e mb) (hs : starEach [e] X.env = [(false, eval e X.env)] := by rfl) (hbase : attributeBase o "join" X.env (eval o X.env) = eval o X.env := by rfl) (hline : (apos.endLine == pos.line) = true := by rfl) :
    Ev X (.Call (.Attribute o "join" apos) [e] [] pos) (m2 joinD ma mb) := PE.imp (pe_join ho he hs hbase hline) fun σ H Q h => by
  obtain ⟨ok, S, d, rs, m, q⟩ := h
  obtain ⟨x, h1, m⟩ := bind_some m
  obtain ⟨y, h2, m⟩ := bind_some m
  have go : ∀ (a : Str) (ds : List D), x = .str a → joinS a ds = some d → (∀ {H' : Hp} {v : V}, Rep X.K H' (ex ok H) v y → ∃ p vs, v = .ref p ∧ (SqL X.K H' p vs ∨ SqT X.K H' p vs) ∧ Reps X.K H' (ex ok H) vs ds) →
      tM1 (fun x xs H Q => ∃ a p, ∃ ys : List Str, x = .str a ∧ xs = [.ref p] ∧ (SqL X.K H p (ys.map V.str) ∨ SqT X.K H p (ys.map V.str)) ∧ (ys.map (·.length)).sum + ys.length * a.length ≤ 16777216 ∧ Q (.str (Txt.join a ys)) H) (tE X.K ma) (tE X.K mb) σ H Q := fun a ds hx hj hr => by
    subst hx
    obtain ⟨ys, hy, m2⟩ := bind_some hj
    split at m2
    · next c =>
      cases m2
      refine ⟨ok, S, .str a, rs, h1, fun vx H1 s1 rx => ?_⟩
      cases rx
      refine ⟨⟨_, rfl⟩, ok, S, y, rs.keeps (Same.keeps s1) (fun _ z => z), h2, fun vy H2 s2 ry => ?_⟩
      obtain ⟨p, vs, rfl, hq, rr⟩ := hr (ry.keeps (Same.keeps (Same.refl _)) (ex_ex s1))
      have ev := strs_rep rr hy
      subst ev
      exact ⟨a, p, ys, rfl, rfl, hq, c, q _ H2 (s1.trans s2) (.str _)⟩
    · cases m2
  obtain ⟨a, ds, ha, hy, hj⟩ := joinD_some m
  refine go a ds ha hj fun {H' v} r => ?_
  rcases hy with rfl | rfl
  · cases r with
    | lst o h r => exact ⟨_, _, rfl, .inl (SqL.of h), r⟩
  · cases r with
    | tup h r => exact ⟨_, _, rfl, .inr (SqT.of h), r⟩
end
/-! ### slices -/
abbrev Mo := Sd → Option (Option Int)
def tO (K : PySem.W.Frag) (m : Mo) : TO := fun σ H Q => ∃ ok S i, Rs K H ok S σ ∧ m S = some i ∧ ∀ H', Same H H' → Q i H'
abbrev Eo (X : Cx) (e : Option Expr) (m : Mo) : Prop := PO X e (tO X.K m)
def oN : Mo := fun _ => some none
def oS (m : Mi) : Mo := fun S => (m S).bind fun d => match d with
  | .int i => some (some i)
  | _ => none
theorem PO.imp {X : Cx} {e : Option Expr} {t t' : TO} (h : PO X e t) (g : ∀ σ H Q, t' σ H Q → t σ H Q) : PO X e t' := ⟨fun pins s σ H Q I q => h.run pins s σ H Q I (g σ H Q q)⟩
def cutD (xs : List D) (lo hi : Option Int) : List D := (xs.drop (HT.sIx xs.length 0 lo)).take (HT.sIx xs.length xs.length hi - HT.sIx xs.length 0 lo)
def slD : D → Option Int → Option Int → Option D
  | .lst ds, lo, hi => some (.lst (cutD ds lo hi))
  | .tup ds, lo, hi => some (.tup (cutD ds lo hi))
  | _, _, _ => none
theorem slD_some {x d : D} {l u : Option Int} (h : slD x l u = some d) : (∃ ds, x = .lst ds ∧ d = .lst (cutD ds l u)) ∨ ∃ ds, x = .tup ds ∧ d = .tup (cutD ds l u) := by
  unfold slD at h
  split at h
  · cases h; exact .inl ⟨_, rfl, rfl⟩
  · cases h; exact .inr ⟨_, rfl, rfl⟩
  · cases h
def mSl (m : Mi) (lo hi : Mo) : Mi := fun S => (m S).bind fun d => (lo S).bind fun l => (hi S).bind fun h => slD d l h
theorem Reps.drop {K : PySem.W.Frag} {ok : Addr → Prop} {H : Hp} : ∀ (n : Nat) {vs : List V} {ds : List D}, Reps K H ok vs ds → Reps K H ok (vs.drop n) (ds.drop n)
  | 0, _, _, r => r
  | n + 1, _, _, .nil => .nil
  | n + 1, _, _, .cons a r => Reps.drop n r
theorem Reps.take {K : PySem.W.Frag} {ok : Addr → Prop} {H : Hp} : ∀ (n : Nat) {vs : List V} {ds : List D}, Reps K H ok vs ds → Reps K H ok (vs.take n) (ds.take n)
  | 0, _, _, _ => .nil
  | n + 1, _, _, .nil => .nil
  | n + 1, _, _, .cons a r => .cons a (Reps.take n r)
theorem Reps.cut {K : PySem.W.Frag} {ok : Addr → Prop} {H : Hp} {vs : List V} {ds : List D} (r : Reps K H ok vs ds) (lo hi : Option Int) : Reps K H ok (cutV vs lo hi) (cutD ds lo hi) := by
  unfold cutV cutD
  rw [r.length]
  exact Reps.take _ (Reps.drop _ r)
section
variable {X : Cx} {e : Expr} {lo hi : Option Expr} {ma : Mi} {ml mh : Mo} {pos p2 : Pos}
theorem eo_none : Eo X none oN := PO.imp po_none fun σ H Q h => by
  obtain ⟨ok, S, i, rs, m, q⟩ := h
  cases m
  exact q H (Same.refl H)
theorem eo_some (he : Ev X e ma) : Eo X (some e) (oS ma) := PO.imp (po_some he) fun σ H Q h => by
  obtain ⟨ok, S, i, rs, m, q⟩ := h
  obtain ⟨d, h1, m⟩ := bind_some m
  split at m
  · next j =>
    cases m
    refine ⟨ok, S, _, rs, h1, fun v H' s r => ?_⟩
    cases r
    exact ⟨_, rfl, q H' s⟩
  · cases m
theorem ev_slice (he : Ev X e ma) (hl : Eo X lo ml) (hu : Eo X hi mh) : Ev X (.Subscript e (.Slice lo hi none p2) pos) (mSl ma ml mh) := PE.imp (pe_slice (SlR.or sl_list sl_tupA) he hl hu) fun σ H Q h => by
  obtain ⟨ok, S, d, rs, m, q⟩ := h
  obtain ⟨x, h1, m⟩ := bind_some m
  obtain ⟨l, h2, m⟩ := bind_some m
  obtain ⟨u, h3, m⟩ := bind_some m
  refine ⟨ok, S, x, rs, h1, fun vx H1 s1 rx => ⟨ok, S, l, rs.keeps (Same.keeps s1) (fun _ z => z), h2, fun H2 s2 => ⟨ok, S, u, rs.keeps (Same.keeps (s1.trans s2)) (fun _ z => z), h3, fun H3 s3 => ?_⟩⟩⟩
  have s := s1.trans (s2.trans s3)
  have rx3 := rx.keeps (Same.keeps (s2.trans s3)) fun _ z => z
  rcases slD_some m with ⟨ds, rfl, rfl⟩ | ⟨ds, rfl, rfl⟩
  · cases rx3 with
    | lst o h r =>
      exact .inl ⟨_, _, rfl, SqL.of h, fun p hp => q _ _ (s.trans (same_new hp)) (.lst (.inr (s.free hp)) upd_same ((r.cut l u).keeps (Same.keeps (same_new hp)) fun _ z => z))⟩
  · cases rx3 with
    | tup h r =>
      refine .inr ⟨_, _, rfl, SqT.of h, fun c => ?_, fun c p hp => q _ _ (s.trans (same_new hp)) (.tup upd_same ((r.cut l u).keeps (Same.keeps (same_new hp)) fun _ z => z))⟩
      refine q _ _ s (.tup h ?_)
      have e1 : cutD ds l u = ds := by
        unfold cutD
        rw [← r.length, c.1, c.2, r.length, List.drop_zero, Nat.sub_zero]
        exact List.take_length
      rw [e1]
      exact r
/-! ### sums of tuples -/
def catD : D → D → Option D
  | .tup xs, .tup ys => if xs.length + ys.length ≤ 1000000 then some (.tup (xs ++ ys)) else none
  | _, _ => none
theorem od_cat {K : PySem.W.Frag} : OpD K (rCatA K) catD := fun vx vy x y z H ok Q rx ry e q => by
  unfold catD at e
  split at e
  · next xs ys =>
    split at e
    · next c =>
      cases e
      cases rx with
      | tup h1 r1 =>
        cases ry with
        | tup h2 r2 =>
          refine ⟨_, _, _, _, rfl, rfl, SqT.of h1, SqT.of h2, ?_, fun n => ?_, fun _ n => ?_, fun _ _ p hp => q _ _ (same_new hp) (.tup upd_same (Reps.append (r1.keeps (Same.keeps (same_new hp)) ex_of) (r2.keeps (Same.keeps (same_new hp)) ex_of)))⟩
          · rw [r1.length, r2.length]
            exact Nat.le_trans c (by decide)
          · subst n
            cases r1
            exact q _ H (Same.refl H) (rep_here (.tup h2 r2))
          · subst n
            cases r2
            exact q _ H (Same.refl H) (by rw [List.append_nil]; exact rep_here (.tup h1 r1))
    · cases e
  · cases e
theorem ev_cat {a b : Expr} {mb : Mi} (ha : Ev X a ma) (hb : Ev X b mb) : Ev X (.BinOp a .Add b pos) (m2 catD ma mb) := ev_bin op_catA od_cat ha hb
end
/-! ### index, extend -/
def idxN : List Int → Int → Option Nat
  | [], _ => none
  | n :: ns, i => if n = i then some 0 else (idxN ns i).map fun j => j + 1
def indexD : D → D → Option D
  | .lst ds, .int i => (intsOf ds).bind fun ns => (idxN ns i).map fun j => .int (j : Nat)
  | _, _ => none
theorem idxN_ok : ∀ {ns : List Int} {i : Int} {j : Nat}, idxN ns i = some j → ns[j]? = some i ∧ ∀ (m : Nat) (z : Int), m < j → ns[m]? = some z → z ≠ i
  | [], _, _, h => by cases h
  | n :: ns, i, j, h => by
    unfold idxN at h
    split at h
    · next c =>
      cases h
      exact ⟨by rw [c]; rfl, fun m z hm _ => absurd hm (Nat.not_lt_zero _)⟩
    · next c =>
      obtain ⟨k, h1, rfl⟩ := map_some h
      obtain ⟨a, b⟩ := idxN_ok h1
      refine ⟨a, fun m z hm hz => ?_⟩
      cases m with
      | zero =>
        cases hz
        exact c
      | succ m => exact b m z (Nat.lt_of_succ_lt_succ hm) hz
theorem all_flat : ∀ (ns : List Int), (ns.map V.int).all flatV = true
  | [] => rfl
  | _ :: ns => all_flat ns
def sExt (i : Nat) (m : Mi) : Ms := fun S => match S[i]? with
  | some (.own ds) => (m (cl S)).bind fun d => match d with
    | .lst es => if ds.length + es.length < 1000000 then some (.nx (S.set i (.own (ds ++ es)))) else none
    | _ => none
  | _ => none
section
variable {X : Cx} {e o : Expr} {ma me : Mi} {pos : Pos} {x : Str} {p1 p2 p3 : Pos}
theorem ev_index (ho : Ev X o ma) (he : Ev X e me) (hbase : attributeBase o "index" X.env (eval o X.env) = eval o X.env := by rfl)
    (hfew : ((backTo p3 (starEach [e] X.env)).all (fun x => !x.1) && (backToKw p3 (keywordEach [] X.env)).all (fun x => x.1.isSome) && decide ([e].length + ([] : List Keyword).length + (if ([] : List Keyword).isEmpty then 0 else 1) < 30)) = true := by rfl)
    (hline : (p2.endLine == p3.line) = true := by rfl) (hs : starEach [e] X.env = (false, eval e X.env) :: starEach [] X.env := by rfl) (hplain : (backTo p3 (starEach [] X.env)).any (fun x => x.1) = false := by rfl) :
    Ev X (.Call (.Attribute o "index" p2) [e] [] p3) (m2 indexD ma me) :=
  PE.imp (pe_bm PySem.F.plainAttrs_list PySem.F.slot_list_index PySem.F.type_list_index mt_index ho (ea_cons he ea_nil hs) hbase hfew hline hs hplain) fun σ H Q h => by
    obtain ⟨ok, S, d, rs, m, q⟩ := h
    obtain ⟨x, h1, m⟩ := bind_some m
    obtain ⟨y, h2, m⟩ := bind_some m
    cases x with
    | lst ds =>
      cases y with
      | int i =>
        obtain ⟨ns, e1, m⟩ := bind_some (show ((intsOf ds).bind fun ns => (idxN ns i).map fun j => D.int (j : Nat)) = some d from m)
        obtain ⟨j, e2, rfl⟩ := map_some m
        refine ⟨ok, S, _, rs, h1, fun vx H1 s1 rx => ?_⟩
        cases rx with
        | lst g hh r =>
          have ev := ints_ok r e1
          subst ev
          refine ⟨.inl ⟨rfl, _, SqL.of hh⟩, ok, S, [.int i], rs.keeps (Same.keeps s1) (fun _ z => z), ?_, fun us H2 s2 ru => ?_⟩
          · show (me S).bind (fun x => some [x]) = _
            rw [h2]
            rfl
          · cases ru with
            | cons rv ru =>
              cases ru
              cases rv
              obtain ⟨a, b⟩ := idxN_ok e2
              exact ⟨_, _, .int i, j, .int i, rfl, rfl, SqL.of (s2 _ _ hh), rfl, all_flat ns, by rw [List.getElem?_map, a]; rfl, beq_self_eq_true i, fun k z' hk hz => by
                rw [List.getElem?_map] at hz
                obtain ⟨z, h3, rfl⟩ := map_some hz
                exact beq_eq_false_iff_ne.mpr (b k z hk h3), q _ H2 (s1.trans s2) (.int _)⟩
      | _ => cases m
    | _ => cases m
theorem pe_ext (i : Nat) (he : Ev X e me) (hi : X.N[i]? = some x := by rfl) (hv : Vis X.env.scope x := by first | exact Or.inl rfl | exact Or.inr (Or.inl rfl) | exact Or.inr (Or.inr rfl))
    (hd : (x == ("__debug__" : Str)) = false := by decide) (hcd : (x == ("__classdict__" : Str)) = false := by decide)
    (hbase : attributeBase (.Name x p1) "extend" X.env (eval (.Name x p1) X.env) = eval (.Name x p1) X.env := by rfl)
    (hfew : ((backTo p3 (starEach [e] X.env)).all (fun x => !x.1) && (backToKw p3 (keywordEach [] X.env)).all (fun x => x.1.isSome) && decide ([e].length + ([] : List Keyword).length + (if ([] : List Keyword).isEmpty then 0 else 1) < 30)) = true := by rfl)
    (hline : (p2.endLine == p3.line) = true := by rfl) (hs : starEach [e] X.env = (false, eval e X.env) :: starEach [] X.env := by rfl) (hplain : (backTo p3 (starEach [] X.env)).any (fun x => x.1) = false := by rfl) :
    PE X (.Call (.Attribute (.Name x p1) "extend" p2) [e] [] p3) (tBM X.K "list" rExtend (tVar i) (tA X.K (aCons me aNil))) :=
  pe_bm PySem.F.plainAttrs_list PySem.F.slot_list_extend PySem.F.type_list_extend mt_extend (pe_var hi hv hd hcd) (ea_cons he ea_nil hs) hbase hfew hline hs hplain
theorem es_ext (i : Nat) (h : PE X (.Call (.Attribute (.Name x p1) "extend" p2) [e] [] p3) (tBM X.K "list" rExtend (tVar i) (tA X.K (aCons me aNil))))
    (hs : swapsWith (.Call (.Attribute (.Name x p1) "extend" p2) [e] [] p3) none pos.line X.env = pure false := by rfl) : Es X (.Expr (.Call (.Attribute (.Name x p1) "extend" p2) [e] [] p3) pos) (sExt i me) := PS.imp (ps_expr h hs) fun E σ H hh => by
  obtain ⟨p0, H0, ok0, S, o, ⟨O, r⟩, m, q⟩ := hh
  unfold sExt at m
  split at m
  · next ds hS =>
    obtain ⟨d, e1, m⟩ := bind_some m
    cases d with
    | lst es =>
      have m' : (if ds.length + es.length < 1000000 then some (Out.nx (S.set i (.own (ds ++ es)))) else none) = some o := m
      split at m'
      · next hl =>
        cases m'
        obtain ⟨p, vs, h1, h2, h3, h4⟩ := r.own i ds hS
        refine ⟨_, h1, .inl ⟨rfl, _, SqL.of h3⟩, _, _, [.lst es], r.closed, ?_, fun us H' s ru => ?_⟩
        · show (me (cl S)).bind (fun x => some [x]) = _
          rw [e1]
          rfl
        · cases ru with
          | cons rv ru =>
            cases ru
            cases rv with
            | lst g hb rr =>
              rename_i pb zs
              have hp : H' p = some (.lst vs) := s _ _ h3
              have r' := r.grow s
              have kp := r'.keepX h2 hp (sameX_upd (o := .lst (vs ++ zs)))
              refine ⟨p, _, vs, _, rfl, rfl, hp, hb, ?_, q σ _ ⟨O, r'.updOwn hS h1 sameX_upd upd_same (Reps.append ((h4.keeps (Same.keeps s) fun _ z => z).keeps kp fun _ z => z) ((rr.keeps (Same.keeps (Same.refl _)) fun a h => good_new r h).keeps kp fun _ z => z))⟩⟩
              rw [h4.length, rr.length]
              exact Nat.le_trans (Nat.le_of_lt hl) (by decide)
      · cases m'
    | _ => cases m
  · cases m
end
end Ice

/-! a name to a comprehension on one line -/
namespace Ice
open PySem PySem.Spec PyProof.Rows L2
section
variable {X : Cx} {elt tg iter tg1 iter1 : Expr} {ifs ifs1 : List Expr} {scope : Scope} {pos spos py : Pos} {mi mi1 : Ma} {t t1 : Tg} {tt tt1 : Mt} {me : Mi} {y : Str}
theorem es_lc (i : Nat) (own : List (Str × Nat)) (hN : X.N.Nodup) (hi : Ei X tg iter mi) (ok : BlkOk X.N X.env.scope scope own)
    (hg : ∀ (s : Shared) (H : Hp) (C : Addr) (cl : List (Str × Addr)) (fp : List Addr), Eg (X.blk s H scope (compEnvC scope cl C X.env) fp) tg t) (ht : ∀ (s : Shared) (H : Hp) (C : Addr) (cl : List (Str × Addr)) (fp : List Addr), Ets (X.blk s H scope (compEnvC scope cl C X.env) fp) ifs tt)
    (he : ∀ (s : Shared) (H : Hp) (C : Addr) (cl : List (Str × Addr)) (fp : List Addr), Ev (X.blk s H scope (compEnvC scope cl C X.env) fp) elt me) (hs : ∀ x, foldedSetIterable iter X.env x = pure x := by intro _; rfl)
    (hy : X.N[i]? = some y := by rfl) (hyl : X.env.scope.names.lookup y = some .local := by rfl) (hsw : swapsWith (.ListComp elt [⟨tg, iter, ifs, 0⟩] scope pos) (some (.Name y py)) spos.line X.env = pure true := by exact sw_true rfl rfl rfl rfl)
    (hv : ∀ i ∈ sl t, i ∈ own.map (·.2) := by decide) (hc : X.calm = true := by rfl) : Es X (.Assign [.Name y py] (.ListComp elt [⟨tg, iter, ifs, 0⟩] scope pos) spos) (sSet i (mLc mi (own.map (·.2)) t tt me)) :=
  ⟨fun pins s σ H E I h => (ps_setLc hc hN hy hyl hsw hi ok hg ht he hs).run pins s σ H E I (t_lc (Q := fun x H1 => gName i x σ H1 E.nx) (fun i h => ⟨hv i h, lt_of_own ok I.len (hv i h)⟩) (by
    obtain ⟨p0, H0, ok0, S, o, ⟨O, r⟩, m, q⟩ := h
    obtain ⟨d, e1, m⟩ := map_some m
    subst m
    exact ⟨_, _, d, r.closed, e1, fun v H' s rv => q _ H' ⟨O, (r.grow s).put (rv.keeps (Same.keeps (Same.refl _)) fun a h => good_new r h)⟩⟩))⟩
theorem es_lc2 (i : Nat) (own : List (Str × Nat)) (vs1 : List Nat) (hN : X.N.Nodup) (hi : Ei X tg iter mi) (ok : BlkOk X.N X.env.scope scope own)
    (hg : ∀ (s : Shared) (H : Hp) (C : Addr) (cl : List (Str × Addr)) (fp : List Addr), Eg (X.blk s H scope (compEnvC scope cl C X.env) fp) tg t) (ht : ∀ (s : Shared) (H : Hp) (C : Addr) (cl : List (Str × Addr)) (fp : List Addr), Ets (X.blk s H scope (compEnvC scope cl C X.env) fp) ifs tt)
    (hi1 : ∀ (s : Shared) (H : Hp) (C : Addr) (cl : List (Str × Addr)) (fp : List Addr), Ei (X.blk s H scope (compEnvC scope cl C X.env) fp) tg1 iter1 mi1)
    (hg1 : ∀ (s : Shared) (H : Hp) (C : Addr) (cl : List (Str × Addr)) (fp : List Addr), Eg (X.blk s H scope (compEnvC scope cl C X.env) fp) tg1 t1) (ht1 : ∀ (s : Shared) (H : Hp) (C : Addr) (cl : List (Str × Addr)) (fp : List Addr), Ets (X.blk s H scope (compEnvC scope cl C X.env) fp) ifs1 tt1)
    (he : ∀ (s : Shared) (H : Hp) (C : Addr) (cl : List (Str × Addr)) (fp : List Addr), Ev (X.blk s H scope (compEnvC scope cl C X.env) fp) elt me) (hs : ∀ x, foldedSetIterable iter X.env x = pure x := by intro _; rfl) (hs1 : ∀ env x, foldedSetIterable iter1 env x = pure x := by intro _ _; rfl)
    (hy : X.N[i]? = some y := by rfl) (hyl : X.env.scope.names.lookup y = some .local := by rfl) (hsw : swapsWith (.ListComp elt [⟨tg, iter, ifs, 0⟩, ⟨tg1, iter1, ifs1, 0⟩] scope pos) (some (.Name y py)) spos.line X.env = pure true := by exact sw_true rfl rfl rfl rfl)
    (hv : ∀ i ∈ sl t, i ∈ own.map (fun p => p.2) := by decide) (hv1 : ∀ i ∈ sl t1, i ∈ vs1 := by decide) (hv2 : ∀ i ∈ vs1, i ∈ own.map (fun p => p.2) := by decide) (hc : X.calm = true := by rfl) : Es X (.Assign [.Name y py] (.ListComp elt [⟨tg, iter, ifs, 0⟩, ⟨tg1, iter1, ifs1, 0⟩] scope pos) spos) (sSet i (mLc2 mi (own.map (fun p => p.2)) t tt mi1 vs1 t1 tt1 me)) :=
  ⟨fun pins s σ H E I h => (ps_setLc2 hc hN hy hyl hsw hi ok hv2 hg ht hi1 hg1 ht1 he hs hs1).run pins s σ H E I (t_lc2 (Q := fun x H1 => gName i x σ H1 E.nx) (fun i h => ⟨hv i h, lt_of_own ok I.len (hv i h)⟩) (fun i h => ⟨hv1 i h, lt_of_own ok I.len (hv2 i (hv1 i h))⟩) (by
    obtain ⟨p0, H0, ok0, S, o, ⟨O, r⟩, m, q⟩ := h
    obtain ⟨d, e1, m⟩ := map_some m
    subst m
    exact ⟨_, _, d, r.closed, e1, fun v H' s rv => q _ H' ⟨O, (r.grow s).put (rv.keeps (Same.keeps (Same.refl _)) fun a h => good_new r h)⟩⟩))⟩
end
/-! ### the greatest of a list -/
def maxL (ns : List Int) : Option Int := (minL (ns.map fun i => -i)).map fun i => -i
def maxA : List D → Option D
  | [.lst ds] => (intsOf ds).bind fun ns => (maxL ns).map .int
  | _ => none
theorem max_uniq {ns : List Int} {k m : Int} (h : maxL ns = some k) (h1 : m ∈ ns) (h2 : ∀ y ∈ ns, y ≤ m) : m = k := by
  obtain ⟨j, e, rfl⟩ := map_some h
  have h4 : ∀ y ∈ ns.map fun i => -i, -m ≤ y := fun y hy => by
    obtain ⟨z, hz, rfl⟩ := List.mem_map.mp hy
    have h3 := h2 z hz
    show -m ≤ -z
    omega
  have h5 : (-m) ∈ ns.map fun i => -i := List.mem_map.mpr ⟨m, h1, rfl⟩
  have := min_uniq e h5 h4
  show m = -j
  omega
theorem cd_maxA {K : PySem.W.Frag} : CaD K (rMax K) maxA := fun vs ds z H ok Q rs e q => by
  unfold maxA at e
  split at e
  · next ds =>
    obtain ⟨ns, hn, e⟩ := bind_some e
    obtain ⟨m, hm, rfl⟩ := map_some e
    cases rs with
    | cons a r =>
      cases r
      cases a with
      | lst o h r =>
        have := ints_ok r hn
        subst this
        refine ⟨_, ns, rfl, SqL.of h, ?_, fun k h1 h2 => ?_⟩
        · cases ns with
          | nil => cases hm
          | cons i r => exact Nat.succ_pos _
        · rw [max_uniq hm h1 h2]
          exact q _ H (Same.refl H) (.int _)
  · cases e
end Ice

/-! a, *b = a list -/
namespace Ice
open PySem PySem.Spec PySem.Calls PyProof.Rows L2
def gStar (K : PySem.W.Frag) (t : TGs) : TG := fun v σ H Q => ∃ a x xs, v = .ref a ∧ SqL K H a (x :: xs) ∧ xs.length ≤ 16000 ∧ ∀ D, H D = none → t [x, .ref D] σ (upd H D (.lst xs)) Q
theorem pg_star {X : Cx} {e1 e2 : Expr} {k : Nat} {pos p2 : Pos} {t : TGs} (hc : X.calm = true) (h : PGs X [e1, e2] t) (hn : (assignEach [e1, .Starred e2 p2] X.env).map (·.2) = (assignEach [e1, e2] X.env).map (·.2) := by rfl) (hl2 : (assignEach [e1, .Starred e2 p2] X.env).length = 2 := by rfl)
    (hst : (assignEach [e1, .Starred e2 p2] X.env).findIdx? (·.1) = some 1 := by rfl) : PG X (.Tuple [e1, .Starred e2 p2] k pos) (gStar X.K t) := by
  refine ⟨fun pins s σ H v u Q I r hw => ?_⟩
  obtain ⟨a, x, xs, rfl, hq, hlen, hw⟩ := hw
  cases r
  obtain ⟨its, rv, ht, hz⟩ := I.list hq
  have hh : X.A.handled = none := I.ok.hd hc
  cases rv with
  | @cons _ y _ ys r1 rr =>
  have hl : s.heap.IsList a (y :: ys).toArray := ht.isList
  have hxl : xs.length = ys.length := rr.length
  have hlt : a ≠ s.heap.objs.size := by obtain ⟨o, ho, _⟩ := hl; exact Nat.ne_of_lt (Heap.lt_size ho)
  rw [assign_Tuple]
  refine wpAny_bind (wpAny_standAt ?_)
  unfold unpack
  rw [hl2, hst, hn]
  refine wpAny_bind (wpAny_holding ?_)
  unfold unpackItems
  refine wpAny_bind ?_
  unfold notIterableAtAll
  refine wpAny_bind (wpAny_specialOf hl.typeIs slot_list_iter.lookup ?_)
  refine wpAny_pure ?_
  simp only [Bool.false_eq_true, if_false]
  refine wpAny_bind (wpAny_holding (wpAny_pyIter_list hl ?_))
  refine wpAny_bind (wpAny_holding (PySem.W.kun_draw hlt 1 0 _ _ ⟨_, Heap.get?_push_size _ rfl, rfl, rfl⟩ (hl.push _) (by rw [List.size_toArray, List.length_cons]; omega) fun h₁ hit₁ hs₁ => ?_))
  have hl₁ : h₁.IsList a (y :: ys).toArray := (hl.push _).extBut hs₁.extBut hlt
  rw [Nat.zero_add] at hit₁
  have hit₁' := hit₁
  obtain ⟨oi, hoi, _⟩ := hit₁'
  have hl₁' := hl₁
  obtain ⟨ol, hol, _⟩ := hl₁'
  rw [List.drop_zero]
  have hfl : ((y :: ys).toArray.toList.take 1).length = 1 := rfl
  rw [if_neg (show ¬ (((y :: ys).toArray.toList.take 1).length < 1) by rw [hfl]; omega)]
  refine wpAny_bind (wpAny_holding (PySem.W.kun_collect (s := { s with heap := h₁ }) (T := "list_iterator") (.inr (.inr (.inl rfl))) (Walks.list (A := X.A.in1) hh s.heap.objs.size a hlt (y :: ys).toArray) (fun j u st => st.1.typeIs) (k := 1) (by rw [List.size_toArray, List.length_cons]; omega) ⟨hit₁, hl₁⟩ (Heap.lt_size hoi) (Heap.lt_size hol) (fun h₂ tk hk => ?_) (by rw [sizeLine_eq, List.size_toArray, List.length_cons]; omega)))
  show wpAny _ _ (if ys.length < 2 - 1 - 1 then _ else _) _ _ _
  rw [if_neg (by omega)]
  show wpAny _ _ (newList (ys.take (ys.length - (2 - 1 - 1))) >>= fun d => pure ([y] ++ [d] ++ ys.drop (ys.length - (2 - 1 - 1)))) _ _ _
  have e0 : ys.length - (2 - 1 - 1) = ys.length := by omega
  rw [e0, List.take_length, List.drop_length]
  have he : ∀ b o, s.heap.get? b = some o → h₂.get? b = some o := fun b o e => by
    have hb : b ≠ s.heap.objs.size := Nat.ne_of_lt (Heap.lt_size e)
    exact hk b o hb (hs₁.extBut b o hb (Heap.get?_push_of_some _ e))
  have I2 : Inv X pins σ H { s with heap := h₂, toks := tk } := I.kept (t' := tk) he
  refine wpAny_bind (PySem.wpAny_newList (s := { s with heap := h₂, toks := tk }) ?_)
  refine wpAny_pure ?_
  have hD : H h₂.objs.size = none := I2.hok.fresh (Nat.le_refl _)
  have I1 : Inv X pins σ (upd H h₂.objs.size (.lst xs)) { s with heap := h₂.push { cls := .type "list", data := .seq ys.toArray }, toks := tk } :=
    I2.laid (t' := tk) (o := .lst xs) (fun b o e => Heap.get?_push_of_some _ e) (Nat.le_refl _) ⟨by rw [sizeLine_eq]; omega, ys, 0, rr, Heap.get?_push_size _ rfl⟩
  exact h.run pins _ σ _ [x, .ref h₂.objs.size] [y, .ref h₂.objs.size] Q I1 (.cons r1 (.cons rfl .nil)) (hw _ hD)
def sStar (i j : Nat) (m : Mi) : Ms := fun S => (m (cl S)).bind fun d => match d with
  | .lst (x :: xs) => if xs.length ≤ 16000 then some (.nx ((S.set i (.dat x)).set j (.dat (.lst xs)))) else none
  | _ => none
theorem es_star {X : Cx} {e : Expr} {me : Mi} {pos tp p1 p2 p3 : Pos} {tk : Nat} {x y : Str} (i j : Nat) (hN : X.N.Nodup) (he : Ev X e me) (hi : X.N[i]? = some x := by rfl) (hj : X.N[j]? = some y := by rfl)
    (hx : Loc X.env.scope x := by first | exact Or.inl rfl | exact Or.inr rfl) (hy : Loc X.env.scope y := by first | exact Or.inl rfl | exact Or.inr rfl) (hf : X.fn x = true ∨ X.env.scope.names.lookup x = some .local := by first | exact .inl rfl | exact .inr rfl)
    (hg : X.fn y = true ∨ X.env.scope.names.lookup y = some .local := by first | exact .inl rfl | exact .inr rfl) (hc : X.calm = true := by rfl)
    (hn : (assignEach [.Name x p1, .Starred (.Name y p2) p3] X.env).map (·.2) = (assignEach [.Name x p1, .Name y p2] X.env).map (·.2) := by rfl) (hl2 : (assignEach [.Name x p1, .Starred (.Name y p2) p3] X.env).length = 2 := by rfl)
    (hst : (assignEach [.Name x p1, .Starred (.Name y p2) p3] X.env).findIdx? (·.1) = some 1 := by rfl)
    (hc1 : (assignEach [.Name x p1, .Name y p2] X.env).map (·.2) = assign (.Name x p1) X.env :: (assignEach [.Name y p2] X.env).map (·.2) := by rfl) (hc2 : (assignEach [.Name y p2] X.env).map (·.2) = assign (.Name y p2) X.env :: (assignEach [] X.env).map (·.2) := by rfl)
    (hs : swapsWithSole [.Tuple [.Name x p1, .Starred (.Name y p2) p3] tk tp] e pos.line X.env = pure false := by rfl) (hw : swappedStores [.Tuple [.Name x p1, .Starred (.Name y p2) p3] tk tp] e X.env = pure none := by rfl)
    (h1 : (assignEach [.Tuple [.Name x p1, .Starred (.Name y p2) p3] tk tp] X.env).map (fun x => x.2) = [assign (.Tuple [.Name x p1, .Starred (.Name y p2) p3] tk tp) X.env] := by rfl) :
    Es X (.Assign [.Tuple [.Name x p1, .Starred (.Name y p2) p3] tk tp] e pos) (sStar i j me) :=
  PS.imp (ps_asg he (pg_star hc (pgs_cons (pg_name hN hi hx hf) (pgs_cons (pg_name hN hj hy hg) pgs_nil hc2) hc1) hn hl2 hst) hs hw (h1 := h1)) fun E σ H h => by
    obtain ⟨p0, H0, ok0, S, o, ⟨O, r⟩, m, q⟩ := h
    obtain ⟨d, e1, m⟩ := bind_some m
    refine ⟨_, _, d, r.closed, e1, fun v H' s rv => ?_⟩
    cases d with
    | lst ds =>
      cases ds with
      | nil => cases m
      | cons z zs =>
        have m' : (if zs.length ≤ 16000 then some (Out.nx ((S.set i (.dat z)).set j (.dat (.lst zs)))) else none) = some o := m
        split at m'
        · next hl =>
          cases m'
          cases rv with
          | lst g hb rr =>
            cases rr with
            | cons ra rr =>
              rename_i va vxs
              refine ⟨_, va, vxs, rfl, SqL.of hb, by rw [rr.length]; exact hl, fun D hD => ⟨_, _, rfl, _, _, rfl, rfl, ?_⟩⟩
              have s2 : Same H' (upd H' D (.lst vxs)) := same_new hD
              have gr : ∀ a, ex (fun a => ex ok0 H0 a ∧ ¬ O a) H a → ex ok0 H0 a ∧ ¬ O a := fun a h => good_new r h
              exact q _ _ ⟨O, ((r.grow (s.trans s2)).put ((ra.keeps (Same.keeps s2) gr))).put (.lst (gr D (.inr (s.free hD))) upd_same (rr.keeps (Same.keeps s2) gr))⟩
        · cases m'
    | _ => cases m
/-! ### more of texts -/
def splitD : D → D → Option D
  | .str a, .str b => if (b.length == 0) = false ∧ a.length ≤ 1000000 ∧ (Txt.split a b).length ≤ 1000000 then some (.lst ((Txt.split a b).map .str)) else none
  | _, _ => none
def digD : D → Option D
  | .str a => some (.bl (Txt.isdigit a))
  | _ => none
def ascD : D → Option D
  | .str a => some (.bl (Txt.isascii a))
  | _ => none
def lenS : List D → Option D
  | [.str a] => if a.length ≤ 1000000 then some (.int a.length) else none
  | _ => none
def intS : List D → Option D
  | [.str a] => (PySem.intText? a).bind fun n => if a.length ≤ 640 then some (.int n) else none
  | _ => none
def ixS : D → D → Option D
  | .str z, .int i => if z.length ≤ 1000000 then (atI z.cps.toList i).map fun c => .str ⟨#[c]⟩ else none
  | _, _ => none
def repD : D → D → Option D
  | .lst ds, .int k => if 0 ≤ k ∧ k ≤ 1000 ∧ ds.length * k.toNat ≤ 1000000 then some (.lst (List.replicate k.toNat ds).flatten) else none
  | _, _ => none
theorem reps_strs {K : PySem.W.Frag} {H : Hp} {ok : Addr → Prop} : ∀ (ys : List Str), Reps K H ok (ys.map V.str) (ys.map D.str)
  | [] => .nil
  | y :: ys => .cons (.str y) (reps_strs ys)
theorem Reps.rep {K : PySem.W.Frag} {H : Hp} {ok : Addr → Prop} {vs : List V} {ds : List D} (r : Reps K H ok vs ds) : ∀ n, Reps K H ok (List.replicate n vs).flatten (List.replicate n ds).flatten
  | 0 => .nil
  | n + 1 => by
    rw [List.replicate_succ, List.replicate_succ, List.flatten_cons, List.flatten_cons]
    exact Reps.append r (Reps.rep r n)
section
variable {X : Cx} {a b e o : Expr} {ma mb : Mi} {pos apos : Pos}
theorem ev_split (ho : Ev X o ma) (he : Ev X e mb) (hs : starEach [e] X.env = [(false, eval e X.env)] := by rfl) (hbase : attributeBase o "split" X.env (eval o X.env) = eval o X.env := by rfl) (hline : (apos.endLine == pos.line) = true := by rfl) :
    Ev X (.Call (.Attribute o "split" apos) [e] [] pos) (m2 splitD ma mb) := PE.imp (pe_split ho he hs hbase hline) fun σ H Q h => by
  obtain ⟨ok, S, d, rs, m, q⟩ := h
  obtain ⟨x, h1, m⟩ := bind_some m
  obtain ⟨y, h2, m⟩ := bind_some m
  cases x with
  | str x =>
    cases y with
    | str y =>
      have m' : (if (y.length == 0) = false ∧ x.length ≤ 1000000 ∧ (Txt.split x y).length ≤ 1000000 then some (D.lst ((Txt.split x y).map .str)) else none) = some d := m
      split at m'
      · next c =>
        cases m'
        refine ⟨ok, S, _, rs, h1, fun vx H1 s1 rx => ?_⟩
        cases rx
        refine ⟨⟨_, rfl⟩, ok, S, _, rs.keeps (Same.keeps s1) (fun _ z => z), h2, fun vy H2 s2 ry => ?_⟩
        cases ry
        refine ⟨x, y, rfl, rfl, c.1, by rw [sizeLine_eq]; omega, fun p hp => q _ _ ((s1.trans s2).trans (same_new hp)) (.lst (.inr ((s1.trans s2).free hp)) upd_same (reps_strs _))⟩
      · cases m'
    | _ => cases m
  | _ => cases m
theorem ev_dig (ho : Ev X o ma) (hbase : attributeBase o "isdigit" X.env (eval o X.env) = eval o X.env := by rfl) (hline : (apos.endLine == pos.line) = true := by rfl) : Ev X (.Call (.Attribute o "isdigit" apos) [] [] pos) (m1 digD ma) :=
  PE.imp (pe_m0 PySem.F.slot_str_isdigit PySem.F.type_str_isdigit mt_isdigit ho hbase hline) fun σ H Q h => by
    obtain ⟨ok, S, d, rs, m, q⟩ := h
    obtain ⟨x, h1, m⟩ := bind_some m
    refine ⟨ok, S, x, rs, h1, fun vx H1 s1 rx => ?_⟩
    cases x with
    | str x =>
      cases m
      cases rx
      exact ⟨⟨_, rfl⟩, _, rfl, rfl, trivial, q _ H1 s1 (.bl _)⟩
    | _ => cases m
theorem ev_asc (ho : Ev X o ma) (hbase : attributeBase o "isascii" X.env (eval o X.env) = eval o X.env := by rfl) (hline : (apos.endLine == pos.line) = true := by rfl) : Ev X (.Call (.Attribute o "isascii" apos) [] [] pos) (m1 ascD ma) :=
  PE.imp (pe_m0 PySem.F.slot_str_isascii PySem.F.type_str_isascii mt_isascii ho hbase hline) fun σ H Q h => by
    obtain ⟨ok, S, d, rs, m, q⟩ := h
    obtain ⟨x, h1, m⟩ := bind_some m
    refine ⟨ok, S, x, rs, h1, fun vx H1 s1 rx => ?_⟩
    cases x with
    | str x =>
      cases m
      cases rx
      exact ⟨⟨_, rfl⟩, _, rfl, rfl, trivial, q _ H1 s1 (.bl _)⟩
    | _ => cases m
end
theorem one_rep {K : PySem.W.Frag} {H : Hp} {ok : Addr → Prop} {vs : List V} {x : Str} (r : Reps K H ok vs [.str x]) : vs = [.str x] := by
  cases r with
  | cons a r => cases a; cases r; rfl
theorem cd_lenS {K : PySem.W.Frag} : CaD K (fun xs H Q => ∃ z, xs = [.str z] ∧ z.length ≤ sizeLine ∧ Q (.int z.length) H) lenS := fun vs ds z H ok Q rs e q => by
  unfold lenS at e
  split at e
  · split at e
    · next c =>
      cases e
      exact ⟨_, one_rep rs, by rw [sizeLine_eq]; omega, q _ H (Same.refl H) (.int _)⟩
    · cases e
  · cases e
theorem cd_intS {K : PySem.W.Frag} : CaD K (fun xs H Q => ∃ a n, xs = [.str a] ∧ PySem.intText? a = some n ∧ a.length ≤ 640 ∧ Q (.int n) H) intS := fun vs ds z H ok Q rs e q => by
  unfold intS at e
  split at e
  · obtain ⟨n, h1, e⟩ := bind_some e
    split at e
    · next c =>
      cases e
      exact ⟨_, n, one_rep rs, h1, c, q _ H (Same.refl H) (.int _)⟩
    · cases e
  · cases e
theorem od_ixS {K : PySem.W.Frag} : OpD K rIxS ixS := fun vx vy x y z H ok Q rx ry e q => by
  cases x with
  | str x =>
    cases y with
    | int i =>
      have e' : (if x.length ≤ 1000000 then (atI x.cps.toList i).map fun c => D.str ⟨#[c]⟩ else none) = some z := e
      split at e'
      · next c =>
        obtain ⟨k, h1, rfl⟩ := map_some e'
        cases rx
        cases ry
        exact ⟨x, i, k, rfl, rfl, by rw [sizeLine_eq]; omega, h1, q _ H (Same.refl H) (.str _)⟩
      · cases e'
    | _ => cases e
  | _ => cases e
theorem od_rep {K : PySem.W.Frag} : OpD K rRep repD := fun vx vy x y z H ok Q rx ry e q => by
  cases x with
  | lst ds =>
    cases y with
    | int k =>
      have e' : (if 0 ≤ k ∧ k ≤ 1000 ∧ ds.length * k.toNat ≤ 1000000 then some (D.lst (List.replicate k.toNat ds).flatten) else none) = some z := e
      split at e'
      · next c =>
        cases e'
        cases ry
        cases rx with
        | lst g hh r =>
          exact ⟨_, k, _, rfl, rfl, hh, by omega, by omega, by rw [r.length, sizeLine_eq]; omega, fun p hp => q _ _ (same_new hp) (.lst (.inr hp) upd_same ((Reps.rep r _).keeps (Same.keeps (same_new hp)) ex_of))⟩
      · cases e'
    | _ => cases e
  | _ => cases e
section
variable {X : Cx} {a b : Expr} {ma mb : Mi} {pos : Pos}
theorem ev_ixS (ha : Ev X a ma) (hb : Ev X b mb) (hs : PlainIx b := by exact fun _ _ => rfl) : Ev X (.Subscript a b pos) (m2 ixS ma mb) := ev_sub ix_str od_ixS ha hb hs
theorem ev_rep (ha : Ev X a ma) (hb : Ev X b mb) : Ev X (.BinOp a .Mult b pos) (m2 repD ma mb) := ev_bin op_rep od_rep ha hb
end
end Ice

/-! rows = [list(x) for x in e]; rows[a][b] = v -/
namespace Ice
open PySem PySem.Spec PyProof.Rows L2
/-- lists of ints at these addresses -/
def MatL (H : Hp) : List Addr → List (List Int) → Prop
  | [], [] => True
  | a :: as, r :: rs => H a = some (.lst (r.map V.int)) ∧ MatL H as rs
  | _, _ => False
section
variable {H H' : Hp}
theorem MatL.same (s : Same H H') : ∀ {as : List Addr} {rs : List (List Int)}, MatL H as rs → MatL H' as rs
  | [], [], _ => trivial
  | a :: as, r :: rs, h => ⟨s _ _ h.1, MatL.same s h.2⟩
  | [], _ :: _, h => h.elim
  | _ :: _, [], h => h.elim
theorem MatL.other {p : Addr} {o : HO} : ∀ {as : List Addr} {rs : List (List Int)}, p ∉ as → MatL H as rs → MatL (upd H p o) as rs
  | [], [], _, _ => trivial
  | a :: as, r :: rs, n, h => ⟨by rw [upd_ne (fun z => n (by rw [z]; exact List.mem_cons_self))]; exact h.1, MatL.other (fun z => n (List.mem_cons_of_mem _ z)) h.2⟩
  | [], _ :: _, _, h => h.elim
  | _ :: _, [], _, h => h.elim
theorem MatL.snoc {a : Addr} {r : List Int} (e : H a = some (.lst (r.map V.int))) : ∀ {as : List Addr} {rs : List (List Int)}, MatL H as rs → MatL H (as ++ [a]) (rs ++ [r])
  | [], [], _ => ⟨e, trivial⟩
  | b :: as, s :: rs, h => ⟨h.1, MatL.snoc e h.2⟩
  | [], _ :: _, h => h.elim
  | _ :: _, [], h => h.elim
theorem MatL.len : ∀ {as : List Addr} {rs : List (List Int)}, MatL H as rs → as.length = rs.length
  | [], [], _ => rfl
  | a :: as, r :: rs, h => congrArg (· + 1) (MatL.len h.2)
  | [], _ :: _, h => h.elim
  | _ :: _, [], h => h.elim
theorem MatL.mem {a : Addr} : ∀ {as : List Addr} {rs : List (List Int)}, MatL H as rs → a ∈ as → ∃ r : List Int, H a = some (.lst (r.map V.int))
  | [], [], _, m => nomatch m
  | b :: as, r :: rs, h, m => by
    rcases List.mem_cons.mp m with rfl | m
    · exact ⟨_, h.1⟩
    · exact MatL.mem h.2 m
  | [], _ :: _, h, _ => h.elim
  | _ :: _, [], h, _ => h.elim
theorem MatL.get : ∀ {as : List Addr} {rs : List (List Int)} {j : Nat} {r : List Int}, MatL H as rs → rs[j]? = some r → ∃ a, as[j]? = some a ∧ H a = some (.lst (r.map V.int))
  | [], [], _, _, _, e => by simp at e
  | b :: as, s :: rs, 0, r, h, e => by
    simp at e
    subst e
    exact ⟨b, rfl, h.1⟩
  | b :: as, s :: rs, j + 1, r, h, e => MatL.get (as := as) (rs := rs) h.2 (by simpa using e)
  | [], _ :: _, _, _, h, _ => h.elim
  | _ :: _, [], _, _, h, _ => h.elim
theorem MatL.put {a : Addr} {r : List Int} : ∀ {as : List Addr} {rs : List (List Int)} {j : Nat}, as.Nodup → MatL H as rs → as[j]? = some a → MatL (upd H a (.lst (r.map V.int))) as (rs.set j r)
  | [], [], _, _, _, e => by simp at e
  | b :: as, s :: rs, 0, nd, h, e => by
    simp at e
    subst e
    exact ⟨upd_same, MatL.other (List.nodup_cons.mp nd).1 h.2⟩
  | b :: as, s :: rs, j + 1, nd, h, e => by
    have e' : as[j]? = some a := by simpa using e
    have ne : b ≠ a := fun z => (List.nodup_cons.mp nd).1 (by rw [z]; exact List.mem_of_getElem? e')
    exact ⟨by rw [upd_ne ne]; exact h.1, MatL.put (List.nodup_cons.mp nd).2 h.2 e'⟩
  | [], _ :: _, _, _, h, _ => h.elim
  | _ :: _, [], _, _, h, _ => h.elim
theorem ints_reps {K : PySem.W.Frag} {ok : Addr → Prop} : ∀ (r : List Int), Reps K H ok (r.map V.int) (r.map D.int)
  | [] => .nil
  | n :: r => .cons (.int n) (ints_reps r)
theorem MatL.reps {K : PySem.W.Frag} {ok : Addr → Prop} : ∀ {as : List Addr} {rs : List (List Int)}, (∀ a ∈ as, ok a) → MatL H as rs → Reps K H ok (as.map V.ref) (rs.map fun r => D.lst (r.map D.int))
  | [], [], _, _ => .nil
  | a :: as, r :: rs, g, h => .cons (.lst (g a List.mem_cons_self) h.1 (ints_reps r)) (MatL.reps (fun b hb => g b (List.mem_cons_of_mem _ hb)) h.2)
  | [], _ :: _, _, h => h.elim
  | _ :: _, [], _, h => h.elim
theorem reps_int {K : PySem.W.Frag} {ok : Addr → Prop} : ∀ {r : List Int} {vs : List V}, Reps K H ok vs (r.map D.int) → vs = r.map V.int
  | [], _, h => by cases h; rfl
  | n :: r, _, h => by
    cases h with
    | cons a h =>
      cases a
      rw [reps_int h]
      rfl
end
def rLi (K : PySem.W.Frag) : List V → Hp → VK → Prop := fun xs H Q => ∃ p ys, xs = [.ref p] ∧ (SqL K H p ys ∨ SqT K H p ys) ∧ ∀ l, H l = none → Q (.ref l) (upd H l (.lst ys))
def tRow (r : List Int) : D := .tup (r.map D.int)
theorem t_mat {K : PySem.W.Frag} {mi : Ma} {vs : List Nat} {k : Nat} {σ : L2.St} {H : Hp} {Q : VK} {ok : Addr → Prop} {S : Sd} {rs : List (List Int)} (hv : k ∈ vs ∧ k < σ.length) (r0 : Rs K H ok S σ) (h1 : mi S = some (rs.map tRow)) (hl : rs.length ≤ 1000) (hm : ∀ d, mV k ((wipeD S vs).set k (some d)) = some d)
    (q : ∀ D as H', Same H H' → H D = none → H' D = some (.lst (as.map V.ref)) → (∀ a ∈ as, H a = none ∧ a ≠ D) → as.Nodup → MatL H' as rs → Q (.ref D) H') :
    tLc (tI K mi) (tG K (.nm k)) (tT K mYes) (tCB (rLi K) (tA K (aCons (mV k) aNil))) vs σ H Q := by
  refine ⟨ok, S, rs.map tRow, r0, h1, fun J H1 s1 wk D hD => ?_⟩
  let okc : Addr → Prop := fun a => ex ok H a ∧ H1 a ≠ none
  refine ⟨fun i n H' => n = rs.length - i ∧ i ≤ rs.length ∧ Same H1 H' ∧ ∃ as : List Addr, as.length = i ∧ H' D = some (.lst (as.map V.ref)) ∧ (∀ a ∈ as, H1 a = none ∧ a ≠ D) ∧ as.Nodup ∧ MatL H' as (rs.take i),
    ⟨rs.length, rfl, Nat.zero_le _, same_new hD, [], rfl, upd_same, fun _ h => (nomatch h), List.Pairwise.nil, trivial⟩, ?_⟩
  rintro i n H' ⟨rfl, hi, s2, as, la, hacc, has, nd, mt⟩
  have wk' := wk H1 (fun a o e _ => e) i H' s2
  by_cases hlt : i < rs.length
  · have hg : (rs.map tRow)[i]? = some (tRow rs[i]) := by rw [List.getElem?_map, List.getElem?_eq_getElem hlt]; rfl
    obtain ⟨go, yl⟩ := wk'.1 _ hg
    let Nx : Hp → Prop := fun H'' => i + 1 ≤ rs.length ∧ Same H1 H'' ∧ ∃ as : List Addr, as.length = i + 1 ∧ H'' D = some (.lst (as.map V.ref)) ∧ (∀ a ∈ as, H1 a = none ∧ a ≠ D) ∧ as.Nodup ∧ MatL H'' as (rs.take (i + 1))
    refine .inr ⟨go, Nx, fun H'' nx => ⟨rs.length - (i + 1), by omega, rfl, nx⟩, fun x H3 y => ?_⟩
    obtain ⟨s3, rx⟩ := yl x H3 y
    have s13 := s2.trans s3
    have rs3 : Rs K H3 okc (wipeD S vs) (wipe σ vs) := ((Rs.wipe (fun i d e => by
      obtain ⟨v, e1, e2⟩ := r0 i d e
      exact ⟨v, e1, Rep.dom d v e2⟩ : Rs K H (fun a => ok a ∧ H a ≠ none) S σ) vs)).keeps (Same.keeps (s1.trans s13)) fun a h => ⟨.inl h.1, fun z => h.2 (s1.free z)⟩
    refine ⟨okc, wipeD S vs, tRow rs[i], (wipeD S vs).set k (some (tRow rs[i])), fun j hj => by
      rw [wipe_length]
      have : j = k := List.mem_singleton.mp hj
      rw [this]
      exact hv.2, rs3, rx, rfl, fun σ2 b2 rs2 => ⟨?_, okc, _, true, rs2, rfl, fun H4 s4 => ?_⟩⟩
    · have hw : wipe (wipe σ vs) vs = wipe σ vs := wipe_but ⟨wipe_length σ vs, fun j hj => by rw [wipe_get, if_neg hj]⟩
      rw [wipe_but (b2.mono fun j hj => by
        have : j = k := List.mem_singleton.mp hj
        rw [this]
        exact hv.1), hw]
    · show tCB (rLi K) (tA K (aCons (mV k) aNil)) σ2 H4 fun y H5 => ∃ acc, H5 D = some (HO.lst acc) ∧ acc.length < sizeLine ∧ Nx (upd H5 D (HO.lst (acc ++ [y])))
      refine ⟨okc, _, [tRow rs[i]], rs2.keeps (Same.keeps s4) (fun _ z => z), ?_, fun us H5 s5 ru => ?_⟩
      · show (mV k ((wipeD S vs).set k (some (tRow rs[i])))).bind (fun x => some [x]) = _
        rw [hm]
        rfl
      · cases ru with
        | cons ra ru =>
          cases ru
          cases ra with
          | tup ht rr =>
            have ev := reps_int rr
            subst ev
            refine ⟨_, _, rfl, .inr (SqT.of ht), fun l hl5 => ?_⟩
            have hacc5 : H5 D = some (.lst (as.map V.ref)) := s5 _ _ (s4 _ _ (s3 _ _ hacc))
            have nlD : l ≠ D := fun z => by rw [z, hacc5] at hl5; cases hl5
            have hl1 : H1 l = none := (s13.trans (s4.trans s5)).free hl5
            have mt5 : MatL H5 as (rs.take i) := mt.same (s3.trans (s4.trans s5))
            have lnot : l ∉ as := fun hm2 => by
              obtain ⟨r, e⟩ := mt5.mem hm2
              rw [e] at hl5
              cases hl5
            have Dnot : D ∉ as ++ [l] := fun hm2 => by
              rcases List.mem_append.mp hm2 with h | h
              · exact (has D h).2 rfl
              · exact nlD (List.mem_singleton.mp h).symm
            refine ⟨as.map V.ref, by rw [upd_ne nlD.symm]; exact hacc5, by rw [List.length_map, la, sizeLine_eq]; omega, hlt, ?_, as ++ [l], by rw [List.length_append, la]; rfl, by rw [upd_same, List.map_append]; rfl, fun a ha => ?_, ?_, ?_⟩
            · intro a o e
              have ne : a ≠ D := ne_of_none e hD
              have ne2 : a ≠ l := ne_of_none e hl1
              rw [upd_ne ne, upd_ne ne2]
              exact s5 _ _ (s4 _ _ (s13 _ _ e))
            · rcases List.mem_append.mp ha with h | h
              · exact has a h
              · rw [List.mem_singleton.mp h]
                exact ⟨hl1, nlD⟩
            · rw [List.nodup_append]
              exact ⟨nd, List.pairwise_singleton _ _, fun x hx y hy e => lnot (by rw [← List.mem_singleton.mp hy, ← e]; exact hx)⟩
            · rw [List.take_succ_eq_append_getElem hlt]
              exact MatL.other Dnot (MatL.snoc upd_same (MatL.other lnot mt5))
  · have e : i = rs.length := by omega
    subst e
    rw [List.take_length] at mt
    exact .inl ⟨wk'.2 (List.getElem?_eq_none_iff.mpr (by rw [List.length_map]; exact Nat.le_refl _)), q D as H' (s1.trans s2) (s1.free hD) hacc (fun a h => ⟨s1.free (has a h).1, (has a h).2⟩) nd mt⟩
/-! ### the two statements -/
def rowsOf : List D → Option (List (List Int))
  | [] => some []
  | .tup ds :: r => (intsOf ds).bind fun ns => (rowsOf r).map fun k => ns :: k
  | _ => none
theorem intsOf_ok : ∀ {ds : List D} {ns : List Int}, intsOf ds = some ns → ds = ns.map D.int
  | [], ns, h => by cases h; rfl
  | d :: ds, ns, h => by
    cases d with
    | int i =>
      obtain ⟨k, h1, rfl⟩ := map_some (show (intsOf ds).map (fun k => i :: k) = some ns from h)
      rw [intsOf_ok h1]
      rfl
    | _ => cases h
theorem rowsOf_ok : ∀ {ds : List D} {rs : List (List Int)}, rowsOf ds = some rs → ds = rs.map tRow
  | [], rs, h => by cases h; rfl
  | d :: ds, rs, h => by
    cases d with
    | tup es =>
      obtain ⟨ns, h1, h2⟩ := bind_some (show ((intsOf es).bind fun ns => (rowsOf ds).map fun k => ns :: k) = some rs from h)
      obtain ⟨k, h3, rfl⟩ := map_some h2
      rw [intsOf_ok h1, rowsOf_ok h3]
      rfl
    | _ => cases h
def setAt (rs : List (List Int)) (a b v : Int) : Option (List (List Int)) := (ixN rs.length a).bind fun ja => (rs[ja]?).bind fun r => (ixN r.length b).map fun jb => rs.set ja (r.set jb v)
def iOf : D → Option Int
  | .int i => some i
  | _ => none
theorem iOf_ok {d : D} {i : Int} (h : iOf d = some i) : d = .int i := by
  cases d with
  | int j => cases h; rfl
  | _ => cases h
def eMat (rs : List (List Int)) : D := .lst (rs.map fun r => .lst (r.map .int))
def sMat (i k : Nat) (vs : List Nat) (mi : Ma) (ma mb mv : Mi) (m : Ms) : Ms := fun S => if k < S.length ∧ i < S.length then
  (mi (cl S)).bind fun ds => (rowsOf ds).bind fun rs => if rs.length ≤ 1000 then
    (mv ((cl S).set i none)).bind fun v => (iOf v).bind fun v => (ma ((cl S).set i none)).bind fun a => (iOf a).bind fun a => (mb ((cl S).set i none)).bind fun b => (iOf b).bind fun b =>
    (setAt rs a b v).bind fun rs' => m (S.set i (.dat (eMat rs'))) else none
  else none
theorem wipeD_len (S : Sd) : ∀ vs : List Nat, (wipeD S vs).length = S.length
  | [] => rfl
  | v :: vs => by
    show ((wipeD S vs).set v none).length = _
    rw [List.length_set, wipeD_len S vs]
theorem Rs.off {K : PySem.W.Frag} {H : Hp} {ok : Addr → Prop} {S : Sd} {σ : L2.St} (r : Rs K H ok S σ) (i : Nat) (v : Option V) : Rs K H ok (S.set i none) (σ.set i v) := fun j d e => by
  by_cases c : i = j
  · subst c
    rw [List.getElem?_set] at e
    split at e
    · split at e <;> cases e
    · exact absurd rfl (by assumption)
  · rw [List.getElem?_set_ne c] at e
    rw [List.getElem?_set_ne c]
    exact r j d e
theorem ess_mat {X : Cx} {elt tg iter ia ib ve : Expr} {scope : Scope} {pos spos py p1 p2 p3 pos2 : Pos} {y : Str} {mi : Ma} {ma mb mv : Mi} {m : Ms} {rest : List Stmt} (i k : Nat) (own : List (Str × Nat)) (hN : X.N.Nodup) (hi : Ei X tg iter mi) (ok : BlkOk X.N X.env.scope scope own)
    (hg : ∀ (s : Shared) (H : Hp) (C : Addr) (cl : List (Str × Addr)) (fp : List Addr), Eg (X.blk s H scope (compEnvC scope cl C X.env) fp) tg (.nm k))
    (he : ∀ (s : Shared) (H : Hp) (C : Addr) (cl : List (Str × Addr)) (fp : List Addr), PE (X.blk s H scope (compEnvC scope cl C X.env) fp) elt (tCB (rLi X.K) (tA X.K (aCons (mV k) aNil))))
    (hv : Ev X ve mv) (ha : Ev X ia ma) (hb : Ev X ib mb) (hr : Ess X rest m)
    (hs : ∀ x, foldedSetIterable iter X.env x = pure x := by intro _; rfl)
    (hy : X.N[i]? = some y := by rfl) (hyl : X.env.scope.names.lookup y = some .local := by rfl) (hsw : swapsWith (.ListComp elt [⟨tg, iter, [], 0⟩] scope pos) (some (.Name y py)) spos.line X.env = pure true := by exact sw_true rfl rfl rfl rfl)
    (hk : k ∈ own.map (·.2) := by decide) (hc : X.calm = true := by rfl)
    (hvis : Vis X.env.scope y := by first | exact Or.inl rfl | exact Or.inr (Or.inl rfl) | exact Or.inr (Or.inr rfl)) (hd : (y == ("__debug__" : Str)) = false := by decide) (hcd : (y == ("__classdict__" : Str)) = false := by decide) (hpi : PlainIx ia := by exact fun _ _ => rfl)
    (hsub : ∀ v, assign (.Subscript (.Subscript (.Name y p1) ia p2) ib p3) X.env v = (do
      let ov ← holding [v] (eval (.Subscript (.Name y p1) ia p2) X.env)
      let iv ← holding [v, ov] (eval ib X.env)
      standAt p3
      holding [v, ov, iv] (setItem ov iv v)
      release [v, ov, iv] []) := by intro _; rfl)
    (hs2 : swapsWithSole [.Subscript (.Subscript (.Name y p1) ia p2) ib p3] ve pos2.line X.env = pure false := by rfl) (hw2 : swappedStores [.Subscript (.Subscript (.Name y p1) ia p2) ib p3] ve X.env = pure none := by rfl)
    (h12 : (assignEach [.Subscript (.Subscript (.Name y p1) ia p2) ib p3] X.env).map (fun x => x.2) = [assign (.Subscript (.Subscript (.Name y p1) ia p2) ib p3) X.env] := by rfl) :
    Ess X (.Assign [.Name y py] (.ListComp elt [⟨tg, iter, [], 0⟩] scope pos) spos :: .Assign [.Subscript (.Subscript (.Name y p1) ia p2) ib p3] ve pos2 :: rest) (sMat i k (own.map (·.2)) mi ma mb mv m) :=
  ⟨fun pins s σ H E I h => (pss_cons (ps_setLc (g := tG X.K (.nm k)) (tt := tT X.K mYes) (te := tCB (rLi X.K) (tA X.K (aCons (mV k) aNil))) hc hN hy hyl hsw hi ok hg (fun s H C cl fp => ets_nil) he hs) (pss_cons (ps_asg hv (pg_sub (pe_ix ix_seq (pe_var hy hvis hd hcd) ha hpi) hb set_list hsub) hs2 hw2 h12) hr)).run pins s σ H E I (by
    obtain ⟨p0, H0, ok0, S, o, ⟨O, r⟩, mm, q⟩ := h
    unfold sMat at mm
    split at mm
    · next hkl =>
      obtain ⟨ds, h1, mm⟩ := bind_some mm
      obtain ⟨rs, h2, mm⟩ := bind_some mm
      split at mm
      · next hrl =>
        obtain ⟨dv, e1, mm⟩ := bind_some mm
        obtain ⟨v, e2, mm⟩ := bind_some mm
        obtain ⟨da, e3, mm⟩ := bind_some mm
        obtain ⟨a, e4, mm⟩ := bind_some mm
        obtain ⟨db, e5, mm⟩ := bind_some mm
        obtain ⟨b, e6, mm⟩ := bind_some mm
        obtain ⟨rs', e7, mm⟩ := bind_some mm
        have ev := iOf_ok e2
        have ea := iOf_ok e4
        have eb := iOf_ok e6
        have ed := rowsOf_ok h2
        subst ev ea eb ed
        obtain ⟨ja, f1, e7⟩ := bind_some e7
        obtain ⟨row, f2, e7⟩ := bind_some e7
        obtain ⟨jb, f3, rfl⟩ := map_some e7
        show tLc (tI X.K mi) (tG X.K (.nm k)) (tT X.K mYes) (tCB (rLi X.K) (tA X.K (aCons (mV k) aNil))) (own.map (·.2)) σ H (fun x H1 => tSeq (tAsg (tE X.K mv) (gSub (tOp (rIx X.K) (tVar i) (tE X.K ma)) (tE X.K mb) rSetL)) (tS X.K m) E (σ.set i (some x)) H1)
        refine t_mat (K := X.K) ⟨hk, by rw [← r.len]; exact hkl.1⟩ r.closed h1 hrl (fun d => ?_) fun D as H' s1 hD hDl has nd mt => ?_
        · unfold mV
          rw [List.getElem?_set_self (by rw [wipeD_len, List.length_map]; exact hkl.1)]
        · have rz := (r.closed.keeps (Same.keeps s1) fun _ z => z).off i (some (.ref D))
          refine ⟨_, _, .int v, rz, e1, fun vv H1 t1 rv => ?_⟩
          cases rv
          refine ⟨.ref D, List.getElem?_set_self (by rw [← r.len]; exact hkl.2), _, _, .int a, rz.keeps (Same.keeps t1) (fun _ z => z), e3, fun va H2 t2 ra => ?_⟩
          cases ra
          have t12 := t1.trans t2
          obtain ⟨aj, g1, g2⟩ := (mt.same t12).get f2
          have hal : as.length = rs.length := mt.len
          refine .inl ⟨D, as.map V.ref, a, .ref aj, rfl, rfl, SqL.of (t12 _ _ hDl), ?_, ?_⟩
          · unfold atI
            rw [List.length_map, hal, f1]
            show (as.map V.ref)[ja]? = _
            rw [List.getElem?_map, g1]
            rfl
          · refine ⟨_, _, .int b, rz.keeps (Same.keeps t12) (fun _ z => z), e5, fun vb H3 t3 rb => ?_⟩
            cases rb
            have t13 := t12.trans t3
            have g3 : H3 aj = some (.lst (row.map V.int)) := t3 _ _ g2
            refine ⟨aj, row.map V.int, b, jb, rfl, rfl, g3, by rw [List.length_map]; exact f3, ?_⟩
            have haj : aj ∈ as := List.mem_of_getElem? g1
            have hDj : D ≠ aj := fun z => (has aj haj).2 z.symm
            rw [← List.map_set]
            have sf : Same H (upd H3 aj (.lst ((row.set jb v).map V.int))) := fun x ob e => by
              have ne : x ≠ aj := ne_of_none e (has aj haj).1
              rw [upd_ne ne]
              exact t13 _ _ (s1 _ _ e)
            have mf : MatL (upd H3 aj (.lst ((row.set jb v).map V.int))) as (rs.set ja (row.set jb v)) := MatL.put nd (mt.same t13) g1
            have gr : ∀ x, H x = none → ex ok0 H0 x ∧ ¬ O x := fun x hx => good_new r (.inr hx)
            have rf := (r.grow sf).put (i := i) (d := eMat (rs.set ja (row.set jb v))) (v := .ref D) (.lst (gr D hD) (by rw [upd_ne hDj]; exact t13 _ _ hDl) (MatL.reps (fun x hx => gr x (has x hx).1) mf))
            exact ⟨p0, H0, ok0, _, o, ⟨O, rf⟩, mm, q⟩
      · cases mm
    · cases mm)⟩
end Ice

/-! exceptions over data: what raises, what is caught -/
namespace Ice
open PySem PySem.Spec PyProof.Rows L2

def exNs : List Str := ["BadHouse", "NoSuch", "BadDeeds", "BadPlan", "BadText"]
/-- what the written part says of the classes -/
structure ExT (K : PySem.W.Frag) (mg : Str → Option Value) : Prop where
  gI : mg "IceError" = some (.ref (He.ga K "IceError"))
  g : ∀ c ∈ exNs, mg c = some (.ref (He.ga K c))
  x : ∀ c ∈ exNs, PySem.W.excIn K (He.ga K c) He.veBase "ValueError.__new__" = true
  k : ∀ c ∈ exNs, PySem.W.keepIn K (.ref (He.ga K c)) = true
  ty : ∀ c ∈ exNs, PySem.W.typeIn K (.ref (He.ga K c)) = some (.type "type")
  e : ∀ c ∈ exNs, ExcC K (He.ga K c)
  m : ∀ c ∈ exNs, PySem.W.exmOne K (.ref (He.ga K c)) (.ref (He.ga K "IceError")) = some true
  is_ : ∀ c ∈ exNs, ∀ d ∈ exNs, PySem.W.kitOne K (.ref (He.ga K c)) (.ref (He.ga K d)) = some (decide (c = d))
  ve : ∀ c ∈ exNs, PySem.W.kitOne K (.ref (He.ga K c)) (.type "ValueError") = some true
  fV : mg "ValueError" = none
  fi : mg "isinstance" = none
def exTB (K : PySem.W.Frag) : Bool :=
  (He.Fa.glo "IceError").ok K && ((He.Fa.free "ValueError").ok K && ((He.Fa.free "isinstance").ok K && ((exNs.all fun c => (He.Fa.glo c).ok K && (He.Fa.exc c).ok K) &&
  ((exNs.all fun c => decide (PySem.W.findIn K (.ref (He.ga K c)) "__getattribute__" = some (some (.builtin "BaseException.__getattribute__"))) && (decide (PySem.W.findIn K (.ref (He.ga K c)) "__getattr__" = some none) &&
    (PySem.W.hasDictIn K (He.ga K c) && (decide (PySem.W.findIn K (.ref (He.ga K c)) "__class__" = some (some (.builtin "object.__class__"))) && decide (PySem.W.mroIn K (He.ga K c) (.type "object") = some true))))) &&
  (decide (PySem.W.specialIn K (.builtin "object.__class__") "__get__" = some (some (.builtin "getset_descriptor.__get__"))) && (decide (PySem.W.takesIn K (.builtin "object.__class__") = some true) &&
  (exNs.all fun c => decide (PySem.W.exmOne K (.ref (He.ga K c)) (.ref (He.ga K "IceError")) = some true) && (decide (PySem.W.kitOne K (.ref (He.ga K c)) (.type "ValueError") = some true) &&
    exNs.all fun d => decide (PySem.W.kitOne K (.ref (He.ga K c)) (.ref (He.ga K d)) = some (decide (c = d)))))))))))
theorem exT_ok {K : PySem.W.Frag} {h : Heap} {mg : Str → Option Value} (X : K.In h) (G : h.Ns mainGlobals mg) (e : exTB K = true) : ExT K mg := by
  unfold exTB at e
  obtain ⟨a1, e⟩ := He.ba e
  obtain ⟨a2, e⟩ := He.ba e
  obtain ⟨a3, e⟩ := He.ba e
  obtain ⟨a4, e⟩ := He.ba e
  obtain ⟨a5, e⟩ := He.ba e
  obtain ⟨a6, e⟩ := He.ba e
  obtain ⟨a7, a8⟩ := He.ba e
  have b4 : ∀ c ∈ exNs, (He.Fa.glo c).ok K = true ∧ (He.Fa.exc c).ok K = true := fun c hc => He.ba (List.all_eq_true.mp a4 c hc)
  have b8 : ∀ c ∈ exNs, PySem.W.exmOne K (.ref (He.ga K c)) (.ref (He.ga K "IceError")) = some true ∧ PySem.W.kitOne K (.ref (He.ga K c)) (.type "ValueError") = some true ∧ ∀ d ∈ exNs, PySem.W.kitOne K (.ref (He.ga K c)) (.ref (He.ga K d)) = some (decide (c = d)) := fun c hc => by
    obtain ⟨z1, z⟩ := He.ba (List.all_eq_true.mp a8 c hc)
    obtain ⟨z2, z3⟩ := He.ba z
    exact ⟨of_decide_eq_true z1, of_decide_eq_true z2, fun d hd => of_decide_eq_true (List.all_eq_true.mp z3 d hd)⟩
  have be : ∀ c ∈ exNs, ExcC K (He.ga K c) := fun c hc => by
    obtain ⟨z1, z⟩ := He.ba (List.all_eq_true.mp a5 c hc)
    obtain ⟨z2, z⟩ := He.ba z
    obtain ⟨z3, z⟩ := He.ba z
    obtain ⟨z4, z5⟩ := He.ba z
    exact ⟨of_decide_eq_true z1, of_decide_eq_true z2, (He.exc_ok (b4 c hc).2).2.2.1, z3, of_decide_eq_true z4, of_decide_eq_true a6, of_decide_eq_true a7, of_decide_eq_true z5⟩
  exact ⟨He.glo_ok X G a1, fun c hc => He.glo_ok X G (b4 c hc).1, fun c hc => (He.exc_ok (b4 c hc).2).1, fun c hc => (He.exc_ok (b4 c hc).2).2.1, fun c hc => (He.exc_ok (b4 c hc).2).2.2.2, be,
    fun c hc => (b8 c hc).1, fun c hc => (b8 c hc).2.2, fun c hc => (b8 c hc).2.1, He.free_ok X G a2, He.free_ok X G a3⟩

/-! ### ends -/
inductive Re where
  | val (d : D)
  | exc (c : Str)
/-- what a def promises that may raise -/
def spE (K : PySem.W.Frag) (n : Nat) (g : List D → Option Re) : Sp := fun vs H Q E => ∃ ds ok r, Reps K H ok vs ds ∧ ds.length = n ∧ g ds = some r ∧ match r with
  | .val d => ∀ v H', Same H H' → Rep K H' (ex ok H) v d → Q v H'
  | .exc c => c ∈ exNs → ∀ H', Same H H' → E (.ref (He.ga K c)) none H'
inductive Oe where
  | o (x : Out)
  | rx (c : Str) (S : Sl)
abbrev Me := Sl → Option Oe
def ReachE (K : PySem.W.Frag) (p0 : Addr) (H0 : Hp) (ok0 : Addr → Prop) (W : WX) (E : Ends) : Oe → Prop
  | .o x => Reach K p0 H0 ok0 E x
  | .rx c S => c ∈ exNs → ∀ σ H, RS K p0 H0 ok0 S σ H → W (.ref (He.ga K c)) none σ H
def tSE (K : PySem.W.Frag) (W : WX) (m : Me) : TS := fun E σ H => ∃ p0 H0 ok0 S o, RS K p0 H0 ok0 S σ H ∧ m S = some o ∧ ReachE K p0 H0 ok0 W E o
abbrev EsE (X : Cx) (W : WX) (st : Stmt) (m : Me) : Prop := PS X st (tSE X.K W m)
abbrev EssE (X : Cx) (W : WX) (st : List Stmt) (m : Me) : Prop := PSs X st (tSE X.K W m)
def eP (m : Ms) : Me := fun S => (m S).map .o
def eSeq (a b : Me) : Me := fun S => (a S).bind fun o => match o with
  | .o (.nx S1) => b S1
  | o => some o
def eIf (t : Mt) (a b : Me) : Me := fun S => (t (op S)).bind fun c => if c = true then a S else b S
def eNext : Me := fun S => some (.o (.nx S))
def eRaise (c : Str) (ms : List Mi) : Me := fun S => if ms.all (fun m => (m (op S)).isSome) = true then some (.rx c S) else none
def eRet (g : List D → Option Re) (ma : Ma) : Me := fun S => (ma (op S)).bind fun ds => (g ds).map fun r => match r with
  | .val d => .o (.rt d S)
  | .exc c => .rx c S
def eSet (i : Nat) (g : List D → Option Re) (ma : Ma) : Me := fun S => (ma (cl S)).bind fun ds => (g ds).map fun r => match r with
  | .val d => .o (.nx (S.set i (.dat d)))
  | .exc c => .rx c S
def eDrop (g : List D → Option Re) (ma : Ma) : Me := fun S => (ma (op S)).bind fun ds => (g ds).map fun r => match r with
  | .val _ => .o (.nx S)
  | .exc c => .rx c S
section
variable {X : Cx} {st : Stmt} {rest a b : List Stmt} {e c : Expr} {me : Mi} {t : Mt} {m1 m2 : Me} {m0 : Ms} {pos pos' : Pos} {W : WX}
theorem PS_nox {st : Stmt} {t : TS} (h : PS X.nox st t) : PS X st t := ⟨fun pins s σ H D I hw =>
  wpAny_mono (h.run pins s σ H D (I.wish _) hw) (fun _ _ q => q.unwish) fun _ _ z => False.elim z⟩
theorem ee_p (h : Es X st m0) : EsE X W st (eP m0) := PS.imp h fun E σ H hh => by
  obtain ⟨p0, H0, ok0, S, o, r, m, q⟩ := hh
  obtain ⟨x, e1, m⟩ := map_some m
  subst m
  exact ⟨p0, H0, ok0, S, x, r, e1, q⟩
theorem ee_n (h : Es X.nox st m0) : EsE X W st (eP m0) := ee_p (PS_nox h)
theorem ees_nil : EssE X W [] eNext := PSs.imp pss_nil fun E σ H h => by
  obtain ⟨p0, H0, ok0, S, o, r, m, q⟩ := h
  cases m
  exact q σ H r
theorem ees_cons (h1 : EsE X W st m1) (h2 : EssE X W rest m2) : EssE X W (st :: rest) (eSeq m1 m2) := PSs.imp (pss_cons h1 h2) fun E σ H h => by
  obtain ⟨p0, H0, ok0, S, o, r, m, q⟩ := h
  obtain ⟨o1, e1, m⟩ := bind_some m
  refine ⟨p0, H0, ok0, S, o1, r, e1, ?_⟩
  cases o1 with
  | rx c S1 => cases m; exact q
  | o x =>
    cases x with
    | nx S1 => exact fun σ1 H1 r1 => ⟨p0, H0, ok0, S1, o, r1, m, q⟩
    | rt d S1 => cases m; exact q
    | bk S1 => cases m; exact q
    | ct S1 => cases m; exact q
theorem ees_one (h1 : EsE X W st m1) : EssE X W [st] m1 := PSs.imp (pss_one h1) fun E σ H h => h
theorem ee_if (hc : Et X.nox c t) (ha : EssE X W a m1) (hb : EssE X W b m2) : EsE X W (.If c a b pos) (eIf t m1 m2) := PS.imp (ps_if (PT.nox hc) ha hb) fun E σ H h => by
  obtain ⟨p0, H0, ok0, S, o, ⟨O, r⟩, m, q⟩ := h
  obtain ⟨d, e1, m⟩ := bind_some m
  refine ⟨_, _, d, r.opened, e1, fun H' s => ?_⟩
  cases d with
  | true => exact ⟨p0, H0, ok0, S, o, ⟨O, r.grow s⟩, m, q⟩
  | false => exact ⟨p0, H0, ok0, S, o, ⟨O, r.grow s⟩, m, q⟩

/-! ### the message -/
/-- a part of the text: short -/
def tMsg (K : PySem.W.Frag) (m : Mi) : TE := fun σ H Q => ∃ ok S d, Rs K H ok S σ ∧ m S = some d ∧ ∀ (y : Str) H', y.length ≤ 10000 → Same H H' → Q (.str y) H'
def mInt (m : Mi) : Mi := fun S => (m S).bind fun d => match d with
  | .int i => if i.natAbs.log2 < 1920 then some (.int i) else none
  | _ => none
theorem ms_s {x : Str} {j} (h : x.length ≤ 10000) : PE X (.Constant (.str x) j pos) (tMsg X.K (mC .non)) := PE.imp pe_str fun σ H Q h' => by
  obtain ⟨ok, S, d, rs, m, q⟩ := h'
  exact q x H h (Same.refl H)
theorem ms_f (he : Ev X e me) : PE X (.FormattedValue e (-1) none pos) (tMsg X.K (mInt me)) := PE.imp (pe_fmt he) fun σ H Q h => by
  obtain ⟨ok, S, d, rs, m, q⟩ := h
  obtain ⟨d', e1, m⟩ := bind_some m
  refine ⟨ok, S, d', rs, e1, fun v H' s rv => ?_⟩
  cases d' with
  | int i =>
    cases rv
    by_cases c : i.natAbs.log2 < 1920
    · refine .inr ⟨i, rfl, c, q _ H' ?_ s⟩
      have e := int_text_length_le (k := 1920) (by decide) c
      rw [PySem.ofString_length]
      omega
    · have m' : (if i.natAbs.log2 < 1920 then some (D.int i) else none) = some d := m
      rw [if_neg c] at m'; cases m'
  | _ => cases m
inductive Msgs (X : Cx) : List Expr → List Mi → Prop where
  | nil : Msgs X [] []
  | cons {e : Expr} {m : Mi} {es : List Expr} {ms : List Mi} (h : PE X e (tMsg X.K m)) (r : Msgs X es ms) : Msgs X (e :: es) (m :: ms)
theorem Msgs.pj {es : List Expr} {ms : List Mi} (h : Msgs X es ms) : PJ X es (ms.map (tMsg X.K)) := by
  induction h with
  | nil => exact .nil
  | cons h r ih => exact .cons h ih
theorem msgs_run {K : PySem.W.Frag} {σ : L2.St} {ok : Addr → Prop} {S : Sd} : ∀ (ms : List Mi) (acc : Str) (H : Hp) (Q : Str → Hp → Prop), Rs K H ok S σ → (∀ m ∈ ms, (m S).isSome = true) → acc.length + 10000 * ms.length ≤ sizeLine → (∀ y H', Same H H' → Q y H') → tJs (ms.map (tMsg K)) acc σ H Q
  | [], acc, H, Q, _, _, _, q => q acc H (Same.refl H)
  | m :: ms, acc, H, Q, rs, hm, hl, q => by
    obtain ⟨d, e⟩ := Option.isSome_iff_exists.mp (hm m List.mem_cons_self)
    refine ⟨ok, S, d, rs, e, fun y H' hy s => ⟨y, rfl, ?_, ?_⟩⟩
    · have : (m :: ms).length = ms.length + 1 := rfl
      rw [this] at hl
      have e2 : (acc ++ y).length = acc.length + y.length := by first | exact PySem.strLen_append acc y | exact strLen_append acc y | exact PySem.Str.length_append acc y
      omega
    · refine msgs_run ms (acc ++ y) H' Q (rs.keeps (Same.keeps s) fun _ z => z) (fun m h => hm m (List.mem_cons_of_mem _ h)) ?_ fun y' H'' s' => q y' H'' (s.trans s')
      have : (m :: ms).length = ms.length + 1 := rfl
      rw [this] at hl
      have e2 : (acc ++ y).length = acc.length + y.length := by first | exact PySem.strLen_append acc y | exact strLen_append acc y | exact PySem.Str.length_append acc y
      omega
/-- a whole message -/
def tMg (K : PySem.W.Frag) (ms : List Mi) : TE := fun σ H Q => ∃ ok S, Rs K H ok S σ ∧ (∀ m ∈ ms, (m S).isSome = true) ∧ ∀ (y : Str) H', Same H H' → Q (.str y) H'
theorem mg_fs {v1 v2 : Expr} {es : List Expr} {ms : List Mi} (h : Msgs X (v1 :: v2 :: es) ms) (hl : 10000 * ms.length ≤ sizeLine) : PE X (.JoinedStr (v1 :: v2 :: es) pos) (tMg X.K ms) := PE.imp (pe_joined h.pj) fun σ H Q hh => by
  obtain ⟨ok, S, rs, hm, q⟩ := hh
  exact msgs_run ms Str.empty H _ rs hm (by show 0 + _ ≤ _; omega) fun y H' s => q y H' s
theorem mg_s {x : Str} {j} : PE X (.Constant (.str x) j pos) (tMg X.K []) := PE.imp pe_str fun σ H Q hh => by
  obtain ⟨ok, S, rs, hm, q⟩ := hh
  exact q x H (Same.refl H)
theorem ee_raise {c : Str} {p pos2 : Pos} {ms : List Mi} (hc : X.calm = true) (tk : Takes X W) (T : ExT X.K X.mg) (h : c ∈ exNs) (hm : PE X e (tMg X.K ms)) (hg : Gl X c) (hs : starEach [e] X.env = (false, eval e X.env) :: starEach [] X.env := by rfl) (hdb : (c == ("__debug__" : Str)) = false := by decide) :
    EsE X W (.Raise (some (.Call (.Name c p) [e] [] pos)) none pos2) (eRaise c ms) :=
  PS.imp (ps_raise hc tk (SkE.pmk_own1 PySem.F.excBase_ValueError (T.x c h) (T.g c h) (T.k c h) (raises_own (T.e c h).hs (T.ty c h)) hg hm hs hdb)) fun E σ H hh => by
    obtain ⟨p0, H0, ok0, S, o, ⟨O, r⟩, m, q⟩ := hh
    unfold eRaise at m
    split at m
    · next g =>
      cases m
      exact ⟨_, _, r.opened, fun m hm => List.all_eq_true.mp g m hm, fun y H' s => q h σ H' ⟨O, r.grow s⟩⟩
    · cases m

/-! ### a call of what may raise -/
structure CalE (P : Program) (w : World) (K : PySem.W.Frag) (mg : Str → Option Value) (base : Heap) (k : Nat) (x : Str) (sp : Sp) : Prop where
  ex : ∃ (f : Addr) (fd : FuncData) (ps : List Str), FnOk P w K mg base (L2.CX P w) k f fd ps sp ∧ mg x = some (.ref f) ∧ PySem.W.keepIn K (.ref f) = true ∧ Binds K fd ps []
theorem cal_ofE {P : Program} {w : World} {K : PySem.W.Frag} {mg : Str → Option Value} {base : Heap} {x : Str} {st : Stmt} {f : Addr} {fd : FuncData} {ps : List Str} {k : Nat} {sp : Sp} (F : L2.Fun K x x st f fd) (m : mg x = some (.ref f)) (o : FnOk P w K mg base (L2.CX P w) k f fd ps sp)
    (b : ∀ (kV doc pm : Value) (an : Option Addr) (cdv ct : Value) (us : List Value), us.length = ps.length → bindArgs (PySem.W.fnOf x x (defArgs st) (defBody st) (defScope st) .none kV doc pm an cdv ct) ⟨us, []⟩ = pure (ps.zip us)) : CalE P w K mg base k x sp :=
  ⟨f, fd, ps, o, m, F.kp, F.binds b⟩
def tCE (K : PySem.W.Frag) (n : Nat) (g : List D → Option Re) (W : WX) (mr : Ma) : TE := tCallS (spE K n g) (WE W) (tA K mr)
theorem pe_cE {k j n : Nat} {x : Str} {g : List D → Option Re} {p : Pos} {es : List Expr} {mr : Ma} (c : CalE X.prog X.w X.K X.mg X.base k x (spE X.K n g)) (tk : Takes X W) (hr : Room j X.A) (hk : k ≤ j) (hg : Gl X x) (ha : Ea X (e :: es) mr) (hdb : (x == ("__debug__" : Str)) = false := by decide)
    (he : starEach (e :: es) X.env = (false, eval e X.env) :: starEach es X.env := by rfl) (hpl : (backTo pos (starEach es X.env)).any (·.1) = false := by rfl) : PE X (.Call (.Name x p) (e :: es) [] pos) (tCE X.K n g W mr) := by
  obtain ⟨f, fd, ps, F, hm, kp, b⟩ := c.ex
  exact pe_callS F (hr.mono hk) hg hm kp b (fun σ => passAt tk σ) ha hdb he hpl
theorem t_cE {K : PySem.W.Frag} {n : Nat} {g : List D → Option Re} {mr : Ma} {σ : L2.St} {H : Hp} {Q : VK} {ok : Addr → Prop} {S : Sd} {ds : List D} {r : Re} (rs : Rs K H ok S σ) (h1 : mr S = some ds) (hn : ds.length = n) (h2 : g ds = some r)
    (q : match r with | .val d => ∀ v H', Same H H' → Rep K H' (ex ok H) v d → Q v H' | .exc c => c ∈ exNs → ∀ H', Same H H' → W (.ref (He.ga K c)) none σ H') : tCE K n g W mr σ H Q := by
  refine ⟨ok, S, ds, rs, h1, fun vs H' s rvs => ⟨ds, ex ok H, r, rvs, hn, h2, ?_⟩⟩
  cases r with
  | val d => exact back s q
  | exc c => exact fun hc H'' s' => q hc H'' (s.trans s')
def guardE (n : Nat) (g : List D → Option Re) : List D → Option Re := fun ds => if ds.length = n then g ds else none
theorem guardE_ok {n : Nat} {g : List D → Option Re} {ds : List D} {r : Re} (h : guardE n g ds = some r) : ds.length = n ∧ g ds = some r := by
  unfold guardE at h
  split at h
  · next hl => exact ⟨hl, h⟩
  · cases h
theorem ee_ret {n : Nat} {g : List D → Option Re} {mr : Ma} (h : PE X e (tCE X.K n g W mr)) : EsE X W (.Return (some e) pos) (eRet (guardE n g) mr) := PS.imp (ps_ret h) fun E σ H hh => by
  obtain ⟨p0, H0, ok0, S, o, ⟨O, r⟩, m, q⟩ := hh
  obtain ⟨ds, e1, m⟩ := bind_some m
  obtain ⟨x, e2, m⟩ := map_some m
  subst m
  obtain ⟨hn, e3⟩ := guardE_ok e2
  refine t_cE r.opened e1 hn e3 ?_
  cases x with
  | val d => exact fun v H' s rv => q v σ H' ⟨O, r.grow s⟩ (rv.keeps (Same.keeps (Same.refl _)) fun a h => good_open r h)
  | exc c => exact fun hc H' s => q hc σ H' ⟨O, r.grow s⟩
theorem ee_set (i : Nat) {n : Nat} {g : List D → Option Re} {mr : Ma} {x : Str} (hN : X.N.Nodup) (h : PE X e (tCE X.K n g W mr)) (hi : X.N[i]? = some x := by rfl) (hx : Loc X.env.scope x := by first | exact Or.inl rfl | exact Or.inr rfl) (hs : swapsWith e (some (.Name x pos')) pos.line X.env = pure false := by rfl)
    (hf : X.fn x = true ∨ X.env.scope.names.lookup x = some .local := by first | exact .inl rfl | exact .inr rfl) : EsE X W (.Assign [.Name x pos'] e pos) (eSet i (guardE n g) mr) := PS.imp (ps_set hN hi hx h hs hf) fun E σ H hh => by
  obtain ⟨p0, H0, ok0, S, o, ⟨O, r⟩, m, q⟩ := hh
  obtain ⟨ds, e1, m⟩ := bind_some m
  obtain ⟨x, e2, m⟩ := map_some m
  subst m
  obtain ⟨hn, e3⟩ := guardE_ok e2
  refine t_cE r.closed e1 hn e3 ?_
  cases x with
  | val d => exact fun v H' s rv => q _ H' ⟨O, (r.grow s).put (rv.keeps (Same.keeps (Same.refl _)) fun a h => good_new r h)⟩
  | exc c => exact fun hc H' s => q hc σ H' ⟨O, r.grow s⟩
theorem ee_drop {n : Nat} {g : List D → Option Re} {mr : Ma} (h : PE X e (tCE X.K n g W mr)) (hs : swapsWith e none pos.line X.env = pure false := by rfl) : EsE X W (.Expr e pos) (eDrop (guardE n g) mr) := PS.imp (ps_expr h hs) fun E σ H hh => by
  obtain ⟨p0, H0, ok0, S, o, ⟨O, r⟩, m, q⟩ := hh
  obtain ⟨ds, e1, m⟩ := bind_some m
  obtain ⟨x, e2, m⟩ := map_some m
  subst m
  obtain ⟨hn, e3⟩ := guardE_ok e2
  refine t_cE r.opened e1 hn e3 ?_
  cases x with
  | val d => exact fun v H' s rv => q _ H' ⟨O, r.grow s⟩
  | exc c => exact fun hc H' s => q hc σ H' ⟨O, r.grow s⟩
end

/-! ### defs that may raise -/
def outE : Oe → Option Re
  | .o (.rt d _) => some (.val d)
  | .o (.nx _) => some (.val .non)
  | .rx c _ => some (.exc c)
  | _ => none
def runE (n : Nat) (m : Me) (ds : List D) : Option Re := (m (initS n ds)).bind outE
section
variable {P : Program} {w : World} {K : PySem.W.Frag} {mg : Str → Option Value} {base : Heap} {x qual : Str} {st : Stmt} {f : Addr} {fd : FuncData} {N ps : List Str} {k : Nat} {mb : Me}
theorem fn_okE (F : Fun K x qual st f fd) (S : FnScope N ps (defScope st))
    (hb : ∀ (cdv : Value) (A : Around) (outer : List Env) (s : Shared) (H : Hp) (E : XK), Room k (A.deeper (envOfC qual (defScope st) s.heap.objs.size f cdv)) → EssE (cxOf (L2.CX P w) P w K mg base N qual (defScope st) f cdv A outer s H E) (fun cls d _ H => E cls d H) (defBody st) mb) :
    FnOk P w K mg base (L2.CX P w) (k + 1) f fd ps (spE K ps.length (runE N.length mb)) := by
  refine F.okX S (fun vs H Q E h => ?_) (fun cdv A outer s H vs Q E hr h => ?_)
  · obtain ⟨ds, ok, r, rs, hl, _⟩ := h
    rw [rs.length, hl]
  · obtain ⟨ds, ok, r, rs, hl, hg, q⟩ := h
    obtain ⟨o, e1, e2⟩ := bind_some hg
    refine ⟨_, hb cdv A outer s H E hr, 0, H, ok, _, o, ⟨_, init_RO rs⟩, e1, ?_⟩
    cases o with
    | rx c S' =>
      cases e2
      exact fun hc σ' H' ⟨O, r'⟩ => q hc H' r'.same
    | o x =>
      cases x with
      | rt d' S' => cases e2; exact fun v σ' H' ⟨O, r'⟩ rv => q v H' r'.same rv
      | nx S' => cases e2; exact fun σ' H' ⟨O, r'⟩ => q .non H' r'.same .non
      | bk S' => cases e2
      | ct S' => cases e2
end

/-! ### what is caught -/
def mIsE (i : Nat) (a : Addr) (b : Bool) : Mi := fun S => match S[i]? with
  | some (some (.raw (.ref a'))) => if a' = a then some (.bl b) else none
  | _ => none
theorem Ev.weak {X : Cx} {e : Expr} {m m' : Mi} (h : Ev X e m) (g : ∀ S z, m' S = some z → m S = some z) : Ev X e m' := PE.imp h fun σ H Q ⟨ok, S, d, rs, m, q⟩ => ⟨ok, S, d, rs, g S d m, q⟩
theorem Ea.weak {X : Cx} {es : List Expr} {m m' : Ma} (h : Ea X es m) (g : ∀ S z, m' S = some z → m S = some z) : Ea X es m' := PA.imp h fun σ H Q ⟨ok, S, d, rs, m, q⟩ => ⟨ok, S, d, rs, g S d m, q⟩
theorem mIsE_get {i : Nat} {a : Addr} {b : Bool} {S : Sd} {z : D} (h : mIsE i a b S = some z) : S[i]? = some (some (.raw (.ref a))) ∧ z = .bl b := by
  unfold mIsE at h
  split at h
  · next a' e =>
    split at h
    · next c => subst c; cases h; exact ⟨e, rfl⟩
    · cases h
  · cases h
def aK (K : PySem.W.Frag) (ds : List Str) : Ma := fun _ => some (ds.map fun d => .raw (.ref (He.ga K d)))
/-- isinstance(e, (c1, ..)), e the exception that the suite holds -/
def rIsET (K : PySem.W.Frag) (D a : Addr) : List V → Hp → VK → Prop := fun xs H Q => ∃ (tp : Addr) (cs : List V) (us : List Value) (b : Bool), xs = [.ref a, .ref tp] ∧ H tp = some (.tup cs) ∧ Paired ClsV cs us ∧ PySem.W.kitAny K (.ref D) us = some b ∧ Q (.bl b) H
theorem call_isET {X : Cx} {a D : Addr} {oe : Obj} {pn : List (Addr × Obj)} (C : ExcC X.K D) (hz : Zc (.ref D) none oe) (hf : ∃ vs, oe.data = .fields vs) : CallR (X.suite a ((a, oe) :: pn)) (.builtin "isinstance") (rIsET X.K D a) := by
  intro pins s σ H xs us Q I r h
  obtain ⟨tp, cs, ws, b, rfl, hT, k, e, q⟩ := h
  obtain ⟨u1, u2, rfl, r1, r2⟩ := vals2 r
  cases (show u2 = Value.ref tp from r2)
  cases (show u1 = Value.ref a from r1)
  obtain ⟨_, its, rv, o, h1, h2, n, h3⟩ := (show ObjOk X.prog X.w H s.heap tp (.tup cs) from I.hok tp _ hT)
  have e3 := ClsV.all k rv
  subst e3
  obtain ⟨oc, od, dt, sl⟩ := o
  simp only at h2 h3
  subst h2 h3
  obtain ⟨hget, _⟩ := I.pin (a, oe) (List.mem_append.mpr (.inl List.mem_cons_self))
  obtain ⟨vs, hv⟩ := hf
  have J : PySem.W.InstAt s.heap a oe D none := by
    obtain ⟨oc, od, oda, osl⟩ := oe
    obtain ⟨h1, h2⟩ := hz
    dsimp only at h1 h2 hv
    subst h1 h2 hv
    exact ⟨hget, rfl, rfl, trivial⟩
  exact PySem.W.kia_tup (PySem.W.handS_kitx_exc C.hg C.hk C.hs C.hd C.ha C.hn C.ht C.hm) I.kIn J h1 e (fun z => nomatch z) fun tk => ⟨.bl b, H, I.kept (t' := tk) fun _ _ z => z, rfl, q⟩
theorem reps_raw {K : PySem.W.Frag} {H : Hp} {ok : Addr → Prop} {f : Str → Addr} : ∀ {ds : List Str} {vs : List V}, Reps K H ok vs (ds.map fun d => .raw (.ref (f d))) → vs = ds.map fun d => .ref (f d)
  | [], _, r => by cases r; rfl
  | d :: ds, _, r => by
    cases r with
    | cons a r =>
      cases a
      rw [reps_raw r]
      rfl
theorem any_is {K : PySem.W.Frag} {mg : Str → Option Value} (T : ExT K mg) {c : Str} (hc : c ∈ exNs) : ∀ {ds : List Str}, (∀ d ∈ ds, d ∈ exNs) → PySem.W.kitAny K (.ref (He.ga K c)) (ds.map fun d => .ref (He.ga K d)) = some (decide (c ∈ ds))
  | [], _ => by simp [PySem.W.kitAny]
  | d :: ds, h => by
    have ih := any_is T hc (ds := ds) fun x hx => h x (List.mem_cons_of_mem _ hx)
    show (match PySem.W.kitOne K (.ref (He.ga K c)) (.ref (He.ga K d)) with
      | some true => some true
      | some false => PySem.W.kitAny K (.ref (He.ga K c)) (ds.map fun d => .ref (He.ga K d))
      | none => none) = _
    rw [T.is_ c hc d (h d List.mem_cons_self), ih]
    by_cases e : c = d
    · simp [e]
    · simp [e]
theorem paired_cls {f : Str → Addr} : ∀ (ds : List Str), Paired ClsV (ds.map fun d => V.ref (f d)) (ds.map fun d => Value.ref (f d))
  | [] => .nil
  | d :: ds => .cons (.own _) (paired_cls ds)
section
variable {X : Cx} {a : Addr} {oe : Obj} {pn : List (Addr × Obj)} {c : Str} {p pos p1 p2 : Pos} {n d : Str} {es : List Expr}
abbrev Cx.su (X : Cx) (a : Addr) (oe : Obj) (pn : List (Addr × Obj)) : Cx := Cx.suite X a ((a, oe) :: pn)
theorem ea_nm {ds : List Str} (T : ExT X.K X.mg) (hd : d ∈ exNs) (hg : Gl X d) (h : Ea X es (aK X.K ds)) (hs : starEach (.Name d p :: es) X.env = (false, eval (.Name d p) X.env) :: starEach es X.env := by rfl) (hdb : (d == ("__debug__" : Str)) = false := by decide) : Ea X (.Name d p :: es) (aK X.K (d :: ds)) :=
  Ea.weak (ea_cons (ev_c (pe_glob hg (T.g d hd) (v := .ref (He.ga X.K d)) rfl hdb) fun _ _ => .raw _) h hs) fun S z e => e
theorem ea_nm0 : Ea X [] (aK X.K []) := Ea.weak ea_nil fun S z e => e
open Classical in
theorem ev_is1 (i : Nat) (T : ExT X.K X.mg) (hc : c ∈ exNs) (hd : d ∈ exNs) (hz : Zc (.ref (He.ga X.K c)) none oe) (hf : ∃ vs, oe.data = .fields vs) (he : Ev (Cx.su X a oe pn) (.Name n p1) (mV i)) (hg : Gl (Cx.su X a oe pn) d) (hi : Gl (Cx.su X a oe pn) "isinstance")
    (hsn : starEach [.Name n p1, .Name d p2] (Cx.su X a oe pn).env = (false, eval (.Name n p1) (Cx.su X a oe pn).env) :: starEach [.Name d p2] (Cx.su X a oe pn).env := by rfl) (hdb : (d == ("__debug__" : Str)) = false := by decide) (hpl : (backTo pos (starEach [.Name d p2] (Cx.su X a oe pn).env)).any (·.1) = false := by rfl)
    (hs2 : starEach [.Name d p2] (Cx.su X a oe pn).env = (false, eval (.Name d p2) (Cx.su X a oe pn).env) :: starEach [] (Cx.su X a oe pn).env := by rfl) :
    Ev (Cx.su X a oe pn) (.Call (.Name "isinstance" p) [.Name n p1, .Name d p2] [] pos) (mIsE i a (decide (c = d))) :=
  Ev.weak (ev_callB (f := fun ds => if ds = [.raw (.ref a), .raw (.ref (He.ga X.K d))] then some (.bl (decide (c = d))) else none) (call_isE (T.e c hc) hz hf) (fun vs ds z H ok Q r e q => by
    dsimp only at e
    split at e
    · next h =>
      subst h
      cases e
      cases r with
      | cons r1 r =>
        cases r with
        | cons r2 r =>
          cases r
          cases r1
          cases r2
          exact ⟨.ref (He.ga X.K d), .ref (He.ga X.K d), _, rfl, fun u r => r, T.is_ c hc d hd, q _ H (Same.refl H) (.bl _)⟩
    · cases e) hi T.fi rfl (ea_cons he (ea_nm (X := Cx.su X a oe pn) T hd hg ea_nm0 hs2 hdb) hsn) (he := hsn) (hpl := hpl)) fun S z e => by
      obtain ⟨h1, rfl⟩ := mIsE_get e
      show (((mV i S).bind fun x => ((aK X.K [d] S).bind fun xs => some (x :: xs))).bind _) = _
      have : mV i S = some (.raw (.ref a)) := by unfold mV; rw [h1]
      rw [this]
      exact if_pos rfl
open Classical in
theorem ev_isV (i : Nat) (T : ExT X.K X.mg) (hc : c ∈ exNs) (hz : Zc (.ref (He.ga X.K c)) none oe) (hf : ∃ vs, oe.data = .fields vs) (he : Ev (Cx.su X a oe pn) (.Name n p1) (mV i)) (hg : Gl (Cx.su X a oe pn) "ValueError") (hi : Gl (Cx.su X a oe pn) "isinstance")
    (hsn : starEach [.Name n p1, .Name "ValueError" p2] (Cx.su X a oe pn).env = (false, eval (.Name n p1) (Cx.su X a oe pn).env) :: starEach [.Name "ValueError" p2] (Cx.su X a oe pn).env := by rfl) (hpl : (backTo pos (starEach [.Name "ValueError" p2] (Cx.su X a oe pn).env)).any (·.1) = false := by rfl)
    (hs2 : starEach [.Name "ValueError" p2] (Cx.su X a oe pn).env = (false, eval (.Name "ValueError" p2) (Cx.su X a oe pn).env) :: starEach [] (Cx.su X a oe pn).env := by rfl) :
    Ev (Cx.su X a oe pn) (.Call (.Name "isinstance" p) [.Name n p1, .Name "ValueError" p2] [] pos) (mIsE i a true) :=
  Ev.weak (ev_callB (f := fun ds => if ds = [.raw (.ref a), .raw (.ty "ValueError")] then some (.bl true) else none) (call_isE (T.e c hc) hz hf) (fun vs ds z H ok Q r e q => by
    dsimp only at e
    split at e
    · next h =>
      subst h
      cases e
      cases r with
      | cons r1 r =>
        cases r with
        | cons r2 r =>
          cases r
          cases r1
          cases r2
          exact ⟨.ty "ValueError", .type "ValueError", _, rfl, fun u r => r, T.ve c hc, q _ H (Same.refl H) (.bl _)⟩
    · cases e) hi T.fi rfl (ea_cons he (ea_cons (ev_bty "ValueError" hg T.fV rfl) ea_nil hs2) hsn) (he := hsn) (hpl := hpl)) fun S z e => by
      obtain ⟨h1, rfl⟩ := mIsE_get e
      show (((mV i S).bind fun x => (((mC (.raw (.ty "ValueError")) S).bind fun x => (aNil S).bind fun xs => some (x :: xs)).bind fun xs => some (x :: xs))).bind _) = _
      have : mV i S = some (.raw (.ref a)) := by unfold mV; rw [h1]
      rw [this]
      exact if_pos rfl
open Classical in
theorem ev_isT (i : Nat) {ds : List Str} {k : Nat} {tp : Pos} (T : ExT X.K X.mg) (hc : c ∈ exNs) (hd : ∀ d ∈ ds, d ∈ exNs) (hz : Zc (.ref (He.ga X.K c)) none oe) (hf : ∃ vs, oe.data = .fields vs) (he : Ev (Cx.su X a oe pn) (.Name n p1) (mV i)) (ht : Ea (Cx.su X a oe pn) es (aK X.K ds)) (hi : Gl (Cx.su X a oe pn) "isinstance") (hl : ds.length ≤ 1000000)
    (hsn : starEach [.Name n p1, .Tuple es k tp] (Cx.su X a oe pn).env = (false, eval (.Name n p1) (Cx.su X a oe pn).env) :: starEach [.Tuple es k tp] (Cx.su X a oe pn).env := by rfl) (hpl : (backTo pos (starEach [.Tuple es k tp] (Cx.su X a oe pn).env)).any (·.1) = false := by rfl)
    (hs2 : starEach [.Tuple es k tp] (Cx.su X a oe pn).env = (false, eval (.Tuple es k tp) (Cx.su X a oe pn).env) :: starEach [] (Cx.su X a oe pn).env := by rfl) :
    Ev (Cx.su X a oe pn) (.Call (.Name "isinstance" p) [.Name n p1, .Tuple es k tp] [] pos) (mIsE i a (decide (c ∈ ds))) :=
  Ev.weak (ev_callB (f := fun xs => if xs = [.raw (.ref a), .tup (ds.map fun d => .raw (.ref (He.ga X.K d)))] then some (.bl (decide (c ∈ ds))) else none) (call_isET (T.e c hc) hz hf) (fun vs xs z H ok Q r e q => by
    dsimp only at e
    split at e
    · next h =>
      subst h
      cases e
      cases r with
      | cons r1 r =>
        cases r with
        | cons r2 r =>
          cases r
          cases r1
          cases r2 with
          | tup ht rr =>
            have := reps_raw rr
            subst this
            exact ⟨_, _, _, _, rfl, ht, paired_cls ds, any_is T hc hd, q _ H (Same.refl H) (.bl _)⟩
    · cases e) hi T.fi rfl (ea_cons he (ea_cons (ev_tup ht) ea_nil hs2) hsn) (he := hsn) (hpl := hpl)) fun S z e => by
      obtain ⟨h1, rfl⟩ := mIsE_get e
      show (((mV i S).bind fun x => ((((aK X.K ds S).bind tupD).bind fun x => (aNil S).bind fun xs => some (x :: xs)).bind fun xs => some (x :: xs))).bind _) = _
      have : mV i S = some (.raw (.ref a)) := by unfold mV; rw [h1]
      rw [this]
      have e2 : (aK X.K ds S).bind tupD = some (.tup (ds.map fun d => .raw (.ref (He.ga X.K d)))) := by
        show tupD (ds.map fun d => .raw (.ref (He.ga X.K d))) = _
        unfold tupD
        rw [if_pos (by rw [List.length_map]; exact hl)]
      rw [e2]
      exact if_pos rfl
end
def sTry (i : Nat) (mb : Me) (h : Str → Option D) : Ms := fun S => (mb S).bind fun o => match o with
  | .o x => some x
  | .rx c S' => if i < S'.length then (h c).map fun d => .rt d (S'.set i .un) else none
theorem es_try {X : Cx} (i : Nat) {n : Str} {body suite : List Stmt} {b₀ : Stmt} {np pos pos' : Pos} {mb : Me} {hs : Addr → Str → Ms} {h : Str → Option D} (T : ExT X.K X.mg) (hst : X.stack = X.env :: X.outer) (hf : X.env.frame = some X.env.locals) (hN : X.N.Nodup) (hi : X.N[i]? = some n) (hln : X.env.kindOf n = some .local) (hg : Gl X "IceError")
    (hb : ∀ (W : WX) (pn : List (Addr × Obj)) (xe : Value → Shared → Prop), Takes (Cx.tr X pn xe) W → PassesOwn (model X.prog X.w) X.A X.env xe → EssE (Cx.tr X pn xe) W body mb)
    (hsu : ∀ (a : Addr) (oe : Obj) (c : Str) (pn : List (Addr × Obj)), c ∈ exNs → Zc (.ref (He.ga X.K c)) none oe → (∃ vs, oe.data = .fields vs) → Ess (Cx.su X a oe pn) (b₀ :: suite) (hs a c))
    (hh : ∀ (a : Addr) (c : Str) (d : D) (S : Sl), i < S.length → h c = some d → hs a c (S.set i (.dat (.raw (.ref a)))) = some (.rt d (S.set i (.dat (.raw (.ref a)))))) :
    Es X (.Try body [.ExceptHandler (some (.Name "IceError" np)) (some n) (b₀ :: suite) pos'] [] [] pos) (sTry i mb h) :=
  PS.imp (ps_try_as (i := i) (c := .ref (He.ga X.K "IceError")) (tb := fun W => tSE X.K W mb) (ts := fun a cls d E σ H => ∃ c, c ∈ exNs ∧ cls = .ref (He.ga X.K c) ∧ d = none ∧ tS X.K (hs a c) E σ H) (Wout := fun _ _ _ _ => False) hst hf hN hi hln ⟨hg, by decide, .inl T.gI⟩ takes0 hb
    (fun a oe cls d pn hz hfl => ⟨fun pins s σ H D I hw => by
      obtain ⟨c, hc, rfl, rfl, q⟩ := hw
      exact (hsu a oe c pn hc hz hfl).run pins s σ H D I q⟩)) fun E σ H hh' => by
    obtain ⟨p0, H0, ok0, S, o, r, m, q⟩ := hh'
    obtain ⟨o1, e1, m⟩ := bind_some m
    refine ⟨p0, H0, ok0, S, o1, r, e1, ?_⟩
    cases o1 with
    | o x => cases m; exact q
    | rx c S' =>
      have m' : (if i < S'.length then (h c).map fun d => Out.rt d (S'.set i .un) else none) = some o := m
      by_cases hl : i < S'.length
      · rw [if_pos hl] at m'
        obtain ⟨d, e2, e3⟩ := map_some m'
        subst e3
        refine fun hc σ1 H1 ⟨O, r1⟩ => ⟨true, T.m c hc, fun _ a ha => ⟨c, hc, rfl, rfl, p0, H0, ok0, _, _, ⟨O, r1.put (i := i) (.raw (.ref a))⟩, hh a c d S' hl e2, fun v σ2 H2 ⟨O2, r2⟩ rv => ?_⟩, fun z => nomatch z⟩
        refine q v σ2 H2 ⟨O2, ?_⟩ rv
        have := r2.drop i
        rw [List.set_set] at this
        exact this
      · rw [if_neg hl] at m'; cases m'
theorem mIsE_set {i : Nat} {a : Addr} {b : Bool} {S : Sl} (h : i < S.length) : mIsE i a b (op (S.set i (.dat (.raw (.ref a))))) = some (.bl b) := by
  unfold mIsE
  have : (op (S.set i (.dat (.raw (.ref a)))))[i]? = some (some (.raw (.ref a))) := by
    rw [List.getElem?_map, List.getElem?_set, if_pos rfl, if_pos h]
    rfl
  rw [this]
  exact if_pos rfl
theorem exNe : (("BadHouse" : Str) ≠ "NoSuch") ∧ (("BadHouse" : Str) ≠ "BadDeeds") ∧ (("BadHouse" : Str) ≠ "BadPlan") ∧ (("BadHouse" : Str) ≠ "BadText") ∧ (("NoSuch" : Str) ≠ "BadHouse") ∧ (("NoSuch" : Str) ≠ "BadDeeds") ∧ (("NoSuch" : Str) ≠ "BadPlan") ∧ (("NoSuch" : Str) ≠ "BadText") ∧ (("BadDeeds" : Str) ≠ "BadHouse") ∧ (("BadDeeds" : Str) ≠ "NoSuch") ∧ (("BadDeeds" : Str) ≠ "BadPlan") ∧ (("BadDeeds" : Str) ≠ "BadText") ∧ (("BadPlan" : Str) ≠ "BadHouse") ∧ (("BadPlan" : Str) ≠ "NoSuch") ∧ (("BadPlan" : Str) ≠ "BadDeeds") ∧ (("BadPlan" : Str) ≠ "BadText") ∧ (("BadText" : Str) ≠ "BadHouse") ∧ (("BadText" : Str) ≠ "NoSuch") ∧ (("BadText" : Str) ≠ "BadDeeds") ∧ (("BadText" : Str) ≠ "BadPlan") := by decide +kernel
end Ice

/-! what may raise, called where it doesn't; defs as values -/
namespace Ice
open PySem PySem.Spec PyProof.Rows L2
/-- a def that may raise, where it gives back -/
def guardV (n : Nat) (g : List D → Option Re) : List D → Option D := fun ds => if ds.length = n then (g ds).bind fun r => match r with
  | .val d => some d
  | .exc _ => none
  else none
theorem guardV_ok {n : Nat} {g : List D → Option Re} {ds : List D} {d : D} (h : guardV n g ds = some d) : ds.length = n ∧ g ds = some (.val d) := by
  unfold guardV at h
  split at h
  · next hl =>
    obtain ⟨r, e1, e2⟩ := bind_some h
    cases r with
    | val d' => cases e2; exact ⟨hl, e1⟩
    | exc c => cases e2
  · cases h
section
variable {X : Cx} {e : Expr} {es : List Expr} {mr : Ma} {pos p : Pos} {x : Str} {W : WX}
theorem ev_callE {k j n : Nat} {g : List D → Option Re} (c : CalE X.prog X.w X.K X.mg X.base k x (spE X.K n g)) (hr : Room j X.A) (hk : k ≤ j) (hg : Gl X x) (ha : Ea X (e :: es) mr) (hdb : (x == ("__debug__" : Str)) = false := by decide)
    (he : starEach (e :: es) X.env = (false, eval e X.env) :: starEach es X.env := by rfl) (hpl : (backTo pos (starEach es X.env)).any (·.1) = false := by rfl) : Ev X (.Call (.Name x p) (e :: es) [] pos) (mA (guardV n g) mr) :=
  PE.imp (pe_cE c takes0 hr hk hg ha hdb he hpl) fun σ H Q h => by
    obtain ⟨ok, S, d, rs, m, q⟩ := h
    obtain ⟨ds, h1, m⟩ := bind_some m
    obtain ⟨hn, e1⟩ := guardV_ok m
    exact t_cE (r := .val d) rs h1 hn e1 q
/-- a def's name as a value -/
theorem ev_fn {a : Addr} (hg : Gl X x) (hm : X.mg x = some (.ref a)) (hd : (x == ("__debug__" : Str)) = false := by decide) : Ev X (.Name x pos) (mC (.raw (.ref a))) := ev_c (pe_glob hg hm (v := .ref a) rfl hd) fun _ _ => .raw _
/-- .. that may raise, by its address -/
structure CalAtE (P : Program) (w : World) (K : PySem.W.Frag) (mg : Str → Option Value) (base : Heap) (k : Nat) (f : Addr) (sp : Sp) : Prop where
  ex : ∃ (fd : FuncData) (ps : List Str), FnOk P w K mg base (L2.CX P w) k f fd ps sp ∧ PySem.W.keepIn K (.ref f) = true ∧ Binds K fd ps []
theorem CalE.at {P : Program} {w : World} {K : PySem.W.Frag} {mg : Str → Option Value} {base : Heap} {k : Nat} {sp : Sp} {a : Addr} (c : CalE P w K mg base k x sp) (h : mg x = some (.ref a)) : CalAtE P w K mg base k a sp := by
  obtain ⟨f, fd, ps, F, hm, kp, b⟩ := c.ex
  have e := hm.symm.trans h
  cases e
  exact ⟨fd, ps, F, kp, b⟩
/-- a local name that holds a def, called -/
theorem pe_cvE {i k j : Nat} {f : Addr} {sp : Sp} {t : TA} (c : CalAtE X.prog X.w X.K X.mg X.base k f sp) (tk : Takes X W) (hr : Room j X.A) (hk : k ≤ j) (hN : X.N[i]? = some x) (hv : Vis X.env.scope x) (ha : PA X (e :: es) t)
    (hd : (x == ("__debug__" : Str)) = false) (hcd : (x == ("__classdict__" : Str)) = false)
    (he : starEach (e :: es) X.env = (false, eval e X.env) :: starEach es X.env) (hpl : (backTo pos (starEach es X.env)).any (·.1) = false) :
    PE X (.Call (.Name x p) (e :: es) [] pos) (fun σ H Q => σ[i]? = some (some (.ref f)) ∧ t σ H fun vs H1 => sp vs H1 Q (WE W σ)) := by
  refine ⟨fun pins s σ H Q I h => ?_⟩
  obtain ⟨hs, ht⟩ := h
  obtain ⟨fd, ps, F, kp, b⟩ := c.ex
  refine wpAny_Call_Name_kw (thn ((pe_var (pos := p) hN hv hd hcd).run pins s σ H (fun v H1 => v = .ref f ∧ H1 = H) I ⟨.ref f, hs, rfl, rfl⟩) fun u s1 ⟨v, H1, I1, r1, q1⟩ => ?_)
  obtain ⟨rfl, rfl⟩ := q1
  cases r1
  refine PySem.W.callWith_K (h₀ := X.base) I.ok.mod.kin kp (thn (ha.run pos pins s1 σ _ _ I1 ht) fun us s2 ⟨vs, H2, I2, r, q⟩ => ⟨I2.kIn, ?_⟩) he hpl
  exact run_fnS F (hr.mono hk) b (passAt tk σ) I2 r q
def eDropV (i : Nat) (a1 a2 : Addr) (g1 g2 : List D → Option Re) (ma : Ma) : Me := fun S => match S[i]? with
  | some (.dat (.raw (.ref a))) => if a = a1 then eDrop g1 ma S else if a = a2 then eDrop g2 ma S else none
  | _ => none
theorem ee_dropV (i : Nat) {k1 k2 j n : Nat} {a1 a2 : Addr} {g1 g2 : List D → Option Re} (c1 : CalAtE X.prog X.w X.K X.mg X.base k1 a1 (spE X.K n g1)) (c2 : CalAtE X.prog X.w X.K X.mg X.base k2 a2 (spE X.K n g2)) (tk : Takes X W) (hr : Room j X.A) (hk1 : k1 ≤ j) (hk2 : k2 ≤ j) (ha : Ea X (e :: es) mr)
    {pos' : Pos} (hN : X.N[i]? = some x := by rfl) (hv : Vis X.env.scope x := by first | exact Or.inl rfl | exact Or.inr (Or.inl rfl) | exact Or.inr (Or.inr rfl))
    (hd : (x == ("__debug__" : Str)) = false := by decide) (hcd : (x == ("__classdict__" : Str)) = false := by decide) (he : starEach (e :: es) X.env = (false, eval e X.env) :: starEach es X.env := by rfl) (hpl : (backTo pos (starEach es X.env)).any (·.1) = false := by rfl)
    (hs : swapsWith (.Call (.Name x p) (e :: es) [] pos) none pos'.line X.env = pure false := by rfl) : EsE X W (.Expr (.Call (.Name x p) (e :: es) [] pos) pos') (eDropV i a1 a2 (guardE n g1) (guardE n g2) mr) := by
  refine ⟨fun pins s σ H E I h => ?_⟩
  obtain ⟨p0, H0, ok0, S, o, ⟨O, r⟩, m, q⟩ := h
  have go : ∀ {k : Nat} {a : Addr} {g : List D → Option Re}, CalAtE X.prog X.w X.K X.mg X.base k a (spE X.K n g) → k ≤ j → S[i]? = some (.dat (.raw (.ref a))) → eDrop (guardE n g) mr S = some o → wpAny (model X.prog X.w) X.A (exec (.Expr (.Call (.Name x p) (e :: es) [] pos) pos') X.env) (SP X pins E) X.xe s := fun {k a g} c hk hS m => by
    refine (ps_expr (pe_cvE (i := i) c tk hr hk hN hv ha hd hcd he hpl) hs).run pins s σ H E I ?_
    obtain ⟨v, h1, h2⟩ := r.dat i _ hS
    cases h2
    obtain ⟨ds, e1, m⟩ := bind_some m
    obtain ⟨z, e2, m⟩ := map_some m
    subst m
    obtain ⟨hn, e3⟩ := guardE_ok e2
    refine ⟨h1, t_cE (W := W) r.opened e1 hn e3 ?_⟩
    cases z with
    | val d => exact fun v H' s rv => q _ H' ⟨O, r.grow s⟩
    | exc c => exact fun hc H' s => q hc σ H' ⟨O, r.grow s⟩
  unfold eDropV at m
  split at m
  · next a hS =>
    split at m
    · next c => subst c; exact go c1 hk1 hS m
    · split at m
      · next c => subst c; exact go c2 hk2 hS m
      · cases m
  · cases m
end
end Ice

/-! a list of lists that a call gave, its first one changed -/
namespace Ice
open PySem PySem.Spec PyProof.Rows L2
theorem at0 {α : Type} {x : α} {xs : List α} : atI (x :: xs) 0 = some x := by
  unfold atI ixN
  have : (0 : Int) < ((x :: xs).length : Nat) := by show (0 : Int) < ((xs.length + 1 : Nat) : Int); omega
  rw [if_pos (Int.le_refl _), if_pos this]
  rfl
def sRowApp (i : Nat) (me : Mi) (t1 t2 : Mt) (m : Ms) : Ms := fun S => if i < S.length then (me (fl S)).bind fun d => match d with
  | .lst (.lst r :: rs) => if r.length < 1000000 then (t1 (op (S.set i (.dat d)))).bind fun x => if x = true then none else (t2 (op (S.set i (.dat d)))).bind fun x => if x = true then none else m (S.set i .un) else none
  | _ => none
  else none
theorem ess_rowapp {X : Cx} {e c1 c2 : Expr} {b1 b2 rest : List Stmt} {me : Mi} {t1 t2 : Mt} {m : Ms} {y : Str} {z : Int} {j0 j1 : Nat} {pos py q1 q2 p1 p2 p3 p4 p5 p6 pos2 : Pos} {m1 m2 : Ms} (i : Nat) (hN : X.N.Nodup) (he : Ev X e me) (h1 : Et X c1 t1) (hb1 : Ess X b1 m1) (h2 : Et X c2 t2) (hb2 : Ess X b2 m2) (hr : Ess X rest m)
    (hi : X.N[i]? = some y := by rfl) (hx : Loc X.env.scope y := by first | exact Or.inl rfl | exact Or.inr rfl) (hs : swapsWith e (some (.Name y py)) pos.line X.env = pure false := by rfl)
    (hf : X.fn y = true ∨ X.env.scope.names.lookup y = some .local := by first | exact .inl rfl | exact .inr rfl)
    (hv : Vis X.env.scope y := by first | exact Or.inl rfl | exact Or.inr (Or.inl rfl) | exact Or.inr (Or.inr rfl)) (hd : (y == ("__debug__" : Str)) = false := by decide) (hcd : (y == ("__classdict__" : Str)) = false := by decide)
    (hbase : attributeBase (.Subscript (.Name y p1) (.Constant (.int 0) j0 p5) p2) "append" X.env (eval (.Subscript (.Name y p1) (.Constant (.int 0) j0 p5) p2) X.env) = eval (.Subscript (.Name y p1) (.Constant (.int 0) j0 p5) p2) X.env := by rfl)
    (hfew : ((backTo p4 (starEach [.Constant (.int z) j1 p6] X.env)).all (fun x => !x.1) && (backToKw p4 (keywordEach [] X.env)).all (fun x => x.1.isSome) && decide ([Expr.Constant (.int z) j1 p6].length + ([] : List Keyword).length + (if ([] : List Keyword).isEmpty then 0 else 1) < 30)) = true := by rfl)
    (hline : (p3.endLine == p4.line) = true := by rfl) (hse : starEach [.Constant (.int z) j1 p6] X.env = (false, eval (.Constant (.int z) j1 p6) X.env) :: starEach [] X.env := by rfl) (hplain : (backTo p4 (starEach [] X.env)).any (fun x => x.1) = false := by rfl)
    (hs2 : swapsWith (.Call (.Attribute (.Subscript (.Name y p1) (.Constant (.int 0) j0 p5) p2) "append" p3) [.Constant (.int z) j1 p6] [] p4) none pos2.line X.env = pure false := by rfl) :
    Ess X (.Assign [.Name y py] e pos :: .If c1 b1 [] q1 :: .If c2 b2 [] q2 :: .Expr (.Call (.Attribute (.Subscript (.Name y p1) (.Constant (.int 0) j0 p5) p2) "append" p3) [.Constant (.int z) j1 p6] [] p4) pos2 :: rest) (sRowApp i me t1 t2 m) :=
  PSs.imp (pss_cons (ps_set hN hi hx he hs hf) (pss_cons (ps_if h1 hb1 pss_nil) (pss_cons (ps_if h2 hb2 pss_nil) (pss_cons (ps_expr (pe_bm PySem.F.plainAttrs_list PySem.F.slot_list_append PySem.F.type_list_append mt_append (pe_ix ix_seq (pe_var hi hv hd hcd) ev_int (fun _ _ => rfl)) (ea_cons ev_int ea_nil hse) hbase hfew hline hse hplain) hs2) hr)))) fun E σ H h => by
    obtain ⟨p0, H0, ok0, S, o, ⟨O, r⟩, mm, q⟩ := h
    unfold sRowApp at mm
    split at mm
    · next hil =>
      obtain ⟨d, e1, mm⟩ := bind_some mm
      split at mm
      · next r0 rs =>
        split at mm
        · next hrl =>
          obtain ⟨x1, f1, mm⟩ := bind_some mm
          cases x1 with
          | true => cases mm
          | false =>
          rw [if_neg Bool.false_ne_true] at mm
          obtain ⟨x2, f2, mm⟩ := bind_some mm
          cases x2 with
          | true => cases mm
          | false =>
          rw [if_neg Bool.false_ne_true] at mm
          refine ⟨_, _, _, r.flatly, e1, fun v H1 s rv => ?_⟩
          have r1 := (r.grow s).put (i := i) (rv.keeps (Same.keeps (Same.refl _)) fun a h => good_new r (h.elim (fun z => z.elim) .inr))
          refine ⟨_, _, false, r1.opened, f1, fun H2 s2 => ?_⟩
          have r2 := r1.grow s2
          refine ⟨_, _, false, r2.opened, f2, fun H3 s3 => ?_⟩
          have r3 := r2.grow s3
          have s13 := s2.trans s3
          cases rv with
          | lst g h rr =>
          cases rr with
          | cons rv0 rr =>
          cases rv0 with
          | lst g0 h0 rr0 =>
          have hD := s13 _ _ h
          have hp := s13 _ _ h0
          have hpn : H _ = none := g0.elim (fun z => z.elim) fun z => z
          refine ⟨_, List.getElem?_set_self (by rw [← r.len]; exact hil), _, _, .int 0, r3.opened, rfl, fun v0 H4 s4 rz => ?_⟩
          cases rz
          refine .inl ⟨_, _, 0, _, rfl, rfl, SqL.of (s4 _ _ hD), at0, .inl ⟨rfl, _, SqL.of (s4 _ _ hp)⟩, _, _, [.int z], (r3.grow s4).opened, rfl, fun us H5 s5 ru => ?_⟩
          cases ru with
          | cons ra ru =>
          cases ru
          cases ra
          have s45 := s4.trans s5
          have hp5 := s45 _ _ hp
          refine ⟨_, _, _, rfl, rfl, hp5, by rw [rr0.length]; exact Nat.lt_trans hrl (by decide), ?_⟩
          have rf : ∀ (a : Addr) (ob' : HO) (v : V), H a = none → RO X.K p0 H0 ok0 O (S.set i .un) (σ.set i (some v)) (upd H5 a ob') := fun a ob' v hn => by
            have sf : Same H (upd H5 a ob') := fun x ob e => by
              rw [upd_ne (ne_of_none e hn)]
              exact s45 _ _ (s13 _ _ (s _ _ e))
            have := ((r.grow sf).put (i := i) (d := .raw v) (.raw v)).drop i
            rw [List.set_set] at this
            exact this
          exact ⟨p0, H0, ok0, _, o, ⟨O, rf _ _ _ hpn⟩, mm, q⟩
        · cases mm
      · cases mm
    · cases mm
end Ice

/-! a loop whose body may raise -/
namespace Ice
open PySem PySem.Spec PyProof.Rows L2
theorem ReachE.rebaseE {K : PySem.W.Frag} {p0 : Addr} {H0 Hb : Hp} {ok0 : Addr → Prop} {W : WX} {E : Ends} (s : Same H0 Hb) : ∀ {o : Oe}, ReachE K p0 H0 ok0 W E o → ReachE K p0 Hb (ex ok0 H0) W E o
  | .o _, q => Reach.rebase s q
  | .rx _ _, q => fun hc σ H ⟨O, r⟩ => q hc σ H ⟨O, r.unbase s⟩
def forE (t : Tg) (b : Me) : List D → Sl → Option Oe
  | [], S => some (.o (.nx S))
  | d :: r, S => (asgL t d S).bind fun S1 => (b S1).bind fun o => match o with
    | .o (.nx S2) => forE t b r S2
    | .o (.ct S2) => forE t b r S2
    | .o (.bk S2) => some (.o (.nx S2))
    | .o (.rt d S2) => some (.o (.rt d S2))
    | .rx c S2 => some (.rx c S2)
def eFor (mi : Ma) (t : Tg) (b : Me) : Me := fun S => (mi (cl S)).bind fun ds => forE t b ds S
theorem t_forE {K : PySem.W.Frag} {W : WX} {mi : Ma} {t : Tg} {b : Me} {E : Ends} {σ : L2.St} {H : Hp} (h : tSE K W (eFor mi t b) E σ H) : tFor (tI K mi) (tGL K t) (tSE K W b) E σ H := by
  obtain ⟨p0, H0, ok0, S, o, ⟨O, r⟩, m, q⟩ := h
  obtain ⟨ds, e1, m⟩ := bind_some m
  refine ⟨_, _, ds, r.closed, e1, fun J H1 s wk => ?_⟩
  have r1 := r.grow s
  have sb := base_same r1
  have q1 := q.rebaseE (K := K) sb
  -- what the walk leans on is not owned
  have kp : Keeps (fun a => ex (fun a => ex ok0 H0 a ∧ ¬ O a) H a ∧ H1 a ≠ none) H1 (off H1 O) := fun a o e g => by
    have c : ¬ O a := fun z => by
      rcases g with g | g
      · exact (good_new r g.1).2 z
      · obtain ⟨_, vs, e2⟩ := r1.own0 a z
        rw [e2] at e
        cases e
        exact g
    rw [off_of c]
    exact e
  refine ⟨fun i n σ' H' => n = ds.length - i ∧ i ≤ ds.length ∧ ∃ S' o', RS K p0 (off H1 O) (ex ok0 H0) S' σ' H' ∧ forE t b (ds.drop i) S' = some o' ∧ ReachE K p0 (off H1 O) (ex ok0 H0) W E o', ⟨ds.length, rfl, Nat.zero_le _, S, o, ⟨O, r1.base⟩, m, q1⟩, ?_⟩
  rintro i n σ' H' ⟨rfl, hi, S', o', ⟨O', r'⟩, hm, hq⟩
  have wk' := wk _ kp i H' r'.same
  by_cases hlt : i < ds.length
  · have hg : ds[i]? = some ds[i] := List.getElem?_eq_getElem hlt
    have hdrop : ds.drop i = ds[i] :: ds.drop (i + 1) := List.drop_eq_getElem_cons hlt
    obtain ⟨go, yl⟩ := wk'.1 _ hg
    rw [hdrop] at hm
    obtain ⟨S1, ha, hm⟩ := bind_some (show (asgL t ds[i] S').bind _ = some o' from hm)
    obtain ⟨ob, hb, hm⟩ := bind_some hm
    let Nx : L2.St → Hp → Prop := fun σ'' H'' => i + 1 ≤ ds.length ∧ ∃ S' o', RS K p0 (off H1 O) (ex ok0 H0) S' σ'' H'' ∧ forE t b (ds.drop (i + 1)) S' = some o' ∧ ReachE K p0 (off H1 O) (ex ok0 H0) W E o'
    refine .inr ⟨go, Nx, fun σ'' H'' nx => ⟨ds.length - (i + 1), by omega, rfl, nx⟩, fun x H3 y => ?_⟩
    obtain ⟨s3, rx⟩ := yl x H3 y
    refine ⟨_, _, _, O', S', ds[i], S1, r'.grow s3, rx.keeps (Same.keeps (Same.refl _)) (fun a g => ?_), ha, fun σ2 r2 => ⟨_, _, _, S1, ob, ⟨O', r2⟩, hb, ?_⟩⟩
    · obtain ⟨g1, g2⟩ := g
      have gg := good_new r g1
      refine ⟨.inl gg.1, fun z => ?_⟩
      obtain ⟨z1, _⟩ := r'.own0 a z
      rw [off_of gg.2] at z1
      exact g2 z1
    · cases ob with
      | rx c S2 => cases hm; exact fun hc σ4 H4 r4 => hq hc σ4 H4 r4
      | o x =>
        cases x with
        | nx S2 => exact fun σ4 H4 r4 => ⟨hlt, S2, o', r4, hm, hq⟩
        | ct S2 => exact fun σ4 H4 r4 => ⟨hlt, S2, o', r4, hm, hq⟩
        | bk S2 => cases hm; exact fun σ4 H4 r4 => hq σ4 H4 r4
        | rt d S2 => cases hm; exact fun v σ4 H4 r4 rv => hq v σ4 H4 r4 rv
  · have e : i = ds.length := by omega
    subst e
    rw [List.drop_length] at hm
    cases hm
    exact .inl ⟨wk'.2 (List.getElem?_eq_none_iff.mpr (Nat.le_refl _)), hq σ' H' ⟨O', r'⟩⟩
theorem ee_for {X : Cx} {tg iter : Expr} {body : List Stmt} {mi : Ma} {t : Tg} {mb : Me} {W : WX} {pos : Pos} (hp : PassesOwn (model X.prog X.w) X.A X.env X.xe) (hi : Ei X tg iter mi) (hg : El X tg t) (hb : EssE X W body mb) (hc : X.calm = true := by rfl) (hs : ∀ x, foldedSetIterable iter X.env x = pure x := by intro _; rfl) :
    EsE X W (.For tg iter body [] pos) (eFor mi t mb) := PS.imp (ps_for hp hc hi hg hb hs) fun E σ H h => t_forE h
/-! ### a suite that falls through -/
theorem RO.unset {K : PySem.W.Frag} {p0 : Addr} {H0 H : Hp} {ok0 O : Addr → Prop} {S : Sl} {σ : L2.St} (r : RO K p0 H0 ok0 O S σ H) (i : Nat) : RO K p0 H0 ok0 O (S.set i .un) (σ.set i none) H := by
  have bk : ∀ {j : Nat} {t : SL}, (S.set i .un)[j]? = some t → SL.un ≠ t → i ≠ j ∧ S[j]? = some t := fun h ne => set_back h ne
  refine ⟨r.same, by rw [List.length_set, List.length_set, r.len], r.own0, fun j d h => ?_, fun j ds h => ?_, fun j k ds es p ne h1 h2 h3 h4 => ?_, fun j ds h => ?_, fun j k ds es h1 h2 h3 => ?_, fun j k ds es h1 h2 => ?_⟩
  · obtain ⟨c, h⟩ := bk h (by intro z; cases z)
    obtain ⟨v, e1, e2⟩ := r.dat j d h
    exact ⟨v, by rw [List.getElem?_set_ne c]; exact e1, e2⟩
  · obtain ⟨c, h⟩ := bk h (by intro z; cases z)
    obtain ⟨p, vs, e1, e2⟩ := r.own j ds h
    exact ⟨p, vs, by rw [List.getElem?_set_ne c]; exact e1, e2⟩
  · obtain ⟨cj, h1⟩ := bk h1 (by intro z; cases z)
    obtain ⟨ck, h2⟩ := bk h2 (by intro z; cases z)
    rw [List.getElem?_set_ne cj] at h3
    rw [List.getElem?_set_ne ck] at h4
    exact r.inj j k ds es p ne h1 h2 h3 h4
  · obtain ⟨c, h⟩ := bk h (by intro z; cases z)
    obtain ⟨vs, e1, e2⟩ := r.din j ds h
    exact ⟨vs, by rw [List.getElem?_set_ne c]; exact e1, e2⟩
  · obtain ⟨cj, h1⟩ := bk h1 (by intro z; cases z)
    obtain ⟨ck, h2⟩ := bk h2 (by intro z; cases z)
    rw [List.getElem?_set_ne cj] at h3
    exact r.inj0 j k ds es h1 h2 h3
  · exact r.one j k ds es (bk h1 (by intro z; cases z)).2 (bk h2 (by intro z; cases z)).2
/-- what a suite does, class by class: some d: gives d back; none: falls through -/
def sTryF (i : Nat) (mb : Me) (h : Str → Option (Option D)) : Ms := fun S => (mb S).bind fun o => match o with
  | .o x => some x
  | .rx c S' => if i < S'.length then (h c).map fun d => match d with
    | some d => .rt d (S'.set i .un)
    | none => .nx (S'.set i .un)
    else none
theorem es_tryF {X : Cx} (i : Nat) {n : Str} {body suite : List Stmt} {b₀ : Stmt} {np pos pos' : Pos} {mb : Me} {hs : Addr → Str → Ms} {h : Str → Option (Option D)} (T : ExT X.K X.mg) (hst : X.stack = X.env :: X.outer) (hf : X.env.frame = some X.env.locals) (hN : X.N.Nodup) (hi : X.N[i]? = some n) (hln : X.env.kindOf n = some .local) (hg : Gl X "IceError")
    (hb : ∀ (W : WX) (pn : List (Addr × Obj)) (xe : Value → Shared → Prop), Takes (Cx.tr X pn xe) W → PassesOwn (model X.prog X.w) X.A X.env xe → EssE (Cx.tr X pn xe) W body mb)
    (hsu : ∀ (a : Addr) (oe : Obj) (c : Str) (pn : List (Addr × Obj)), c ∈ exNs → Zc (.ref (He.ga X.K c)) none oe → (∃ vs, oe.data = .fields vs) → Ess (Cx.su X a oe pn) (b₀ :: suite) (hs a c))
    (hh : ∀ (a : Addr) (c : Str) (d : Option D) (S : Sl), i < S.length → h c = some d → hs a c (S.set i (.dat (.raw (.ref a)))) = some (match d with | some d => .rt d (S.set i (.dat (.raw (.ref a)))) | none => .nx (S.set i (.dat (.raw (.ref a)))))) :
    Es X (.Try body [.ExceptHandler (some (.Name "IceError" np)) (some n) (b₀ :: suite) pos'] [] [] pos) (sTryF i mb h) :=
  PS.imp (ps_try_as (i := i) (c := .ref (He.ga X.K "IceError")) (tb := fun W => tSE X.K W mb) (ts := fun a cls d E σ H => ∃ c, c ∈ exNs ∧ cls = .ref (He.ga X.K c) ∧ d = none ∧ tS X.K (hs a c) E σ H) (Wout := fun _ _ _ _ => False) hst hf hN hi hln ⟨hg, by decide, .inl T.gI⟩ takes0 hb
    (fun a oe cls d pn hz hfl => ⟨fun pins s σ H D I hw => by
      obtain ⟨c, hc, rfl, rfl, q⟩ := hw
      exact (hsu a oe c pn hc hz hfl).run pins s σ H D I q⟩)) fun E σ H hh' => by
    obtain ⟨p0, H0, ok0, S, o, r, m, q⟩ := hh'
    obtain ⟨o1, e1, m⟩ := bind_some m
    refine ⟨p0, H0, ok0, S, o1, r, e1, ?_⟩
    cases o1 with
    | o x => cases m; exact q
    | rx c S' =>
      have m' : (if i < S'.length then (h c).map fun d => match d with
        | some d => Out.rt d (S'.set i .un)
        | none => Out.nx (S'.set i .un) else none) = some o := m
      by_cases hl : i < S'.length
      · rw [if_pos hl] at m'
        obtain ⟨d, e2, e3⟩ := map_some m'
        subst e3
        refine fun hc σ1 H1 ⟨O, r1⟩ => ⟨true, T.m c hc, fun _ a ha => ⟨c, hc, rfl, rfl, p0, H0, ok0, _, _, ⟨O, r1.put (i := i) (.raw (.ref a))⟩, hh a c d S' hl e2, ?_⟩, fun z => nomatch z⟩
        cases d with
        | some d =>
          refine fun v σ2 H2 ⟨O2, r2⟩ rv => q v σ2 H2 ⟨O2, ?_⟩ rv
          have := r2.drop i
          rw [List.set_set] at this
          exact this
        | none =>
          refine fun σ2 H2 ⟨O2, r2⟩ => q (σ2.set i none) H2 ⟨O2, ?_⟩
          have := r2.unset i
          rw [List.set_set] at this
          exact this
      · rw [if_neg hl] at m'; cases m'
/-! ### a, b = f(..), f may raise -/
def eUnp (t : Tg) (g : List D → Option Re) (ma : Ma) : Me := fun S => (ma (cl S)).bind fun ds => (g ds).bind fun r => match r with
  | .val d => (asgL t d S).map fun S1 => .o (.nx S1)
  | .exc c => some (.rx c S)
theorem ee_unp {X : Cx} {W : WX} {tg e : Expr} {n : Nat} {g : List D → Option Re} {mr : Ma} {t : Tg} {pos : Pos} (h : PE X e (tCE X.K n g W mr)) (hg : El X tg t) (hs : swapsWithSole [tg] e pos.line X.env = pure false := by rfl) (hw : swappedStores [tg] e X.env = pure none := by rfl) (h1 : (assignEach [tg] X.env).map (fun x => x.2) = [assign tg X.env] := by rfl) :
    EsE X W (.Assign [tg] e pos) (eUnp t (guardE n g) mr) :=
  PS.imp (ps_asg h hg hs hw (h1 := h1)) fun E σ H hh => by
    obtain ⟨p0, H0, ok0, S, o, ⟨O, r⟩, m, q⟩ := hh
    obtain ⟨ds, e1, m⟩ := bind_some m
    obtain ⟨x, e2, m⟩ := bind_some m
    obtain ⟨hn, e3⟩ := guardE_ok e2
    refine t_cE r.closed e1 hn e3 ?_
    cases x with
    | val d =>
      obtain ⟨S1, e4, m⟩ := map_some m
      subst m
      exact fun v H' s rv => ⟨p0, H0, ok0, O, S, d, S1, r.grow s, rv.keeps (Same.keeps (Same.refl _)) (fun a h => good_new r h), e4, fun σ' r' => q σ' H' ⟨O, r'⟩⟩
    | exc c => cases m; exact fun hc H' s => q hc σ H' ⟨O, r.grow s⟩
end Ice

/-! max(xs, default=0) -/
namespace Ice
open PySem PySem.Spec PyProof.Rows L2

section
variable {prog : Program} {w : World} {A : Around} {R : Result → Shared → Prop} {I : Addr} {fp wr : List Addr} {n : Nat} {P : Nat → Value → Prop} {St : Nat → Heap → Prop}
theorem xm_loop : (toString "max" ++ toString ".loop" : String) = "max.loop" := by decide
/-- the loop behind its first item, with any keywords -/
theorem maxK_loop (W : Walks prog w A.in1 I fp wr n P St) (bt : Nat → Nat → Bool) (hc : CmpOf prog w A.in1 .Gt P bt) (B : Addr) (hB : B ∉ fp) (kw : List (Str × Value)) : ∀ (m j : Nat) (t : Shared) (x : Value) (c : Nat), n - (j + 1) = m → j + 1 ≤ n → St (j + 1) t.heap → P (argBest bt j) x →
    t.heap.get? B = some { cls := .type "list", dict := none, data := .seq #[x, x] c, slots := #[] } → (∀ v h' tk, P (argBest bt (n - 1)) v → (∀ b o, b ∉ wr → b ≠ B → t.heap.get? b = some o → h'.get? b = some o) → R (.ok (.ret v)) { t with heap := h', toks := tk }) →
    codeAny (model prog w) A (.builtin "max.loop" ⟨[.ref I, .none, .ref B], kw⟩) R t
  | 0, j, t, x, c, hm, hj, st, px, hb, hr => by
    have e : j + 1 = n := by omega
    have hw : B ∉ wr := fun z => hB (W.sub _ z)
    refine codeAny_builtin F.entry_max_loop ?_
    rw [Around.under_plainId F.plain_max_loop _]
    show wpAny _ A.in1 (seqItems? (.ref B) >>= _) _ _ t
    refine wpAny_bind (wpAny_seqItems hb rfl ?_)
    show wpAny _ A.in1 (tryCatch (pyNext (.ref I)) _ >>= _) _ _ t
    refine wpAny_bind (wpAny_tryCatch (W.done t _ _ (e ▸ st) fun h' tk hk => ?_))
    have hb' := hk B _ hw hb
    show wpAny _ A.in1 (updateSeq B (fun _ => #[]) >>= _) _ _ _
    refine wpAny_bind ?_
    refine wpAny_updateSeq hb' rfl (wpAny_bind (wpAny_letGo (wpAny_pure ?_)))
    exact hr x _ tk (by rw [← e]; exact px) fun b o h1 h2 z => (Heap.get?_update_other _ _ (Ne.symm h2)).trans (hk b o h1 z)
  | m + 1, j, t, x, c, hm, hj, st, px, hb, hr => by
    have lt : j + 1 < n := by omega
    have hw : B ∉ wr := fun z => hB (W.sub _ z)
    refine codeAny_builtin F.entry_max_loop ?_
    rw [Around.under_plainId F.plain_max_loop _]
    show wpAny _ A.in1 (seqItems? (.ref B) >>= _) _ _ t
    refine wpAny_bind (wpAny_seqItems hb rfl ?_)
    show wpAny _ A.in1 (tryCatch (pyNext (.ref I)) _ >>= _) _ _ t
    refine wpAny_bind (wpAny_tryCatch (W.item (j + 1) t _ _ lt st fun v h' tk pv st' hk => ?_))
    have hb' := hk B _ hw hb
    show wpAny _ A.in1 (tryCatch (holding [v, v] (richCompare .Gt v x >>= _)) _ >>= _) _ _ _
    refine wpAny_bind (wpAny_tryCatch (wpAny_holding (wpAny_bind (hc (j + 1) (argBest bt j) v x _ _ _ pv px ?_))))
    refine wpAny_bind (wpAny_holding (wpAny_truthy_bool ?_))
    refine wpAny_bind (wpAny_letGo (wpAny_pure ?_))
    cases hq : bt (j + 1) (argBest bt j) with
    | true =>
      simp only [if_true]
      refine wpAny_bind ?_
      refine wpAny_updateSeq hb' rfl (wpAny_bind (wpAny_letGo ?_))
      rw [xm_loop]
      refine wpAny_pure ⟨plainId_quiet F.plain_max_loop _, maxK_loop W bt hc B hB kw m (j + 1) _ v _ (by omega) lt (W.frame _ _ _ st' fun b hbf o z => ?_) (by simp only [argBest, hq, if_true]; exact pv) (Heap.get?_update_self _ hb' rfl) fun v' h2 tk2 pv' hk2 => ?_⟩
      · exact (Heap.get?_update_other _ _ (fun y : B = b => hB (by rw [y]; exact hbf))).trans z
      · exact hr v' h2 tk2 pv' fun b o h1 h3 z => hk2 b o h1 h3 ((Heap.get?_update_other _ _ (Ne.symm h3)).trans (hk b o h1 z))
    | false =>
      simp only [Bool.false_eq_true, if_false]
      refine wpAny_bind (wpAny_letGo ?_)
      rw [xm_loop]
      exact wpAny_pure ⟨plainId_quiet F.plain_max_loop _, maxK_loop W bt hc B hB kw m (j + 1) _ x c (by omega) lt st' (by simp only [argBest, hq, Bool.false_eq_true, if_false]; exact px) hb' fun v' h2 tk2 pv' hk2 => hr v' h2 tk2 pv' fun b o h1 h3 z => hk2 b o h1 h3 (hk b o h1 z)⟩
/-- from its start; d: the default -/
theorem maxK_start (W : Walks prog w A.in1 I fp wr n P St) (bt : Nat → Nat → Bool) (hc : CmpOf prog w A.in1 .Gt P bt) (B : Addr) (hB : B ∉ fp) {nm : Str} {d : Value} {t : Shared} {c : Nat} (st : St 0 t.heap) (hb : t.heap.get? B = some { cls := .type "list", dict := none, data := .seq #[] c, slots := #[] })
    (hr : ∀ v h' tk, (if n = 0 then v = d else P (argBest bt (n - 1)) v) → (∀ b o, b ∉ wr → b ≠ B → t.heap.get? b = some o → h'.get? b = some o) → R (.ok (.ret v)) { t with heap := h', toks := tk }) :
    codeAny (model prog w) A (.builtin "max.loop" ⟨[.ref I, .none, .ref B], [(nm, d)]⟩) R t := by
  have hw : B ∉ wr := fun z => hB (W.sub _ z)
  refine codeAny_builtin F.entry_max_loop ?_
  rw [Around.under_plainId F.plain_max_loop _]
  show wpAny _ A.in1 (seqItems? (.ref B) >>= _) _ _ t
  refine wpAny_bind (wpAny_seqItems hb rfl ?_)
  show wpAny _ A.in1 (tryCatch (pyNext (.ref I)) _ >>= _) _ _ t
  by_cases hn : n = 0
  · refine wpAny_bind (wpAny_tryCatch (W.done t _ _ (hn ▸ st) fun h' tk hk => ?_))
    show wpAny _ A.in1 (rule _ >>= _) _ _ _
    refine wpAny_bind (wpAny_rule (wpAny_pure ?_))
    exact hr d h' tk (by rw [if_pos hn]) fun b o h1 _ z => hk b o h1 z
  · have lt : 0 < n := Nat.pos_of_ne_zero hn
    refine wpAny_bind (wpAny_tryCatch (W.item 0 t _ _ lt st fun v h' tk pv st' hk => ?_))
    have hb' := hk B _ hw hb
    show wpAny _ A.in1 (updateSeq B (fun _ => #[v, v]) >>= _) _ _ _
    refine wpAny_bind ?_
    refine wpAny_updateSeq hb' rfl ?_
    rw [xm_loop]
    refine wpAny_pure ⟨plainId_quiet F.plain_max_loop _, maxK_loop W bt hc B hB _ _ 0 _ v _ rfl lt (W.frame _ _ _ st' fun b hbf o z => ?_) pv (Heap.get?_update_self _ hb' rfl) fun v' h2 tk2 pv' hk2 => ?_⟩
    · exact (Heap.get?_update_other _ _ (fun y : B = b => hB (by rw [y]; exact hbf))).trans z
    · exact hr v' h2 tk2 (by rw [if_neg hn]; exact pv') fun b o h1 h3 z => hk2 b o h1 h3 ((Heap.get?_update_other _ _ (Ne.symm h3)).trans (hk b o h1 z))
end
section
variable {prog : Program} {w : World} {A : Around} {E : Value → Shared → Prop} {s : Shared}
theorem args_maxD (a d : Value) : argsOk "max" ⟨[a], [(Str.ofString "default", d)]⟩ := by
  unfold argsOk
  kernel_rfl
theorem call_maxD {x d : Value} {Q : Value → Shared → Prop}
    (h : wpAny (model prog w) A.in1 (pyIter x) (fun it t => ∃ I fp wr n P St bt, it = .ref I ∧ Walks prog w A.in1 I fp wr n P St ∧ St 0 t.heap ∧ (∀ b ∈ fp, b < t.heap.objs.size) ∧ CmpOf prog w A.in1 .Gt P bt ∧
      ∀ v h' tk, (if n = 0 then v = d else P (argBest bt (n - 1)) v) → (∀ b o, b ∉ wr → t.heap.get? b = some o → h'.get? b = some o) → Q v { t with heap := h', toks := tk }) E s) : wpAny (model prog w) A (call (.builtin "max") [x] [(Str.ofString "default", d)]) Q E s := by
  refine wpAny_call (codeAny_call_builtin F.plain_max F.entry_max ?_)
  simp only [checkBuiltinCall, F.kind_max]
  have body : wpAny (model prog w) A.in1 (Builtin.«max» ⟨[x], [(Str.ofString "default", d)]⟩) (fun fin s' => match fin with
      | .done f => (match (Except.ok f : Result) with | .ok (.ret v) => Q v s' | .ok _ => False | .error e => E e s')
      | .again c' => c'.quiet = true ∧ codeAny (model prog w) A c' (fun r s' => match r with | .ok (.ret v) => Q v s' | .ok _ => False | .error e => E e s') s') E s := by
    show wpAny _ A.in1 (Builtin.Builtins.bindParams "max" ["key", "default"] 0 ⟨[], [(Str.ofString "default", d)]⟩ >>= _) _ _ s
    refine wpAny_bind (wpAny_of_eq (show Builtin.Builtins.bindParams "max" ["key", "default"] 0 ⟨[], [(Str.ofString "default", d)]⟩ = pure [none, some d] from rfl) ?_)
    refine wpAny_bind (wpAny_pure ?_)
    refine wpAny_bind (wpAny_mono h (fun it t ht => ?_) fun _ _ z => z)
    obtain ⟨I, fp, wr, n, P, St, bt, rfl, W, st, low, hc, hQ⟩ := ht
    refine wpAny_bind (wpAny_newObj_type ?_)
    have hB : t.heap.objs.size ∉ fp := fun z => Nat.lt_irrefl _ (low _ z)
    rw [xm_loop]
    refine wpAny_pure ⟨plainId_quiet F.plain_max_loop _, maxK_start W bt hc t.heap.objs.size hB (W.frame _ _ _ st fun b _ o z => Heap.get?_push_of_some _ z) (Heap.get?_push_size _ rfl) fun v h' tk hv hk => ?_⟩
    exact hQ v h' tk hv fun b o h1 z => hk b o h1 (Nat.ne_of_lt (Heap.lt_size z)) (Heap.get?_push_of_some _ z)
  cases hsig : Manifest.signature? "max" with
  | none => exact wpAny_pure body
  | some sig =>
    have ha : Bind.checkArgs "max" sig ⟨[x], [(Str.ofString "default", d)]⟩ = pure () := by simpa only [argsOk, hsig] using args_maxD x d
    simp only [ha]
    exact wpAny_pure body
end
def rMaxD (K : PySem.W.Frag) : List V → List V → Hp → VK → Prop := fun vs zs H Q => ∃ (a : Addr) (ns : List Int), vs = [V.ref a] ∧ zs = [V.int 0] ∧ SqL K H a (ns.map V.int) ∧ (ns = [] → Q (.int 0) H) ∧ ∀ m, m ∈ ns → (∀ y, y ∈ ns → y ≤ m) → Q (.int m) H
theorem cr_maxD {X : Cx} (hc : X.calm = true) : CallRK X (.builtin "max") [Str.ofString "default"] (rMaxD X.K) := by
  intro pins s σ H vs zs us ws Q I r rz h
  obtain ⟨a, ns, rfl, rfl, hs, q0, q⟩ := h
  obtain ⟨its, rv, pl, _⟩ := I.list hs
  rw [Vals.ref1 r]
  obtain ⟨w1, rfl, e1⟩ := vals1 rz
  obtain ⟨t0, rfl⟩ := e1
  have hl := pl.isList
  have hi := rv.ints
  obtain ⟨xs, e⟩ := hi.allInts.items
  have hn : numsOf (intItems xs).toList = ns := by
    rw [← e]
    exact hi.numsOf
  rw [nums_intItems] at hn
  rw [e] at hl
  have sz : (intItems xs).size = ns.length := by
    rw [← hn]
    simp [intItems]
  show wpAny _ _ (call (.builtin "max") [.ref a] [(Str.ofString "default", Value.int 0 t0)]) _ _ _
  refine call_maxD (iter_intList hl fun t et st low hne => ?_)
  subst et
  refine ⟨_, _, _, _, _, _, _, rfl, Walks.list (A := X.A.in1) (I.ok.hd hc) _ a hne (intItems xs), st, low, CmpOf.ints_gt (numAt xs) (fun _ _ => intItems_at), fun v h' tk hv hk => ?_⟩
  have kept := old_kept hk
  by_cases z : (intItems xs).size = 0
  · rw [if_pos z] at hv
    subst hv
    have e0 : ns = [] := List.eq_nil_of_length_eq_zero (sz.symm.trans z)
    exact ⟨.int 0, H, I.kept kept, ⟨_, rfl⟩, q0 e0⟩
  · rw [if_neg z] at hv
    have zx : (intItems xs).size = xs.size := by simp [intItems]
    rw [zx] at hv z
    obtain ⟨t, rfl⟩ := intItems_at hv
    obtain ⟨h1, h2⟩ := argBest_gt (numAt xs) (xs.size - 1)
    have lx : ns.length = xs.size := sz.symm.trans zx
    refine ⟨.int _, H, I.kept kept, ⟨t, rfl⟩, q _ ?_ fun y hy => ?_⟩
    · rw [numAt_eq, hn]
      exact PySem.getD_mem (by omega)
    · obtain ⟨j, hj, rfl⟩ := mem_getD hy
      rw [← hn, ← numAt_eq]
      exact h2 j (by omega)
def maxDF : List D → Option D
  | [.lst ds] => (intsOf ds).map fun ns => match maxL ns with | some m => .int m | none => .int 0
  | _ => none
/-- max(e, default=0) -/
theorem ev_maxD {X : Cx} {e : Expr} {j : Nat} {mr : Ma} {p pos kpos cpos : Pos} (hg : Gl X "max") (hm : X.mg "max" = none) (ha : Ea X [e] mr) (hc : X.calm = true := by rfl)
    (he : backTo pos (starEach [e] X.env) = (false, eval e X.env) :: backTo pos (starEach [] X.env) := by rfl) (hpl : (backTo pos (starEach [e] X.env)).any (fun x => x.1) = false := by rfl)
    (hall : (backToKw pos (keywordEach [⟨some "default", .Constant (.int 0) j cpos, kpos⟩] X.env)).all (fun x => x.1.isSome) = true := by rfl) (hnone : (backToKw pos (keywordEach [⟨some "default", .Constant (.int 0) j cpos, kpos⟩] X.env)).any (fun x => x.1.isNone) = false := by rfl)
    (hks : (backToKw pos (keywordEach [⟨some "default", .Constant (.int 0) j cpos, kpos⟩] X.env)).filterMap (fun x => x.1) = [Str.ofString "default"] := by rfl) :
    Ev X (.Call (.Name "max" p) [e] [⟨some "default", .Constant (.int 0) j cpos, kpos⟩] pos) (mA maxDF mr) := by
  refine PE.imp (pe_callBK (cr_maxD hc) hg hm (by decide +kernel) ha (pk_cons pe_int pk_nil) (by decide) (by decide) he hpl hall hnone hks) fun σ H Q h => ?_
  refine t_ca (K := X.K) (r := fun vs H1 Q => rMaxD X.K vs [V.int 0] H1 Q) (f := maxDF) (fun vs ds z H ok Q rs e q => ?_) h
  unfold maxDF at e
  split at e
  · obtain ⟨ns, hn, e⟩ := map_some e
    cases rs with
    | cons a r =>
      cases r
      cases a with
      | lst o h r =>
        have := ints_ok r hn
        subst this
        refine ⟨_, ns, rfl, rfl, SqL.of h, fun e0 => ?_, fun m h1 h2 => ?_⟩
        · subst e0
          cases e
          exact q _ H (Same.refl H) (.int 0)
        · cases hm : maxL ns with
          | none => cases ns with
            | nil => cases h1
            | cons _ _ => cases hm
          | some m' =>
            rw [hm] at e
            subst e
            rw [max_uniq hm h1 h2]
            exact q _ H (Same.refl H) (.int _)
  · cases e
end Ice

/-! a tuple of ints in a message; a loop over range(f(lent, ..)); f(a new list, ..) that changes it; a, b = such a call; x = [..] as an own list of any data -/
namespace Ice
open PySem PySem.Spec PyProof.Rows L2

/-! ### {place} -/
def shortI (i : Int) : Bool := decide (i.natAbs.log2 < 64)
def shortsI : List D → Bool
  | [] => true
  | .int i :: r => shortI i && shortsI r
  | _ :: _ => false
def mIntT (m : Mi) : Mi := fun S => (m S).bind fun d => match d with
  | .tup ds => if shortsI ds = true ∧ ds.length ≤ 9 then some (.tup ds) else none
  | _ => none
theorem repr_ints {prog : Program} {w : World} {K : PySem.W.Frag} {H : Hp} {ok : Addr → Prop} : ∀ {ds : List D} {vs : List V} {its : List Value}, Reps K H ok vs ds → Vals vs its → shortsI ds = true → ∃ ts : List Str, ReprAll prog w its ts ∧ piled ts ≤ 100 * ds.length
  | [], _, _, r, v, _ => by
    cases r
    cases v
    exact ⟨[], .nil, Nat.zero_le _⟩
  | d :: ds, _, _, r, v, h => by
    cases r with
    | cons a r =>
      cases v with
      | cons b v =>
        cases d with
        | int i =>
          have h' : (shortI i && shortsI ds) = true := h
          rw [Bool.and_eq_true] at h'
          cases a
          obtain ⟨t, rfl⟩ := b
          obtain ⟨ts, h1, h2⟩ := repr_ints (prog := prog) (w := w) r v h'.2
          have hi : i.natAbs.log2 < 64 := of_decide_eq_true h'.1
          refine ⟨toString i :: ts, .cons (ReprIs.int t (Nat.lt_trans hi (by decide))) h1, ?_⟩
          have e := int_text_length_le (k := 64) (by decide) hi
          rw [piled_cons, PySem.ofString_length, List.length_cons]
          omega
        | _ => cases h
theorem ms_t {X : Cx} {e : Expr} {me : Mi} {pos : Pos} {k : Nat} (hr : Room k X.A) (he : Ev X e me) : PE X (.FormattedValue e (-1) none pos) (tMsg X.K (mIntT me)) := by
  refine ⟨fun pins s σ H Q I h => ?_⟩
  obtain ⟨ok, S, d, rs, m, q⟩ := h
  obtain ⟨d', e1, m⟩ := bind_some m
  refine wpAny_FormattedValue_plain (thn (he.run pins s σ H (fun x H1 => Same H H1 ∧ Rep X.K H1 (ex ok H) x d') I ⟨ok, S, d', rs, e1, fun v H' s r => ⟨s, r⟩⟩) fun v s1 hv => ?_)
  obtain ⟨x, H1, I1, r1, sm, rx⟩ := hv
  cases d' with
  | tup ds =>
    have m' : (if shortsI ds = true ∧ ds.length ≤ 9 then some (D.tup ds) else none) = some d := m
    by_cases c : shortsI ds = true ∧ ds.length ≤ 9
    · cases rx with
      | tup ht rr =>
        cases r1
        obtain ⟨its, rv, ⟨o, ho, hcl, n, hd⟩, _⟩ := I1.tuple (SqT.of ht)
        obtain ⟨ts, h1, h2⟩ := repr_ints (prog := X.prog) (w := X.w) rr rv c.1
        have htx := fmt_text ts
        have hu := hr.units
        have hz := PySem.sizeLine_eq
        have hb : (tupleText ts).length ≤ 902 := by have := c.2; omega
        refine fmt_tuple (ts := ts) (by omega) ho hcl hd h1 (by omega) fun m u tk hm => ⟨.str m, H1, I1.tok _, ⟨u, rfl⟩, q m _ (by omega) sm⟩
    · rw [if_neg c] at m'; cases m'
  | _ => cases m

/-! ### for k in range(f(lent, ..)) -/
def yFor (mx : Mx) (t : Tg) (b : Ms) : Ms := fun S => (mx S).bind fun x => match x.1 with
  | .int n => if -4611686018427387904 ≤ n ∧ n < 4611686018427387904 then forM t b (rangeL 0 n.toNat) x.2 else none
  | _ => none
theorem t_forX {K : PySem.W.Frag} {mx : Mx} {t : Tg} {b : Ms} {E : Ends} {σ : L2.St} {H : Hp} (h : tS K (yFor mx t b) E σ H) : tFor (iRng1 (tXA K (xCons mx xNil))) (tGL K t) (tS K b) E σ H := by
  obtain ⟨p0, H0, ok0, S, o, ⟨O, r⟩, m, q⟩ := h
  obtain ⟨⟨x, S1⟩, e1, m⟩ := bind_some m
  refine ⟨p0, H0, ok0, O, S, [x], S1, r, ?_, fun vs H1 f r1 rvs => ?_⟩
  · show (mx S).bind (fun x => (xNil x.2).bind fun y => some (x.1 :: y.1, y.2)) = some ([x], S1)
    rw [e1]
    rfl
  · cases x with
    | int n =>
      have m' : (if -4611686018427387904 ≤ n ∧ n < 4611686018427387904 then forM t b (rangeL 0 n.toNat) S1 else none) = some o := m
      by_cases c : -4611686018427387904 ≤ n ∧ n < 4611686018427387904
      · rw [if_pos c] at m'
        cases rvs with
        | cons rv rvs =>
          cases rvs
          cases rv
          refine ⟨n, rfl, c.1, c.2, ?_⟩
          obtain ⟨ok, S2, ds, rs, e, k⟩ := t_for (K := K) (mi := fun _ => some (rangeL 0 n.toNat)) (t := t) (b := b) (E := E) (σ := σ) (H := H1) ⟨p0, H0, ok0, S1, o, ⟨O, r1⟩, m', q⟩
          cases e
          exact k _ _ (Same.refl _) walk_range
      · rw [if_neg c] at m'; cases m'
    | _ => cases m
theorem ys_for {X : Cx} {tg a : Expr} {body : List Stmt} {mx : Mx} {t : Tg} {mb : Ms} {p pos pos' : Pos} (hg : Gl X "range") (hm : X.mg "range" = none) (ha : Xv X a mx) (hl : El X tg t) (hb : Ess X body mb) (hsa : starEach [a] X.env = (false, eval a X.env) :: starEach [] X.env := by rfl) (hsb : starEach [a] X.env = [(false, eval a X.env)] := by rfl)
    (hp : PassesOwn (model X.prog X.w) X.A X.env X.xe := by exact PassesOwn.never) (hc : X.calm = true := by rfl) (hs : ∀ x, foldedSetIterable (.Call (.Name "range" p) [a] [] pos') X.env x = pure x := by intro _; rfl) :
    Es X (.For tg (.Call (.Name "range" p) [a] [] pos') body [] pos) (yFor mx t mb) := PS.imp (ps_for hp hc (pi_range1 hg hm (xa_cons ha xa_nil hsa) hsb) hl hb hs) fun E σ H h => t_forX h

/-! ### f([..], ..): the list handed in is new -/
def xCallN (n : Nat) (g : List D → List D → Option (D × List D)) (mf : Mi) (mr : Ma) : Mx := fun S => (mf (fl S)).bind fun d => match d with
  | .lst ds => (mr (cl S)).bind fun as => if flats ds = true ∧ as.length + 1 = n then (g ds as).map fun z => (z.1, S) else none
  | _ => none
theorem xv_callN {X : Cx} {e : Expr} {es : List Expr} {x : Str} {mf : Mi} {mr : Ma} {pos p : Pos} {k j n : Nat} {g : List D → List D → Option (D × List D)} (c : C8.Cal X.prog X.w X.K X.mg X.base k x (spX X.K n g) []) (hr : Room j X.A) (hk : k ≤ j) (hg : Gl X x) (he : Ev X e mf) (ha : Ea X es mr)
    (hs : starEach (e :: es) X.env = (false, eval e X.env) :: starEach es X.env := by rfl) (hdb : (x == ("__debug__" : Str)) = false := by decide) (hpl : (backTo pos (starEach es X.env)).any (·.1) = false := by rfl) :
    Xv X (.Call (.Name x p) (e :: es) [] pos) (xCallN n g mf mr) := PE.imp (C8.pe_c c hr hk hg (pa_cons he ha hs) hdb hs hpl) fun σ H Q h => by
  obtain ⟨p0, H0, ok0, O, S, d, S', r0, e, q⟩ := h
  obtain ⟨d', e1, e⟩ := bind_some e
  split at e
  · next ds =>
    obtain ⟨as, e2, e⟩ := bind_some e
    split at e
    · next c =>
      obtain ⟨⟨z, zs⟩, e3, e⟩ := map_some e
      cases e
      refine ⟨_, _, _, r0.flatly, e1, fun v1 H1 s1 rv1 => ?_⟩
      cases rv1 with
      | lst g1 h1 rr1 =>
        rename_i a ws
        have na : H a = none := g1.elim (fun z => z.elim) fun z => z
        have r1 := r0.grow s1
        -- what is good: what was there ahead of the new list
        let okg : Addr → Prop := fun b => (ex ok0 H0 b ∧ ¬ O b) ∧ H b ≠ none
        have rs : Rs X.K H1 okg (cl S) σ := fun i d h => by
          obtain ⟨v, f1, f2⟩ := r0.closed i d h
          exact ⟨v, f1, (Rep.dom _ _ f2).keeps (Same.keeps s1) fun _ z => z⟩
        refine ⟨okg, _, as, rs, e2, fun vs H2 s2 rvs => ?_⟩
        have h2 := s2 _ _ h1
        refine ⟨a, ws, ds, ex okg H1, vs, as, _, zs, by rw [List.append_nil], h2, c.1, (rr1.keeps (Same.keeps s2) fun _ z => z).flat _ _ c.1, fun g => ?_, rvs, c.2, e3, fun v H' us sx hp ru rv => ?_⟩
        · rcases g with g | g
          · exact g.2 na
          · rw [h1] at g; cases g
        · have s : Same H H' := fun b o eb => sx b o (ne_of_none eb na) (s2 _ _ (s1 _ _ eb))
          exact q v H' (fr_of s) (r0.grow s) (rv.keeps (Same.keeps (Same.refl _)) fun _ g => g.elim)
    · cases e
  · cases e
def yUnp (t : Tg) (m : Mx) : Ms := fun S => (m S).bind fun x => (asgL t x.1 x.2).map .nx
theorem ys_unp {X : Cx} {tg e : Expr} {me : Mx} {t : Tg} {pos : Pos} (he : Xv X e me) (hg : El X tg t) (hs : swapsWithSole [tg] e pos.line X.env = pure false := by rfl) (hw : swappedStores [tg] e X.env = pure none := by rfl) (h1 : (assignEach [tg] X.env).map (fun x => x.2) = [assign tg X.env] := by rfl) : Es X (.Assign [tg] e pos) (yUnp t me) :=
  PS.imp (ps_asg he hg hs hw (h1 := h1)) fun E σ H h => by
    obtain ⟨p0, H0, ok0, S, o, ⟨O, r⟩, m, q⟩ := h
    obtain ⟨⟨d, S1⟩, e1, m⟩ := bind_some m
    obtain ⟨S2, e2, m⟩ := map_some m
    subst m
    exact ⟨p0, H0, ok0, O, S, d, S1, r, e1, fun v H' f r' rv => ⟨p0, H0, ok0, O, S1, d, S2, r', rv, e2, fun σ' r2 => q σ' H' ⟨O, r2⟩⟩⟩

/-! ### x = [..], an own list of any data -/
theorem RO.putOwnG {K : PySem.W.Frag} {p0 : Addr} {H0 H : Hp} {ok0 O : Addr → Prop} {S : Sl} {σ : L2.St} (r : RO K p0 H0 ok0 O S σ H) {i : Nat} {ds : List D} {p : Addr} {vs : List V} (hp : H p = none) (rv : Reps K H (fun a => ex ok0 H0 a ∧ ¬ O a) vs ds) :
    RO K p0 H0 ok0 (fun a => O a ∨ a = p) (S.set i (.own ds)) (σ.set i (some (.ref p))) (upd H p (.lst vs)) := by
  have s : Same H (upd H p (.lst vs)) := same_new hp
  have r' := r.grow s
  have imps : ∀ {v : List V} {d : List D}, Reps K H (fun a => ex ok0 H0 a ∧ ¬ O a) v d → Reps K (upd H p (.lst vs)) (fun a => ex ok0 H0 a ∧ ¬ (O a ∨ a = p)) v d := fun {v d} h =>
    (Reps.dom d v h).keeps (Same.keeps s) fun a g => ⟨g.1.1, fun z => z.elim g.1.2 fun z => g.2 (by rw [z]; exact hp)⟩
  have imp : ∀ {v : V} {d : D}, Rep K H (fun a => ex ok0 H0 a ∧ ¬ O a) v d → Rep K (upd H p (.lst vs)) (fun a => ex ok0 H0 a ∧ ¬ (O a ∨ a = p)) v d := fun {v d} h =>
    (Rep.dom d v h).keeps (Same.keeps s) fun a g => ⟨g.1.1, fun z => z.elim g.1.2 fun z => g.2 (by rw [z]; exact hp)⟩
  have old : ∀ {m : Nat} {gs : List D} {q : Addr}, i ≠ m → (S.set i (.own ds))[m]? = some (.own gs) → (σ.set i (some (.ref p)))[m]? = some (some (.ref q)) → q ≠ p := fun {m gs q} c g1 g2 z => by
      rw [List.getElem?_set_ne c] at g1 g2
      obtain ⟨q', ws, e1, e2, e3, e4⟩ := r.own m gs g1
      rw [e1] at g2
      cases g2
      rw [z, hp] at e3
      cases e3
  have hl : ∀ {gs : List D} {q : Addr}, (S.set i (.own ds))[i]? = some (.own gs) → (σ.set i (some (.ref p)))[i]? = some (some (.ref q)) → q = p := fun {gs q} g1 g2 => by
      rw [List.getElem?_set, if_pos rfl] at g2
      split at g2
      · cases g2; rfl
      · cases g2
  refine ⟨r'.same, by rw [List.length_set, List.length_set, r.len], fun a h => h.elim (r'.own0 a) fun h => by rw [h]; exact ⟨r.same.free hp, vs, upd_same⟩, fun j e h => ?_, fun j es h => ?_, fun j k es fs q ne h1 h2 h3 h4 => ?_, fun j es h => ?_, fun j k es fs h1 h2 h3 => ?_, fun j k es fs h1 h2 => ?_⟩
  · by_cases c : i = j
    · subst c
      rw [List.getElem?_set, if_pos rfl] at h
      split at h <;> cases h
    · rw [List.getElem?_set_ne c] at h
      obtain ⟨u, e1, e2⟩ := r.dat j e h
      exact ⟨u, by rw [List.getElem?_set_ne c]; exact e1, imp e2⟩
  · by_cases c : i = j
    · subst c
      rw [List.getElem?_set, if_pos rfl] at h
      split at h
      · next hl =>
        cases h
        exact ⟨p, vs, List.getElem?_set_self (by rw [← r.len]; exact hl), .inr rfl, upd_same, imps rv⟩
      · cases h
    · rw [List.getElem?_set_ne c] at h
      obtain ⟨q, ws, e1, e2, e3, e4⟩ := r.own j es h
      exact ⟨q, ws, by rw [List.getElem?_set_ne c]; exact e1, .inl e2, s _ _ e3, imps e4⟩
  · by_cases cj : i = j
    · by_cases ck : i = k
      · exact ne (cj.symm.trans ck)
      · subst cj
        exact old ck h2 h4 (hl h1 h3)
    · by_cases ck : i = k
      · subst ck
        exact old cj h1 h3 (hl h2 h4)
      · rw [List.getElem?_set_ne cj] at h1 h3
        rw [List.getElem?_set_ne ck] at h2 h4
        exact r.inj j k es fs q ne h1 h2 h3 h4
  · obtain ⟨c, h⟩ := set_back h (by intro z; cases z)
    obtain ⟨ws, e1, e2, e3, e4⟩ := r.din j es h
    exact ⟨ws, by rw [List.getElem?_set_ne c]; exact e1, .inl e2, s _ _ e3, imps e4⟩
  · obtain ⟨ck, h2⟩ := set_back h2 (by intro z; cases z)
    obtain ⟨ws, e1, e2, e3, e4⟩ := r.din k fs h2
    by_cases cj : i = j
    · subst cj
      rw [hl h1 h3, hp] at e3
      cases e3
    · rw [List.getElem?_set_ne cj] at h1 h3
      exact r.inj0 j k es fs h1 h2 h3
  · exact r.one j k es fs (set_back h1 (by intro z; cases z)).2 (set_back h2 (by intro z; cases z)).2
def sSetL (i : Nat) (m : Ma) : Ms := fun S => (m (cl S)).bind fun ds => if ds.length ≤ 1000000 then some (.nx (S.set i (.own ds))) else none
theorem es_setL {X : Cx} {es : List Expr} {mr : Ma} {pos pos' p : Pos} (i : Nat) {x : Str} (hN : X.N.Nodup) (he : Ea X es mr) (hi : X.N[i]? = some x := by rfl) (hx : Loc X.env.scope x := by first | exact Or.inl rfl | exact Or.inr rfl) (hs : swapsWith (.List es p) (some (.Name x pos')) pos.line X.env = pure false := by rfl)
    (hf : X.fn x = true ∨ X.env.scope.names.lookup x = some .local := by first | exact .inl rfl | exact .inr rfl) : Es X (.Assign [.Name x pos'] (.List es p) pos) (sSetL i mr) := PS.imp (ps_set hN hi hx (pe_lst he) hs hf) fun E σ H h => by
  obtain ⟨p0, H0, ok0, S, o, ⟨O, r⟩, m, q⟩ := h
  obtain ⟨ds, e1, m⟩ := bind_some m
  split at m
  · next c =>
    cases m
    refine ⟨_, _, ds, r.closed, e1, fun vs H1 s rv => ⟨by rw [rv.length]; exact Nat.le_trans c (by decide), fun p hp => q _ _ ⟨_, (r.grow s).putOwnG hp (rv.keeps (Same.keeps (Same.refl _)) fun a h => good_new r h)⟩⟩⟩
  · cases m
end Ice

/-! tuples repeated; «is not True»; x = x + [..] of an own list; «or» of readings that change; a loop over such a list -/
namespace Ice
open PySem PySem.Spec PyProof.Rows L2

/-! ### t * k -/
theorem od_repT {K : PySem.W.Frag} : OpD K (rRepT K) (fun x y => match x, y with
  | .tup ds, .int k => if 2 ≤ k ∧ k ≤ 1000 ∧ ds.isEmpty = false ∧ ds.length ≤ 1000 then some (.tup (List.replicate k.toNat ds).flatten) else none
  | _, _ => none) := fun vx vy x y z H ok Q rx ry e q => by
  cases x with
  | tup ds =>
    cases y with
    | int k =>
      have e' : (if 2 ≤ k ∧ k ≤ 1000 ∧ ds.isEmpty = false ∧ ds.length ≤ 1000 then some (D.tup (List.replicate k.toNat ds).flatten) else none) = some z := e
      split at e'
      · next c =>
        cases e'
        cases ry
        cases rx with
        | tup hh r =>
          refine ⟨_, k, _, rfl, rfl, SqT.of hh, fun z => ?_, c.1, c.2.1, by rw [r.length]; exact c.2.2.2, fun p hp => q _ _ (same_new hp) (.tup upd_same ((Reps.rep r _).keeps (Same.keeps (same_new hp)) ex_of))⟩
          have hl := r.length
          rw [z] at hl
          have := c.2.2.1
          cases ds with
          | nil => cases this
          | cons _ _ => cases hl
      · cases e'
    | _ => cases e
  | _ => cases e
def repTD : D → D → Option D
  | .tup ds, .int k => if 2 ≤ k ∧ k ≤ 1000 ∧ ds.isEmpty = false ∧ ds.length ≤ 1000 then some (.tup (List.replicate k.toNat ds).flatten) else none
  | _, _ => none
def isnB : D → D → Option D
  | .bl a, .bl b => some (.bl (!decide (a = b)))
  | _, _ => none
theorem od_isnB {K : PySem.W.Frag} : OpD K (fun x y H Q => ∃ a b, x = .bl a ∧ y = .bl b ∧ Q (.bl (!decide (a = b))) H) isnB := fun vx vy x y z H ok Q rx ry e q => by
  cases x with
  | bl a =>
    cases y with
    | bl b => cases e; cases rx; cases ry; exact ⟨a, b, rfl, rfl, q _ H (Same.refl H) (.bl _)⟩
    | _ => cases e
  | _ => cases e
section
variable {X : Cx} {a b : Expr} {ma mb : Mi} {pos : Pos}
theorem ev_repT (ha : Ev X a ma) (hb : Ev X b mb) : Ev X (.BinOp a .Mult b pos) (m2 repTD ma mb) := ev_bin op_repT od_repT ha hb
theorem ev_isnB (ha : Ev X a ma) (hb : Ev X b mb) : Ev X (.Compare a [.IsNot] [b] pos) (m2 isnB ma mb) := ev_cmp op_isnot_bl od_isnB ha hb
theorem et_isnB (ha : Ev X a ma) (hb : Ev X b mb) : Et X (.Compare a [.IsNot] [b] pos) (mB (m2 isnB ma mb)) := et_op op_isnot_bl od_isnB ha hb
end

/-! ### x = x + [..] -/
def sCatO (i : Nat) (m : Ma) : Ms := fun S => match S[i]? with
  | some (.own ds) => (m (cl S)).bind fun es => if ds.length + es.length ≤ 1000000 then some (.nx (S.set i (.own (ds ++ es)))) else none
  | _ => none
theorem es_catO {X : Cx} {es : List Expr} {mr : Ma} {pos pos' p p1 p2 : Pos} (i : Nat) {x : Str} (hN : X.N.Nodup) (he : Ea X es mr) (hi : X.N[i]? = some x := by rfl) (hx : Loc X.env.scope x := by first | exact Or.inl rfl | exact Or.inr rfl) (hs : swapsWith (.BinOp (.Name x p1) .Add (.List es p) p2) (some (.Name x pos')) pos.line X.env = pure false := by rfl)
    (hf : X.fn x = true ∨ X.env.scope.names.lookup x = some .local := by first | exact .inl rfl | exact .inr rfl) (hv : Vis X.env.scope x := by first | exact Or.inl rfl | exact Or.inr (Or.inl rfl) | exact Or.inr (Or.inr rfl)) (hd : (x == ("__debug__" : Str)) = false := by decide) (hcd : (x == ("__classdict__" : Str)) = false := by decide) :
    Es X (.Assign [.Name x pos'] (.BinOp (.Name x p1) .Add (.List es p) p2) pos) (sCatO i mr) := PS.imp (ps_set hN hi hx (pe_op op_cat (pe_var hi hv hd hcd) (pe_lst he)) hs hf) fun E σ H h => by
  obtain ⟨p0, H0, ok0, S, o, ⟨O, r⟩, m, q⟩ := h
  unfold sCatO at m
  split at m
  · next ds hS =>
    obtain ⟨us, e1, m⟩ := bind_some m
    split at m
    · next c =>
      cases m
      obtain ⟨a, ws, h1, h2, h3, h4⟩ := r.own i ds hS
      refine ⟨_, h1, _, _, us, r.closed, e1, fun vs H1 s rv => ⟨by rw [rv.length]; exact Nat.le_trans (Nat.le_trans (Nat.le_add_left _ _) c) (by decide), fun b hb => ?_⟩⟩
      have s1 : Same H1 (upd H1 b (.lst vs)) := same_new hb
      have s2 := s.trans s1
      have ha := s2 _ _ h3
      refine ⟨a, b, ws, vs, rfl, rfl, ha, upd_same, by rw [h4.length, rv.length]; exact Nat.le_trans c (by decide), fun p hp => q _ _ ⟨_, (r.grow s2).putOwnG hp ?_⟩⟩
      refine Reps.append (h4.keeps (Same.keeps s2) fun _ z => z) ((rv.keeps (Same.keeps s1) fun _ z => z).keeps (Same.keeps (Same.refl _)) fun a h => good_new r h)
    · cases m
  · cases m

/-! ### or -/
def xOr (t u : Mxt) : Mxt := fun S => (t S).bind fun x => if x.1 = true then some (true, x.2) else u x.2
section
variable {X : Cx} {a b : Expr} {rest : List Expr} {ta tb : Mxt} {pos : Pos}
theorem xw_or1 (h : Xt X a ta) : Xw X (.BoolOp .Or [a] pos) ta := pw_or1 h
theorem xw_or (h1 : Xt X a ta) (h2 : Xw X (.BoolOp .Or (b :: rest) pos) tb) : Xw X (.BoolOp .Or (a :: b :: rest) pos) (xOr ta tb) := PW.imp (pw_or h1 h2) fun σ H Q hh => by
  obtain ⟨p0, H0, ok0, O, S, d, S', r0, e, q⟩ := hh
  obtain ⟨⟨x, S1⟩, e1, e⟩ := bind_some e
  refine ⟨p0, H0, ok0, O, S, x, S1, r0, e1, fun H1 f1 r1 => ?_⟩
  cases x with
  | false => exact ⟨p0, H0, ok0, O, S1, d, S', r1, e, fun H2 f2 r2 => q H2 (f1.trans f2) r2⟩
  | true => cases e; exact q H1 f1 r1
end

/-! ### a loop over a list that such a reading gives -/
theorem t_forC {K : PySem.W.Frag} {t : Tg} {b : Ms} {E : Ends} {σ : L2.St} {H1 H0 : Hp} {p0 : Addr} {ok0 O : Addr → Prop} {S : Sl} {ds : List D} {o : Out} {J : It} (r1 : RO K p0 H0 ok0 O S σ H1) (wk : Walk K H1 (fun a => ex ok0 H0 a ∧ ¬ O a) J ds) (m : forM t b ds S = some o) (q : Reach K p0 H0 ok0 E o) :
    ∃ W : Nat → Nat → L2.St → Hp → Prop, (∃ m, W 0 m σ H1) ∧ ∀ i m σ H, W i m σ H →
  (J.stop i H ∧ E.nx σ H) ∨ (J.go i H ∧ ∃ N : L2.St → Hp → Prop, (∀ σ' H', N σ' H' → ∃ m', m' < m ∧ W (i + 1) m' σ' H') ∧ ∀ x H', J.yld i H x H' → tGL K t x σ H' fun σ2 H2 => tS K b { E with nx := N, ct := N, bk := E.nx } σ2 H2) := by
  have sb := base_same r1
  have q1 := q.rebase (K := K) sb
  have kp : Keeps (fun a => (ex ok0 H0 a ∧ ¬ O a) ∧ H1 a ≠ none) H1 (off H1 O) := fun a o e g => by
    have c : ¬ O a := fun z => by
      rcases g with g | g
      · exact g.1.2 z
      · obtain ⟨_, vs, e2⟩ := r1.own0 a z
        rw [e2] at e
        cases e
        exact g
    rw [off_of c]
    exact e
  refine ⟨fun i n σ' H' => n = ds.length - i ∧ i ≤ ds.length ∧ ∃ S' o', RS K p0 (off H1 O) (ex ok0 H0) S' σ' H' ∧ forM t b (ds.drop i) S' = some o' ∧ Reach K p0 (off H1 O) (ex ok0 H0) E o', ⟨ds.length, rfl, Nat.zero_le _, S, o, ⟨O, r1.base⟩, m, q1⟩, ?_⟩
  rintro i n σ' H' ⟨rfl, hi, S', o', ⟨O', r'⟩, hm, hq⟩
  have wk' := wk _ kp i H' r'.same
  by_cases hlt : i < ds.length
  · have hg : ds[i]? = some ds[i] := List.getElem?_eq_getElem hlt
    have hdrop : ds.drop i = ds[i] :: ds.drop (i + 1) := List.drop_eq_getElem_cons hlt
    obtain ⟨go, yl⟩ := wk'.1 _ hg
    rw [hdrop] at hm
    obtain ⟨S1, ha, hm⟩ := bind_some (show (asgL t ds[i] S').bind _ = some o' from hm)
    obtain ⟨ob, hb, hm⟩ := bind_some hm
    let Nx : L2.St → Hp → Prop := fun σ'' H'' => i + 1 ≤ ds.length ∧ ∃ S' o', RS K p0 (off H1 O) (ex ok0 H0) S' σ'' H'' ∧ forM t b (ds.drop (i + 1)) S' = some o' ∧ Reach K p0 (off H1 O) (ex ok0 H0) E o'
    refine .inr ⟨go, Nx, fun σ'' H'' nx => ⟨ds.length - (i + 1), by omega, rfl, nx⟩, fun x H3 y => ?_⟩
    obtain ⟨s3, rx⟩ := yl x H3 y
    refine ⟨_, _, _, O', S', ds[i], S1, r'.grow s3, rx.keeps (Same.keeps (Same.refl _)) (fun a g => ?_), ha, fun σ2 r2 => ⟨_, _, _, S1, ob, ⟨O', r2⟩, hb, ?_⟩⟩
    · obtain ⟨gg, g2⟩ := g
      refine ⟨.inl gg.1, fun z => ?_⟩
      obtain ⟨z1, _⟩ := r'.own0 a z
      rw [off_of gg.2] at z1
      exact g2 z1
    · cases ob with
      | nx S2 => exact fun σ4 H4 r4 => ⟨hlt, S2, o', r4, hm, hq⟩
      | ct S2 => exact fun σ4 H4 r4 => ⟨hlt, S2, o', r4, hm, hq⟩
      | bk S2 => cases hm; exact fun σ4 H4 r4 => hq σ4 H4 r4
      | rt d S2 => cases hm; exact fun v σ4 H4 r4 rv => hq v σ4 H4 r4 rv
  · have e : i = ds.length := by omega
    subst e
    rw [List.drop_length] at hm
    cases hm
    exact .inl ⟨wk'.2 (List.getElem?_eq_none_iff.mpr (Nat.le_refl _)), hq σ' H' ⟨O', r'⟩⟩
def yForL (mx : Mx) (t : Tg) (b : Ms) : Ms := fun S => (mx S).bind fun x => match x.1 with
  | .lst ds => forM t b ds x.2
  | _ => none
theorem ys_forL {X : Cx} {tg a : Expr} {body : List Stmt} {mx : Mx} {t : Tg} {mb : Ms} {pos : Pos} (ha : Xv X a mx) (hl : El X tg t) (hb : Ess X body mb)
    (hp : PassesOwn (model X.prog X.w) X.A X.env X.xe := by exact PassesOwn.never) (hc : X.calm = true := by rfl) (hs : ∀ x, foldedSetIterable a X.env x = pure x := by intro _; rfl) :
    Es X (.For tg a body [] pos) (yForL mx t mb) := PS.imp (ps_for hp hc (pi_list ha) hl hb hs) fun E σ H h => by
  obtain ⟨p0, H0, ok0, S, o, ⟨O, r⟩, m, q⟩ := h
  obtain ⟨⟨x, S1⟩, e1, m⟩ := bind_some m
  refine ⟨p0, H0, ok0, O, S, x, S1, r, e1, fun v H1 f r1 rv => ?_⟩
  cases x with
  | lst ds =>
    cases rv with
    | lst g hh rr => exact ⟨_, rfl, ⟨_, SqL.of hh⟩, t_forC r1 (walk_list g hh rr) m q⟩
  | _ => cases m
/-! ### a def that calls itself: at first nothing is promised -/
section
variable {P : Program} {w : World} {K : PySem.W.Frag} {mg : Str → Option Value} {base : Heap} {k n : Nat} {f : Addr} {fd : FuncData} {ps : List Str}
theorem spD_none {vs : List V} {H : Hp} {Q : VK} {E : XK} (h : spD K n (fun _ => none) vs H Q E) : False := by
  obtain ⟨ds, ok, d, r, hl, e, q⟩ := h
  cases e
theorem spX_none {vs : List V} {H : Hp} {Q : VK} {E : XK} (h : spX K n (fun _ _ => none) vs H Q E) : False := by
  obtain ⟨p, ws, ds, ok, rest, as, d, es, _, _, _, _, _, _, _, e, _⟩ := h
  cases e
theorem fn_noneD : FnOk P w K mg base CX0 k f fd ps (spD K n fun _ => none) := ⟨fun _ _ _ _ h => (spD_none h).elim, fun _ _ _ _ _ _ _ _ _ _ _ _ _ h => (spD_none h).elim⟩
theorem fn_noneX : FnOk P w K mg base CX0 k f fd ps (spX K n fun _ _ => none) := ⟨fun _ _ _ _ h => (spX_none h).elim, fun _ _ _ _ _ _ _ _ _ _ _ _ _ h => (spX_none h).elim⟩
end
end Ice

/-! a name to a comprehension that is read from own lists; the list is the name's own -/
namespace Ice
open PySem PySem.Spec PyProof.Rows L2
theorem t_lcN {K : PySem.W.Frag} {mi : Ma} {vs : List Nat} {t : Tg} {tt : Mt} {me : Mi} {σ : L2.St} {H : Hp} {Q : VK} (hv : ∀ i ∈ sl t, i ∈ vs ∧ i < σ.length) (h : ∃ ok S zs, Rs K H ok S σ ∧ mLc mi vs t tt me S = some (.lst zs) ∧ ∀ p us H', Same H H' → H p = none → H' p = some (.lst us) → Reps K H' (ex ok H) us zs → Q (.ref p) H') : tLc (tI K mi) (tG K t) (tT K tt) (tE K me) vs σ H Q := by
  obtain ⟨ok, S, zs, rs, m, q⟩ := h
  obtain ⟨ds, h1, m1⟩ := bind_some m
  by_cases hlen : ds.length ≤ 1000000
  case neg => rw [if_neg hlen] at m1; cases m1
  rw [if_pos hlen] at m1
  cases hys : compM vs t tt me S ds with
  | none => rw [hys] at m1; cases m1
  | some ys =>
  rw [hys] at m1
  have e0 : ys = zs := D.lst.inj (Option.some.inj m1)
  subst e0
  refine ⟨ok, S, ds, rs, h1, fun J H1 s1 wk D hD => ?_⟩
  have hD0 : H D = none := s1.free hD
  -- the good ones: all but D
  let okD : Addr → Prop := fun a => ex ok H a ∧ a ≠ D
  let okc : Addr → Prop := fun a => ex ok H a ∧ H1 a ≠ none
  have okcD : ∀ a, okc a → okD a := fun a h => ⟨h.1, fun z => h.2 (by rw [z]; exact hD)⟩
  refine ⟨fun i n H' => n = ds.length - i ∧ i ≤ ds.length ∧ Same H1 H' ∧ ∃ acc accd rest, H' D = some (.lst acc) ∧ acc.length ≤ i ∧ Reps K H' okD acc accd ∧ compM vs t tt me S (ds.drop i) = some rest ∧ accd ++ rest = ys,
    ⟨ds.length, rfl, Nat.zero_le _, same_new hD, [], [], ys, upd_same, Nat.le_refl _, .nil, hys, rfl⟩, ?_⟩
  rintro i n H' ⟨rfl, hi, s2, acc, accd, rest, hacc, hal, racc, hrest, hcat⟩
  have wk' := wk H1 (fun a o e _ => e) i H' s2
  by_cases hlt : i < ds.length
  · have hg : ds[i]? = some ds[i] := List.getElem?_eq_getElem hlt
    have hdrop : ds.drop i = ds[i] :: ds.drop (i + 1) := List.drop_eq_getElem_cons hlt
    obtain ⟨go, yl⟩ := wk'.1 _ hg
    rw [hdrop] at hrest
    obtain ⟨S1, ha, hrest⟩ := bind_some (show (asg t ds[i] (wipeD S vs)).bind _ = some rest from hrest)
    obtain ⟨c, hc, hrest⟩ := bind_some hrest
    let Nx : Hp → Prop := fun H'' => i + 1 ≤ ds.length ∧ Same H1 H'' ∧ ∃ acc accd rest, H'' D = some (.lst acc) ∧ acc.length ≤ i + 1 ∧ Reps K H'' okD acc accd ∧ compM vs t tt me S (ds.drop (i + 1)) = some rest ∧ accd ++ rest = ys
    refine .inr ⟨go, Nx, fun H'' nx => ⟨ds.length - (i + 1), by omega, rfl, nx⟩, fun x H3 y => ?_⟩
    obtain ⟨s3, rx⟩ := yl x H3 y
    have s13 := s2.trans s3
    have rs3 : Rs K H3 okc (wipeD S vs) (wipe σ vs) := ((Rs.wipe (fun i d e => by
      obtain ⟨v, e1, e2⟩ := rs i d e
      exact ⟨v, e1, Rep.dom d v e2⟩ : Rs K H (fun a => ok a ∧ H a ≠ none) S σ) vs)).keeps (Same.keeps (s1.trans s13)) fun a h => ⟨.inl h.1, fun z => h.2 (s1.free z)⟩
    refine ⟨okc, wipeD S vs, ds[i], S1, fun j hj => by rw [wipe_length]; exact (hv j hj).2, rs3, rx, ha, fun σ2 b2 rs2 => ⟨?_, okc, S1, c, rs2, hc, fun H4 s4 => ?_⟩⟩
    · have hw : wipe (wipe σ vs) vs = wipe σ vs := wipe_but ⟨wipe_length σ vs, fun j hj => by rw [wipe_get, if_neg hj]⟩
      rw [wipe_but (b2.mono fun j hj => (hv j hj).1), hw]
    have hacc4 : H4 D = some (.lst acc) := s4 _ _ (s3 _ _ hacc)
    have racc4 : Reps K H4 okD acc accd := racc.keeps (Same.keeps (s3.trans s4)) fun _ z => z
    cases c with
    | false =>
      rw [if_neg Bool.false_ne_true] at hrest
      exact ⟨hlt, s13.trans s4, acc, accd, rest, hacc4, Nat.le_succ_of_le hal, racc4, hrest, hcat⟩
    | true =>
      rw [if_pos rfl] at hrest
      obtain ⟨yd, hy, hrest⟩ := bind_some hrest
      cases hr2 : compM vs t tt me S (ds.drop (i + 1)) with
      | none => rw [hr2] at hrest; cases hrest
      | some rest2 =>
      rw [hr2] at hrest
      cases hrest
      refine ⟨okc, S1, yd, rs2.keeps (Same.keeps s4) (fun _ z => z), hy, fun yv H5 s5 ry => ?_⟩
      have hacc5 : H5 D = some (.lst acc) := s5 _ _ hacc4
      refine ⟨acc, hacc5, Nat.lt_of_le_of_lt hal (Nat.lt_of_lt_of_le hlt (Nat.le_trans hlen (by decide))), hlt, ?_, acc ++ [yv], accd ++ [yd], rest2, upd_same, ?_, ?_, hr2, ?_⟩
      · intro a o e
        have ne : a ≠ D := ne_of_none e hD
        rw [upd_ne ne]
        exact s5 _ _ (s4 _ _ (s13 _ _ e))
      · rw [List.length_append]
        exact Nat.succ_le_succ hal
      · have kp : Keeps okD H5 (upd H5 D (.lst (acc ++ [yv]))) := fun a o e g => by
          have ne : a ≠ D := fun z => by
            rw [z] at e g
            rw [hacc5] at e
            cases e
            exact g.elim (fun g => g.2 rfl) fun g => g
          rw [upd_ne ne]
          exact e
        refine Reps.append ((racc4.keeps (Same.keeps s5) fun _ z => z).keeps kp fun _ z => z) (.cons ((ry.keeps (Same.keeps (Same.refl _)) fun a h => ?_).keeps kp fun _ z => z) .nil)
        rcases h with h | h
        · exact okcD a h
        · refine ⟨.inr ?_, fun z => ?_⟩
          · exact s1.free (s13.free (s4.free h))
          · rw [z, hacc4] at h
            cases h
      · rw [List.append_assoc]
        exact hcat
  · have e : i = ds.length := by omega
    subst e
    rw [List.drop_length] at hrest
    cases hrest
    rw [List.append_nil] at hcat
    subst hcat
    refine .inl ⟨wk'.2 (List.getElem?_eq_none_iff.mpr (Nat.le_refl _)), q _ _ H' (s1.trans s2) hD0 hacc (racc.keeps (Same.keeps (Same.refl _)) fun a h => h.1)⟩
def sSetC (i : Nat) (m : Mi) : Ms := fun S => (m (op S)).bind fun d => match d with
  | .lst ds => if flats ds = true then some (.nx (S.set i (.own ds))) else none
  | _ => none
section
variable {X : Cx} {elt tg iter tg1 iter1 : Expr} {ifs ifs1 : List Expr} {scope : Scope} {pos spos py : Pos} {mi mi1 : Ma} {t t1 : Tg} {tt tt1 : Mt} {me : Mi} {y : Str}
theorem es_lcO (i : Nat) (own : List (Str × Nat)) (hN : X.N.Nodup) (hi : Ei X tg iter mi) (ok : BlkOk X.N X.env.scope scope own)
    (hg : ∀ (s : Shared) (H : Hp) (C : Addr) (cl : List (Str × Addr)) (fp : List Addr), Eg (X.blk s H scope (compEnvC scope cl C X.env) fp) tg t) (ht : ∀ (s : Shared) (H : Hp) (C : Addr) (cl : List (Str × Addr)) (fp : List Addr), Ets (X.blk s H scope (compEnvC scope cl C X.env) fp) ifs tt)
    (he : ∀ (s : Shared) (H : Hp) (C : Addr) (cl : List (Str × Addr)) (fp : List Addr), Ev (X.blk s H scope (compEnvC scope cl C X.env) fp) elt me) (hs : ∀ x, foldedSetIterable iter X.env x = pure x := by intro _; rfl)
    (hy : X.N[i]? = some y := by rfl) (hyl : X.env.scope.names.lookup y = some .local := by rfl) (hsw : swapsWith (.ListComp elt [⟨tg, iter, ifs, 0⟩] scope pos) (some (.Name y py)) spos.line X.env = pure true := by exact sw_true rfl rfl rfl rfl)
    (hv : ∀ i ∈ sl t, i ∈ own.map (·.2) := by decide) (hc : X.calm = true := by rfl) : Es X (.Assign [.Name y py] (.ListComp elt [⟨tg, iter, ifs, 0⟩] scope pos) spos) (sSetC i (mLc mi (own.map (·.2)) t tt me)) :=
  ⟨fun pins s σ H E I h => (ps_setLc hc hN hy hyl hsw hi ok hg ht he hs).run pins s σ H E I (t_lcN (Q := fun x H1 => gName i x σ H1 E.nx) (fun i h => ⟨hv i h, lt_of_own ok I.len (hv i h)⟩) (by
    obtain ⟨p0, H0, ok0, S, o, ⟨O, r⟩, m, q⟩ := h
    obtain ⟨d, e1, m⟩ := bind_some m
    split at m
    · next ds =>
      split at m
      · next fd =>
        cases m
        exact ⟨_, _, ds, r.opened, e1, fun p us H' s hp hx rr => q _ H' ⟨_, r.putOwn hp hx s fd (rr.flat _ _ fd)⟩⟩
      · cases m
    · cases m))⟩
end
end Ice

/-! sorted of triples of ints -/
namespace Ice
open PySem PySem.Spec PyProof.Rows L2
def tripI : D → Option (List Int)
  | .tup [.int a, .int b, .int c] => if (0 ≤ a ∧ a < 1000000) ∧ (0 ≤ b ∧ b < 1000000) ∧ (0 ≤ c ∧ c < 1000000) then some [a, b, c] else none
  | _ => none
def tripsI : List D → Option (List (List Int))
  | [] => some []
  | d :: ds => (tripI d).bind fun n => (tripsI ds).map fun k => n :: k
def codeLe (a b : List Int) : Bool := decide (TS.code 1000000 a ≤ TS.code 1000000 b)
def eT (n : List Int) : D := .tup (n.map D.int)
def sortG (ds : List D) : Option D := (tripsI ds).bind fun ns => if ns.length < 64 then some (.lst ((ns.mergeSort codeLe).map eT)) else none
def sortF : List D → Option D := only sortG
theorem trip_of {d : D} {n : List Int} (h : tripI d = some n) : d = eT n ∧ n.length = 3 ∧ TS.Bd 1000000 n := by
  unfold tripI at h
  split at h
  · next a b c =>
    split at h
    · next q =>
      cases h
      refine ⟨rfl, rfl, fun m hm => ?_⟩
      simp only [List.mem_cons, List.not_mem_nil, or_false] at hm
      rcases hm with rfl | rfl | rfl
      · exact q.1
      · exact q.2.1
      · exact q.2.2
    · cases h
  · cases h
theorem rep_ints {K : PySem.W.Frag} {H : Hp} {ok : Addr → Prop} : ∀ {ns : List Int} {vs : List V}, Reps K H ok vs (ns.map D.int) → vs = ns.map V.int
  | [], _, r => by cases r; rfl
  | n :: ns, _, r => by
    cases r with
    | cons a r =>
      cases a
      rw [rep_ints r]
      rfl
theorem reps_trips {K : PySem.W.Frag} {H : Hp} {ok : Addr → Prop} : ∀ {ds : List D} {vs : List V} {ns : List (List Int)}, Reps K H ok vs ds → tripsI ds = some ns →
    ∃ L : List (V × List Int), L.map (fun q => q.1) = vs ∧ L.map (fun q => q.2) = ns ∧ ∀ q ∈ L, TupI K H q.1 q.2 ∧ Rep K H ok q.1 (eT q.2) ∧ q.2.length = 3 ∧ TS.Bd 1000000 q.2
  | [], _, _, r, e => by
    cases r
    cases e
    exact ⟨[], rfl, rfl, fun _ z => nomatch z⟩
  | d :: ds, _, ns, r, e => by
    cases r with
    | @cons v vs _ _ a r =>
      obtain ⟨n, e1, e⟩ := bind_some (show (tripI d).bind _ = some ns from e)
      obtain ⟨k, e2, e⟩ := map_some e
      subst e
      obtain ⟨L, h1, h2, h3⟩ := reps_trips r e2
      obtain ⟨rfl, hl, hb⟩ := trip_of e1
      refine ⟨(v, n) :: L, by rw [List.map_cons, h1], by rw [List.map_cons, h2], fun q hq => ?_⟩
      rcases List.mem_cons.mp hq with rfl | hq
      · refine ⟨?_, a, hl, hb⟩
        cases a with
        | tup h rr => exact ⟨_, rfl, by rw [← rep_ints rr]; exact SqT.of h⟩
      · exact h3 q hq
theorem perm_lift {α β : Type} (f : α → β) {xs ys : List β} (h : xs.Perm ys) : ∀ (L : List α), L.map f = ys → ∃ L' : List α, L'.Perm L ∧ L'.map f = xs := by
  induction h with
  | nil => intro L e; exact ⟨[], by rw [List.map_eq_nil_iff.mp e], rfl⟩
  | cons x p ih =>
    intro L e
    cases L with
    | nil => cases e
    | cons a L =>
      rw [List.map_cons] at e
      injection e with e1 e2
      obtain ⟨L', p', e'⟩ := ih L e2
      exact ⟨a :: L', p'.cons a, by rw [List.map_cons, e', e1]⟩
  | swap x y l =>
    intro L e
    cases L with
    | nil => cases e
    | cons a L =>
      cases L with
      | nil => cases e
      | cons b L =>
        rw [List.map_cons, List.map_cons] at e
        injection e with e1 e2
        injection e2 with e2 e3
        exact ⟨b :: a :: L, .swap a b L, by rw [List.map_cons, List.map_cons, e1, e2, e3]⟩
  | trans p q ih1 ih2 =>
    intro L e
    obtain ⟨L1, p1, e1⟩ := ih2 L e
    obtain ⟨L2, p2, e2⟩ := ih1 L1 e1
    exact ⟨L2, p2.trans p1, e2⟩
theorem code_eq : ∀ {a b : List Int}, a.length = b.length → TS.Bd 1000000 a → TS.Bd 1000000 b → TS.code 1000000 a = TS.code 1000000 b → a = b
  | [], [], _, _, _, _ => rfl
  | [], _ :: _, h, _, _, _ => nomatch h
  | _ :: _, [], h, _, _, _ => nomatch h
  | x :: a, y :: b, hl, ha, hb, e => by
    have hl' : a.length = b.length := Nat.succ.inj hl
    have : x = y := by
      rcases Int.lt_trichotomy x y with h | h | h
      · have := TS.code_lt hl' ha.tail hb.tail h
        omega
      · exact h
      · have := TS.code_lt hl'.symm hb.tail ha.tail h
        omega
    subst this
    rw [code_eq hl' ha.tail hb.tail (by
      have e' : x * 1000000 ^ a.length + TS.code 1000000 a = x * 1000000 ^ b.length + TS.code 1000000 b := e
      rw [hl'] at e'
      omega)]
theorem sort_is {ns ms : List (List Int)} (hp : ms.Perm ns) (hs : ms.Pairwise fun a b => TS.code 1000000 a ≤ TS.code 1000000 b) (hb : ∀ n ∈ ns, n.length = 3 ∧ TS.Bd 1000000 n) : ns.mergeSort codeLe = ms := by
  have tr : ∀ a b c : List Int, codeLe a b = true → codeLe b c = true → codeLe a c = true := fun a b c h1 h2 => decide_eq_true (Int.le_trans (of_decide_eq_true h1) (of_decide_eq_true h2))
  have tt : ∀ a b : List Int, (codeLe a b || codeLe b a) = true := fun a b => by
    rw [Bool.or_eq_true]
    rcases Int.le_total (TS.code 1000000 a) (TS.code 1000000 b) with h | h
    · exact .inl (decide_eq_true h)
    · exact .inr (decide_eq_true h)
  refine List.Perm.eq_of_pairwise (le := fun a b => codeLe a b = true) (fun a b ha hb' h1 h2 => ?_) (List.pairwise_mergeSort tr tt ns) (hs.imp fun h => decide_eq_true h) ((List.mergeSort_perm ns codeLe).trans hp.symm)
  have ha' := hb a ((List.mergeSort_perm ns codeLe).mem_iff.mp ha)
  have hb2 := hb b (hp.mem_iff.mp hb')
  exact code_eq (by rw [ha'.1, hb2.1]) ha'.2 hb2.2 (Int.le_antisymm (of_decide_eq_true h1) (of_decide_eq_true h2))
theorem reps_of {K : PySem.W.Frag} {H : Hp} {ok : Addr → Prop} : ∀ (L : List (V × List Int)), (∀ q ∈ L, Rep K H ok q.1 (eT q.2)) → Reps K H ok (L.map fun q => q.1) (L.map fun q => eT q.2)
  | [], _ => .nil
  | q :: L, h => .cons (h q List.mem_cons_self) (reps_of L fun r hr => h r (List.mem_cons_of_mem _ hr))
theorem cd_sort {K : PySem.W.Frag} : CaD K (rSortU K 3 1000000) sortF := fun vs ds z H ok Q rs e q => by
  obtain ⟨p, ws, es, rfl, rfl, h, r, e⟩ := one_lst rs e
  obtain ⟨ns, e1, e⟩ := bind_some (show (tripsI es).bind _ = some z from e)
  split at e
  · next hl =>
    cases e
    obtain ⟨L, m1, m2, hL⟩ := reps_trips r e1
    have len : ws.length = ns.length := by rw [← m1, ← m2, List.length_map, List.length_map]
    refine ⟨p, ws, rfl, SqL.of h, by omega, fun x hx => ?_, fun ys p' hp pw hn => ?_⟩
    · rw [← m1] at hx
      obtain ⟨y, hy, rfl⟩ := List.mem_map.mp hx
      obtain ⟨a, _, b, c⟩ := hL y hy
      exact ⟨y.2, a, b, c⟩
    · obtain ⟨L', pL, mL⟩ := perm_lift (fun q : V × List Int => q.1) hp L m1
      have hL' : ∀ q ∈ L', TupI K H q.1 q.2 ∧ Rep K H ok q.1 (eT q.2) ∧ q.2.length = 3 ∧ TS.Bd 1000000 q.2 := fun q hq => hL q (pL.mem_iff.mp hq)
      have pw' : (L'.map fun q => q.2).Pairwise fun a b => TS.code 1000000 a ≤ TS.code 1000000 b := by
        rw [← mL, List.pairwise_map] at pw
        rw [List.pairwise_map]
        refine pw.imp_of_mem fun {a b} ha hb h => h _ _ (hL' a ha).1 (hL' b hb).1
      have es' : ns.mergeSort codeLe = L'.map fun q => q.2 := sort_is (by rw [← m2]; exact pL.map _) pw' fun n hn => by
        rw [← m2] at hn
        obtain ⟨y, hy, rfl⟩ := List.mem_map.mp hn
        exact (hL y hy).2.2
      rw [es', List.map_map] at q
      refine q _ _ (same_new hn) (.lst (.inr hn) upd_same ?_)
      have := reps_of L' fun q hq => (hL' q hq).2.1
      rw [mL] at this
      exact this.keeps (Same.keeps (same_new hn)) fun a g => .inl g
  · cases e
/-! ### f(x).append(y): the list is dropped at once -/
def sTmp (mo me : Mi) : Ms := fun S => (mo (fl S)).bind fun d => match d with
  | .lst ds => if ds.length < 1000000 then (me (cl S)).map fun _ => .nx S else none
  | _ => none
theorem es_tmp {X : Cx} {e o : Expr} {mo me : Mi} {pos p2 p3 : Pos} (ho : Ev X o mo) (he : Ev X e me)
    (hbase : attributeBase o "append" X.env (eval o X.env) = eval o X.env := by rfl)
    (hfew : ((backTo p3 (starEach [e] X.env)).all (fun x => !x.1) && (backToKw p3 (keywordEach [] X.env)).all (fun x => x.1.isSome) && decide ([e].length + ([] : List Keyword).length + (if ([] : List Keyword).isEmpty then 0 else 1) < 30)) = true := by rfl)
    (hline : (p2.endLine == p3.line) = true := by rfl) (hs : starEach [e] X.env = (false, eval e X.env) :: starEach [] X.env := by rfl) (hplain : (backTo p3 (starEach [] X.env)).any (fun x => x.1) = false := by rfl)
    (hsw : swapsWith (.Call (.Attribute o "append" p2) [e] [] p3) none pos.line X.env = pure false := by rfl) : Es X (.Expr (.Call (.Attribute o "append" p2) [e] [] p3) pos) (sTmp mo me) :=
  PS.imp (ps_expr (pe_bm PySem.F.plainAttrs_list PySem.F.slot_list_append PySem.F.type_list_append mt_append ho (ea_cons he ea_nil hs) hbase hfew hline hs hplain) hsw) fun E σ H hh => by
    obtain ⟨p0, H0, ok0, S, o, ⟨O, r⟩, m, q⟩ := hh
    obtain ⟨d, e1, m⟩ := bind_some m
    cases d with
    | lst ds =>
      have m' : (if ds.length < 1000000 then (me (cl S)).map fun _ => Out.nx S else none) = some o := m
      split at m'
      · next hl =>
        obtain ⟨y, e2, m'⟩ := map_some m'
        subst m'
        refine ⟨_, _, _, r.flatly, e1, fun vx H1 s1 rx => ?_⟩
        cases rx with
        | lst g hh rr =>
          rename_i a vs
          have hn : H a = none := g.elim (fun z => z.elim) fun z => z
          refine ⟨.inl ⟨rfl, _, SqL.of hh⟩, _, _, [y], (r.grow s1).closed, ?_, fun us H2 s2 ru => ?_⟩
          · show (me (cl S)).bind (fun x => some [x]) = _
            rw [e2]
            rfl
          · cases ru with
            | cons rv ru =>
              cases ru
              refine ⟨_, vs, _, rfl, rfl, s2 _ _ hh, by rw [rr.length]; exact Nat.lt_of_lt_of_le hl (by decide), q σ _ ⟨O, r.grow fun b ob e => ?_⟩⟩
              rw [upd_ne (ne_of_none e hn)]
              exact s2 _ _ (s1 _ _ e)
      · cases m'
    | _ => cases m
end Ice

/-! a loop over an own list that its body does not touch -/
namespace Ice
open PySem PySem.Spec PyProof.Rows L2
abbrev rawS (S : Sl) (j : Nat) (u : V) : Sl := S.set j (.dat (.raw u))
/-- the body does not look at slot j, nor write it -/
def Blind (j : Nat) (b : Ms) : Prop := ∀ S o, S[j]? = some .un → b S = some o → ∃ S2, o = .nx S2 ∧ S2[j]? = some .un ∧ ∀ u, b (rawS S j u) = some (.nx (rawS S2 j u))
def BlindT (j : Nat) (t : Tg) : Prop := ∀ d S S1, S[j]? = some .un → asgL t d S = some S1 → S1[j]? = some .un ∧ ∀ u, asgL t d (rawS S j u) = some (rawS S1 j u)
def BlindTs (j : Nat) (ts : List Tg) : Prop := ∀ ds S S1, S[j]? = some .un → asgsL ts ds S = some S1 → S1[j]? = some .un ∧ ∀ u, asgsL ts ds (rawS S j u) = some (rawS S1 j u)
theorem bt_nm {i j : Nat} (h : i ≠ j) : BlindT j (.nm i) := fun d S S1 hS e => by
  have e' : some (S.set i (.dat d)) = some S1 := e
  cases e'
  refine ⟨by rw [List.getElem?_set_ne h]; exact hS, fun u => ?_⟩
  show some ((S.set j (.dat (.raw u))).set i (.dat d)) = some ((S.set i (.dat d)).set j (.dat (.raw u)))
  rw [List.set_comm _ _ (fun z => h z.symm)]
theorem bt_nil {j : Nat} : BlindTs j [] := fun ds S S1 hS e => by
  cases ds with
  | nil =>
    have e' : some S = some S1 := e
    cases e'
    exact ⟨hS, fun u => rfl⟩
  | cons d ds => cases e
theorem bt_cons {j : Nat} {t : Tg} {ts : List Tg} (h : BlindT j t) (g : BlindTs j ts) : BlindTs j (t :: ts) := fun ds S S1 hS e => by
  cases ds with
  | nil => cases e
  | cons d ds =>
    obtain ⟨S2, e1, e2⟩ := bind_some (show (asgL t d S).bind (fun S1 => asgsL ts ds S1) = some S1 from e)
    obtain ⟨a, b⟩ := h d S S2 hS e1
    obtain ⟨a', b'⟩ := g ds S2 S1 a e2
    refine ⟨a', fun u => ?_⟩
    show (asgL t d (rawS S j u)).bind (fun S1 => asgsL ts ds S1) = _
    rw [b u]
    exact b' u
theorem bt_tp {j : Nat} {ts : List Tg} (h : BlindTs j ts) : BlindT j (.tp ts) := fun d S S1 hS e => by
  cases d with
  | tup ds => exact h ds S S1 hS e
  | wt ds => exact h ds S S1 hS e
  | _ => cases e
/-- what a reading tells stays when more is known -/
def LeS (S S' : Sd) : Prop := ∀ (i : Nat) (d : D), S[i]? = some (some d) → S'[i]? = some (some d)
def MonoI (m : Mi) : Prop := ∀ S S' d, LeS S S' → m S = some d → m S' = some d
def MonoA (m : Ma) : Prop := ∀ S S' ds, LeS S S' → m S = some ds → m S' = some ds
theorem mo_v (i : Nat) : MonoI (mV i) := fun S S' d h e => by
  unfold mV at e ⊢
  split at e
  · next d' hS =>
    cases e
    rw [h i _ hS]
  · cases e
theorem mo_c (d : D) : MonoI (mC d) := fun _ _ _ _ e => e
theorem mo_2 {f : D → D → Option D} {a b : Mi} (ha : MonoI a) (hb : MonoI b) : MonoI (m2 f a b) := fun S S' d h e => by
  obtain ⟨x, e1, e⟩ := bind_some e
  obtain ⟨y, e2, e⟩ := bind_some e
  unfold m2
  rw [ha S S' x h e1]
  simp only [Option.bind_some]
  rw [hb S S' y h e2]
  exact e
theorem mo_nil : MonoA aNil := fun _ _ _ _ e => e
theorem mo_cons {a : Mi} {r : Ma} (ha : MonoI a) (hr : MonoA r) : MonoA (aCons a r) := fun S S' ds h e => by
  obtain ⟨x, e1, e⟩ := bind_some e
  obtain ⟨xs, e2, e⟩ := bind_some e
  unfold aCons
  rw [ha S S' x h e1]
  simp only [Option.bind_some]
  rw [hr S S' xs h e2]
  exact e
theorem mo_A {f : List D → Option D} {r : Ma} (hr : MonoA r) : MonoI (mA f r) := fun S S' d h e => by
  obtain ⟨xs, e1, e⟩ := bind_some e
  unfold mA
  rw [hr S S' xs h e1]
  exact e
theorem le_raw {S : Sl} {j : Nat} {u : V} (hS : S[j]? = some .un) : LeS (cl S) (cl (rawS S j u)) := fun i d h => by
  by_cases c : i = j
  · subst c
    rw [List.getElem?_map, hS] at h
    cases h
  · rw [List.getElem?_map] at h ⊢
    rw [List.getElem?_set_ne (fun z => c z.symm)]
    exact h
theorem bl_set {i j : Nat} {m : Mi} (h : i ≠ j) (hm : MonoI m) : Blind j (sSet i m) := fun S o hS e => by
  obtain ⟨d, e1, e⟩ := map_some e
  subst e
  refine ⟨S.set i (.dat d), rfl, by rw [List.getElem?_set_ne h]; exact hS, fun u => ?_⟩
  unfold sSet
  rw [hm _ _ d (le_raw hS) e1]
  show some (Out.nx ((S.set j (.dat (.raw u))).set i (.dat d))) = _
  rw [List.set_comm _ _ (fun z => h z.symm)]
def sForO (j : Nat) (t : Tg) (b : Ms) : Ms := fun S => match S[j]? with
  | some (.own ds) => if flats ds = true then (forM t b ds (S.set j .un)).bind fun o => match o with
    | .nx S2 => some (.nx (S2.set j (.own ds)))
    | _ => none else none
  | _ => none
theorem ro_pin {K : PySem.W.Frag} {p0 : Addr} {H0 H : Hp} {ok0 O : Addr → Prop} {S : Sl} {σ : L2.St} (r : RO K p0 H0 ok0 O S σ H) {j : Nat} {ds : List D} {p : Addr} (hS : S[j]? = some (.own ds)) (hσ : σ[j]? = some (some (.ref p))) (hO : O p) :
    RO K p0 (off H fun a => O a ∧ a ≠ p) (fun a => ex ok0 H0 a ∧ ¬ O a) (fun a => O a ∧ a ≠ p) (rawS S j (.ref p)) σ H := by
  have wk : ∀ a, (ex ok0 H0 a ∧ ¬ O a) → (ex (fun a => ex ok0 H0 a ∧ ¬ O a) (off H fun a => O a ∧ a ≠ p) a ∧ ¬ (O a ∧ a ≠ p)) := fun a h => ⟨.inl h, fun z => h.2 z.1⟩
  refine ⟨fun a o e => (off_some e).2, by rw [List.length_set, r.len], fun a h => ⟨off_in h, (r.own0 a h.1).2⟩, fun i e h => ?_, fun i es h => ?_, fun i k es fs q ne h1 h2 h3 h4 => ?_, fun i es h => ?_, fun i k es fs h1 h2 h3 => ?_, fun i k es fs h1 h2 => ?_⟩
  · by_cases c : j = i
    · subst c
      rw [List.getElem?_set, if_pos rfl] at h
      split at h
      · cases h
        exact ⟨_, hσ, .raw _⟩
      · cases h
    · rw [List.getElem?_set_ne c] at h
      obtain ⟨u, f1, f2⟩ := r.dat i e h
      exact ⟨u, f1, f2.keeps (Same.keeps (Same.refl _)) wk⟩
  · obtain ⟨c, hh⟩ := set_back h (by intro z; cases z)
    clear h
    obtain ⟨q, ws, f1, f2, f3, f4⟩ := r.own i es hh
    exact ⟨q, ws, f1, ⟨f2, fun z => r.inj j i ds es q c hS hh (by rw [z]; exact hσ) f1⟩, f3, f4.keeps (Same.keeps (Same.refl _)) wk⟩
  · exact r.inj i k es fs q ne (set_back h1 (by intro z; cases z)).2 (set_back h2 (by intro z; cases z)).2 h3 h4
  · obtain ⟨c, hh⟩ := set_back h (by intro z; cases z)
    clear h
    obtain ⟨ws, f1, f2, f3, f4⟩ := r.din i es hh
    exact ⟨ws, f1, ⟨f2, fun z => r.inj0 j i ds es hS hh (by rw [z]; exact hσ)⟩, f3, f4.keeps (Same.keeps (Same.refl _)) wk⟩
  · exact r.inj0 i k es fs (set_back h1 (by intro z; cases z)).2 (set_back h2 (by intro z; cases z)).2 h3
  · exact r.one i k es fs (set_back h1 (by intro z; cases z)).2 (set_back h2 (by intro z; cases z)).2
theorem ro_unpin {K : PySem.W.Frag} {p0 : Addr} {H0 H H' : Hp} {ok0 O O' : Addr → Prop} {S S2 : Sl} {σ σ' : L2.St} (r : RO K p0 H0 ok0 O S σ H) {j : Nat} {ds : List D} {p : Addr} {vs : List V} (hO : O p) (hp : H p = some (.lst vs)) (hS2 : S2[j]? = some .un)
    (r' : RO K p0 (off H fun a => O a ∧ a ≠ p) (fun a => ex ok0 H0 a ∧ ¬ O a) O' (rawS S2 j (.ref p)) σ' H') (rr : ∀ ok, Reps K H' ok vs ds) : RO K p0 H0 ok0 (fun a => O' a ∨ a = p) (S2.set j (.own ds)) σ' H' := by
  have bp : (off H fun a => O a ∧ a ≠ p) p = some (.lst vs) := by
    rw [off_of (fun z => z.2 rfl)]
    exact hp
  have hp' : H' p = some (.lst vs) := r'.same _ _ bp
  have sb : Same H0 (off H fun a => O a ∧ a ≠ p) := fun a o e => by
    rw [off_of fun z => by
      have := (r.own0 a z.1).1
      rw [e] at this
      cases this]
    exact r.same a o e
  have hjl : j < S2.length := (List.getElem?_eq_some_iff.mp hS2).1
  obtain ⟨v, hv, rv⟩ := r'.dat j (.raw (.ref p)) (by rw [List.getElem?_set, if_pos rfl, if_pos hjl])
  have ev : v = .ref p := by cases rv; rfl
  subst ev
  have nO : ¬ O' p := fun z => by
    have := (r'.own0 p z).1
    rw [bp] at this
    cases this
  have wk : ∀ a, (ex (fun a => ex ok0 H0 a ∧ ¬ O a) (off H fun a => O a ∧ a ≠ p) a ∧ ¬ O' a) → (ex ok0 H0 a ∧ ¬ (O' a ∨ a = p)) := fun a h => by
    rcases h.1 with g | g
    · exact ⟨g.1, fun z => z.elim h.2 fun z => g.2 (by rw [z]; exact hO)⟩
    · exact ⟨.inr (sb.free g), fun z => z.elim h.2 fun z => by rw [z, bp] at g; cases g⟩
  have up : ∀ {i : Nat} {s : SL}, i ≠ j → (S2.set j (.own ds))[i]? = some s → (rawS S2 j (.ref p))[i]? = some s := fun {i s} c h => by
    rw [List.getElem?_set_ne (fun z => c z.symm)] at h ⊢
    exact h
  have lj : (S2.set j (.own ds))[j]? = some (.own ds) := by rw [List.getElem?_set, if_pos rfl, if_pos hjl]
  refine ⟨sb.trans r'.same, by rw [List.length_set, ← r'.len, List.length_set], fun a h => ?_, fun i e h => ?_, fun i es h => ?_, fun i k es fs q ne h1 h2 h3 h4 => ?_, fun i es h => ?_, fun i k es fs h1 h2 h3 => ?_, fun i k es fs h1 h2 => ?_⟩
  · rcases h with h | h
    · exact ⟨sb.free (r'.own0 a h).1, (r'.own0 a h).2⟩
    · subst h
      exact ⟨(r.own0 a hO).1, vs, hp'⟩
  · by_cases c : i = j
    · subst c; rw [lj] at h; cases h
    · obtain ⟨u, f1, f2⟩ := r'.dat i e (up c h)
      exact ⟨u, f1, f2.keeps (Same.keeps (Same.refl _)) wk⟩
  · by_cases c : i = j
    · subst c
      rw [lj] at h
      cases h
      exact ⟨p, vs, hv, .inr rfl, hp', rr _⟩
    · obtain ⟨q, ws, f1, f2, f3, f4⟩ := r'.own i es (up c h)
      exact ⟨q, ws, f1, .inl f2, f3, f4.keeps (Same.keeps (Same.refl _)) wk⟩
  · by_cases c : i = j
    · subst c
      rw [hv] at h3
      cases h3
      obtain ⟨q, ws, f1, f2, f3, f4⟩ := r'.own k fs (up (fun z => ne z.symm) h2)
      rw [h4] at f1
      cases f1
      exact nO f2
    · by_cases c2 : k = j
      · subst c2
        rw [hv] at h4
        cases h4
        obtain ⟨q, ws, f1, f2, f3, f4⟩ := r'.own i es (up c h1)
        rw [h3] at f1
        cases f1
        exact nO f2
      · exact r'.inj i k es fs q ne (up c h1) (up c2 h2) h3 h4
  · have c : i ≠ j := fun z => by subst z; rw [lj] at h; cases h
    obtain ⟨ws, f1, f2, f3, f4⟩ := r'.din i es (up c h)
    exact ⟨ws, f1, .inl f2, f3, f4.keeps (Same.keeps (Same.refl _)) wk⟩
  · have c2 : k ≠ j := fun z => by subst z; rw [lj] at h2; cases h2
    by_cases c : i = j
    · subst c
      rw [hv] at h3
      cases h3
      obtain ⟨ws, f1, f2, f3, f4⟩ := r'.din k fs (up c2 h2)
      exact nO f2
    · exact r'.inj0 i k es fs (up c h1) (up c2 h2) h3
  · have c : i ≠ j := fun z => by subst z; rw [lj] at h1; cases h1
    have c2 : k ≠ j := fun z => by subst z; rw [lj] at h2; cases h2
    exact r'.one i k es fs (up c h1) (up c2 h2)
theorem t_forO {K : PySem.W.Frag} {j : Nat} {t : Tg} {b : Ms} (ht : BlindT j t) (hb : Blind j b) {E : Ends} {σ : L2.St} {H : Hp} (h : tS K (sForO j t b) E σ H) : tFor (iList K (tVar j)) (tGL K t) (tS K b) E σ H := by
  obtain ⟨p0, H0, ok0, S, o, ⟨O, r⟩, m, q⟩ := h
  unfold sForO at m
  split at m
  case h_2 => cases m
  case h_1 ds hS =>
  split at m
  case isFalse => cases m
  case isTrue fd =>
  obtain ⟨o1, m, m2⟩ := bind_some m
  obtain ⟨p, vs, h1, h2, h3, h4⟩ := r.own j ds hS
  have hjl : j < S.length := (List.getElem?_eq_some_iff.mp hS).1
  have r1 := ro_pin r hS h1 h2
  have bp : (off H fun a => O a ∧ a ≠ p) p = some (.lst vs) := by
    rw [off_of (fun z => z.2 rfl)]
    exact h3
  have hlen : vs.length = ds.length := h4.length
  have reps : ∀ (H' : Hp) (ok : Addr → Prop), Same (off H fun a => O a ∧ a ≠ p) H' → Reps K H' ok vs ds := fun H' ok s => by
    have f0 : Reps K H (fun _ => False) vs ds := h4.flat _ _ fd
    have k : Keeps (fun _ => False) H H' := fun a o e g => by
      have fx : fixed o := g.elim (fun z => z.elim) fun z => z
      refine s _ _ ?_
      rw [off_of fun z => by
        obtain ⟨_, ws, e2⟩ := r.own0 a z.1
        rw [e2] at e
        cases e
        exact fx]
      exact e
    exact (f0.keeps k fun _ z => z).flat _ _ fd
  refine ⟨.ref p, h1, p, rfl, ⟨_, SqL.of h3⟩, ?_⟩
  refine ⟨fun i n σ' H' => n = ds.length - i ∧ i ≤ ds.length ∧ ∃ S', RS K p0 (off H fun a => O a ∧ a ≠ p) (fun a => ex ok0 H0 a ∧ ¬ O a) (rawS S' j (.ref p)) σ' H' ∧ S'[j]? = some .un ∧ forM t b (ds.drop i) S' = some o1, ⟨ds.length, rfl, Nat.zero_le _, S.set j .un, ⟨_, by
    show RO _ _ _ _ _ ((S.set j .un).set j (.dat (.raw (.ref p)))) _ _
    rw [List.set_set]
    exact r1⟩, by rw [List.getElem?_set, if_pos rfl, if_pos hjl], m⟩, ?_⟩
  rintro i n σ' H' ⟨rfl, hi, S', ⟨O', r'⟩, hun, hm⟩
  have hp' : H' p = some (.lst vs) := r'.same _ _ bp
  by_cases hlt : i < ds.length
  · have hdrop : ds.drop i = ds[i] :: ds.drop (i + 1) := List.drop_eq_getElem_cons hlt
    rw [hdrop] at hm
    obtain ⟨S1, ha, hm⟩ := bind_some (show (asgL t ds[i] S').bind _ = some o1 from hm)
    obtain ⟨ob, hbb, hm⟩ := bind_some hm
    obtain ⟨un1, up1⟩ := ht _ _ _ hun ha
    obtain ⟨S2, rfl, un2, up2⟩ := hb _ _ un1 hbb
    have hvi : vs[i]? = some vs[i] := List.getElem?_eq_getElem (by omega)
    let Nx : L2.St → Hp → Prop := fun σ'' H'' => i + 1 ≤ ds.length ∧ ∃ S', RS K p0 (off H fun a => O a ∧ a ≠ p) (fun a => ex ok0 H0 a ∧ ¬ O a) (rawS S' j (.ref p)) σ'' H'' ∧ S'[j]? = some .un ∧ forM t b (ds.drop (i + 1)) S' = some o1
    refine .inr ⟨⟨vs, vs[i], SqL.of hp', hvi⟩, Nx, fun σ'' H'' nx => ⟨ds.length - (i + 1), by omega, rfl, nx⟩, fun x H3 y => ?_⟩
    obtain ⟨rfl, y⟩ := y
    have hx := y vs (SqL.of hp')
    rw [hvi] at hx
    cases hx
    obtain ⟨v, e1, e2⟩ := (reps H3 (fun a => ex (fun a => ex ok0 H0 a ∧ ¬ O a) (off H fun a => O a ∧ a ≠ p) a ∧ ¬ O' a) r'.same).get (List.getElem?_eq_getElem hlt)
    rw [hvi] at e1
    cases e1
    exact ⟨p0, _, _, O', _, ds[i], _, r', e2, up1 _, fun σ2 r2 => ⟨p0, _, _, _, _, ⟨O', r2⟩, up2 _, fun σ4 H4 r4 => ⟨hlt, S2, r4, un2, hm⟩⟩⟩
  · have e : i = ds.length := by omega
    subst e
    rw [List.drop_length] at hm
    cases hm
    cases m2
    exact .inl ⟨⟨vs, SqL.of hp', by omega⟩, q σ' H' ⟨_, ro_unpin r h2 h3 hun r' fun ok => reps H' ok r'.same⟩⟩
theorem es_forO {X : Cx} {tg : Expr} {body : List Stmt} {t : Tg} {mb : Ms} {pos p1 : Pos} {x : Str} (j : Nat) (hg : El X tg t) (hb : Ess X body mb) (bt : BlindT j t) (bb : Blind j mb) (hi : X.N[j]? = some x := by rfl) (hv : Vis X.env.scope x := by first | exact Or.inl rfl | exact Or.inr (Or.inl rfl) | exact Or.inr (Or.inr rfl))
    (hd : (x == ("__debug__" : Str)) = false := by decide) (hcd : (x == ("__classdict__" : Str)) = false := by decide)
    (hp : PassesOwn (model X.prog X.w) X.A X.env X.xe := by exact PassesOwn.never) (hc : X.calm = true := by rfl) (hs : ∀ z, foldedSetIterable (.Name x p1) X.env z = pure z := by intro _; rfl) :
    Es X (.For tg (.Name x p1) body [] pos) (sForO j t mb) := PS.imp (ps_for hp hc (pi_list (pe_var hi hv hd hcd)) hg hb hs) fun E σ H h => t_forO bt bb h
/-! ### x = list(y), y an own list -/
def sCopy (i j : Nat) : Ms := fun S => match S[j]? with
  | some (.own ds) => if flats ds = true then some (.nx (S.set i (.own ds))) else none
  | _ => none
theorem es_copy {X : Cx} {e : Expr} {z : Str} {pos pos' p2 p3 : Pos} (i j : Nat) (hN : X.N.Nodup) {x : Str} (hg : Gl X z) (hm : X.mg z = none) (hv : bootBuiltins z = some (.type "list")) (ha : Ea X [e] (aCons (mV j) aNil)) (hi : X.N[i]? = some x := by rfl) (hx : Loc X.env.scope x := by first | exact Or.inl rfl | exact Or.inr rfl)
    (hs : swapsWith (.Call (.Name z p2) [e] [] p3) (some (.Name x pos')) pos.line X.env = pure false := by rfl) (hf : X.fn x = true ∨ X.env.scope.names.lookup x = some .local := by first | exact .inl rfl | exact .inr rfl) (hn : z ≠ "__name__" := by decide) (hdb : (z == ("__debug__" : Str)) = false := by decide)
    (he : starEach [e] X.env = (false, eval e X.env) :: starEach [] X.env := by rfl) (hpl : (backTo p3 (starEach [] X.env)).any (·.1) = false := by rfl) : Es X (.Assign [.Name x pos'] (.Call (.Name z p2) [e] [] p3) pos) (sCopy i j) :=
  PS.imp (ps_set hN hi hx (pe_callTy call_list_of hg hm hv ha hn hdb he hpl) hs hf) fun E σ H h => by
    obtain ⟨p0, H0, ok0, S, o, ⟨O, r⟩, m, q⟩ := h
    unfold sCopy at m
    split at m
    case h_2 => cases m
    case h_1 ds hS =>
    split at m
    case isFalse => cases m
    case isTrue fd =>
    cases m
    have e1 : mV j (op S) = some (.lst ds) := by
      have : (op S)[j]? = some (some (.lst ds)) := by rw [List.getElem?_map, hS]; rfl
      unfold mV
      rw [this]
    refine ⟨_, _, [.lst ds], r.opened, ?_, fun us H' s ru => ?_⟩
    · show (mV j (op S)).bind (fun x => some [x]) = _
      rw [e1]
      rfl
    · cases ru with
      | cons rv ru =>
        cases ru
        cases rv with
        | lst g hh rr => exact ⟨_, _, rfl, .inl (SqL.of hh), fun l hl => q _ _ ⟨_, (r.grow s).putOwnG hl (rr.flat _ _ fd)⟩⟩
end Ice

/-! list(range(a, b, c)) -/
namespace Ice
open PySem PySem.Spec PyProof.Rows L2
def rg3D : List D → Option D
  | [.int i, .int j, .int k] => if k ≠ 0 ∧ k.natAbs < 1073741824 ∧ Builtin.Range.small i j k = true ∧ 0 ≤ Builtin.Range.rangeSize i j k ∧ Builtin.Range.rangeSize i j k ≤ 16777216 then some (.lst ((List.range (Builtin.Range.rangeSize i j k).toNat).map fun (t : Nat) => .int (i + (t : Int) * k))) else none
  | _ => none
theorem reps_rg {K : PySem.W.Frag} {H : Hp} {ok : Addr → Prop} (f : Nat → Int) : ∀ (ts : List Nat), Reps K H ok (ts.map fun t => V.int (f t)) (ts.map fun t => D.int (f t))
  | [] => .nil
  | t :: ts => .cons (.int _) (reps_rg f ts)
theorem ev_rg3 {X : Cx} {a b c : Expr} {mr : Ma} {p p2 pos pos2 : Pos} (hg : Gl X "list") (hm : X.mg "list" = none) (hg2 : Gl X "range") (hm2 : X.mg "range" = none) (ha : Ea X [a, b, c] mr) (hc : X.calm = true := by rfl)
    (hs : starEach [a, b, c] X.env = (false, eval a X.env) :: starEach [b, c] X.env := by rfl) (hpl : (backTo pos2 (starEach [b, c] X.env)).any (·.1) = false := by rfl)
    (na : starEach [.Call (.Name "range" p2) [a, b, c] [] pos2] X.env = (false, eval (.Call (.Name "range" p2) [a, b, c] [] pos2) X.env) :: starEach [] X.env := by rfl) :
    Ev X (.Call (.Name "list" p) [.Call (.Name "range" p2) [a, b, c] [] pos2] [] pos) (mA rg3D mr) := by
  refine ⟨fun pins s σ H Q I h => ?_⟩
  obtain ⟨ok, S, d, rs, m, q⟩ := h
  obtain ⟨ds, e1, m⟩ := bind_some m
  have inner : wpAny (model X.prog X.w) X.A (eval (.Call (.Name "range" p2) [a, b, c] [] pos2) X.env) (fun x s' => ∃ r i j k t u v H', x = .ref r ∧ IsRange s'.heap r i j k t u v ∧ Inv X pins σ H' s' ∧ Same H H' ∧ ds = [.int i, .int j, .int k] ∧ k ≠ 0) X.xe s := by
    refine Call_ (ld_blt I hg2 hm2 boot_range (PyProof.Rows.callWith_type1 (thn (ha.run pos2 pins s σ H (fun vs H1 => Same H H1 ∧ Reps X.K H1 (ex ok H) vs ds) I ⟨ok, S, ds, rs, e1, fun vs H' s' r => ⟨s', r⟩⟩) fun us s1 ⟨vs, H1, I1, r1, sm, rr⟩ => ?_) hs hpl))
    unfold rg3D at m
    split at m
    · next i j k _ap =>
      split at m
      · next cnd =>
        cases rr with
        | cons x1 rr =>
          cases rr with
          | cons x2 rr =>
            cases rr with
            | cons x3 rr =>
              cases rr
              cases x1
              cases x2
              cases x3
              cases r1 with
              | cons y1 r1 =>
                cases r1 with
                | cons y2 r1 =>
                  cases r1 with
                  | cons y3 r1 =>
                    cases r1
                    obtain ⟨t, rfl⟩ := y1
                    obtain ⟨t', rfl⟩ := y2
                    obtain ⟨t'', rfl⟩ := y3
                    exact call_range_3 cnd.1 ⟨_, i, j, k, _, _, _, H1, rfl, IsRange.new _ _ _ _ _ _ _, I1.kept fun b u e => Heap.get?_push_of_some _ e, sm, rfl, cnd.1⟩ (.inl (PyProof.noPylong_small cnd.2.1))
      · cases m
    · cases m
  refine Call_ (ld_blt I hg hm boot_list (PyProof.Rows.callWith_type1 (args_cons (thn inner fun x s1 ⟨r, i, j, k, t, u, v, H1, ex1, hr, I1, sm, ed, k0⟩ => args_nil ?_) na) na))
  subst ex1
  subst ed
  have m' : (if k ≠ 0 ∧ k.natAbs < 1073741824 ∧ Builtin.Range.small i j k = true ∧ 0 ≤ Builtin.Range.rangeSize i j k ∧ Builtin.Range.rangeSize i j k ≤ 16777216 then some (D.lst ((List.range (Builtin.Range.rangeSize i j k).toNat).map fun (t : Nat) => .int (i + (t : Int) * k))) else none) = some d := m
  split at m'
  case isFalse => cases m'
  case isTrue cnd =>
  cases m'
  refine call_list_range (n := (Builtin.Range.rangeSize i j k).toNat) (I1.ok.hd hc) hr cnd.2.2.1 (by omega) (by omega) fun h' tk acc c' hk e' hi => ?_
  have el : acc.toList.length = (Builtin.Range.rangeSize i j k).toNat := by rw [Array.length_toList]; exact hi.1
  have vv : Vals ((List.range (Builtin.Range.rangeSize i j k).toNat).map fun (t : Nat) => V.int (i + (t : Int) * k)) acc.toList := by
    rw [← el]
    refine vals_of_get acc.toList _ fun j u hj => ?_
    obtain ⟨t, rfl⟩ := hi.2 j u (by rw [← hj, Array.getElem?_toList])
    exact ⟨t, rfl⟩
  have hn : H1 s1.heap.objs.size = none := I1.hok.fresh (Nat.le_refl _)
  refine ⟨.ref s1.heap.objs.size, upd H1 s1.heap.objs.size (.lst _), I1.laid hk (Nat.le_refl _) (show ObjOk X.prog X.w _ _ _ (.lst ((List.range (Builtin.Range.rangeSize i j k).toNat).map fun (t : Nat) => V.int (i + (t : Int) * k))) from ⟨?_, acc.toList, c', vv, ?_⟩), rfl, q _ _ (sm.trans (same_new hn)) (.lst (.inr (sm.free hn)) upd_same (reps_rg (fun t => i + (t : Int) * k) _))⟩
  · rw [List.length_map, List.length_range, sizeLine_eq]
    omega
  · rw [Array.toArray_toList]
    exact e'
end Ice

/-! rows that are changed again and again: all names but one hold flat data, that one a list of distinct lists of ints, new since the entry -/
namespace Ice
open PySem PySem.Spec PyProof.Rows L2
structure RM (K : PySem.W.Frag) (H0 : Hp) (i : Nat) (rs : List (List Int)) (S : Sd) (σ : L2.St) (H : Hp) : Prop where
  ex : ∃ D as, σ[i]? = some (some (.ref D)) ∧ H0 D = none ∧ H D = some (.lst (as.map V.ref)) ∧ (∀ a ∈ as, H0 a = none ∧ a ≠ D) ∧ as.Nodup ∧ MatL H as rs
  same : Same H0 H
  len : S.length = σ.length
  fl : ∀ (j : Nat) (d : D), S[j]? = some (some d) → j ≠ i ∧ flat d = true ∧ ∃ v, σ[j]? = some (some v) ∧ Rep K H (fun _ => False) v d
theorem RM.lt {K : PySem.W.Frag} {H0 H : Hp} {i : Nat} {rs : List (List Int)} {S : Sd} {σ : L2.St} (r : RM K H0 i rs S σ H) : i < S.length := by
  obtain ⟨D, as, h1, _⟩ := r.ex
  rw [r.len]
  exact (List.getElem?_eq_some_iff.mp h1).1
theorem RM.rd {K : PySem.W.Frag} {H0 H : Hp} {i : Nat} {rs : List (List Int)} {S : Sd} {σ : L2.St} (r : RM K H0 i rs S σ H) : Rs K H (fun a => H0 a = none) (S.set i (some (eMat rs))) σ := fun j d e => by
  by_cases c : i = j
  · subst c
    rw [List.getElem?_set_self r.lt] at e
    cases e
    obtain ⟨D, as, h1, h2, h3, h4, h5, h6⟩ := r.ex
    exact ⟨_, h1, .lst h2 h3 (MatL.reps (fun a ha => (h4 a ha).1) h6)⟩
  · rw [List.getElem?_set_ne c] at e
    obtain ⟨_, _, v, h1, h2⟩ := r.fl j d e
    exact ⟨v, h1, h2.keeps (Same.keeps (Same.refl _)) fun _ z => z.elim⟩
theorem RM.grow {K : PySem.W.Frag} {H0 H H' : Hp} {i : Nat} {rs : List (List Int)} {S : Sd} {σ : L2.St} (r : RM K H0 i rs S σ H) (s : Same H H') : RM K H0 i rs S σ H' := by
  obtain ⟨D, as, h1, h2, h3, h4, h5, h6⟩ := r.ex
  exact ⟨⟨D, as, h1, h2, s _ _ h3, h4, h5, h6.same s⟩, r.same.trans s, r.len, fun j d e => let ⟨a, b, v, h1, h2⟩ := r.fl j d e; ⟨a, b, v, h1, h2.keeps (Same.keeps s) fun _ z => z⟩⟩
theorem RM.put {K : PySem.W.Frag} {H0 H : Hp} {i j : Nat} {rs : List (List Int)} {S : Sd} {σ : L2.St} (r : RM K H0 i rs S σ H) (hj : j ≠ i) {d : D} {v : V} (f : flat d = true) {ok : Addr → Prop} (rv : Rep K H ok v d) : RM K H0 i rs (S.set j (some d)) (σ.set j (some v)) H := by
  obtain ⟨D, as, h1, h2, h3, h4, h5, h6⟩ := r.ex
  refine ⟨⟨D, as, by rw [List.getElem?_set_ne hj]; exact h1, h2, h3, h4, h5, h6⟩, r.same, by rw [List.length_set, List.length_set, r.len], fun k e h => ?_⟩
  by_cases c : j = k
  · subst c
    rw [List.getElem?_set, if_pos rfl] at h
    split at h
    · next hl =>
      cases h
      exact ⟨hj, f, v, List.getElem?_set_self (by rw [← r.len]; exact hl), rv.flat _ _ f⟩
    · cases h
  · rw [List.getElem?_set_ne c] at h
    obtain ⟨a, b, u, h1, h2⟩ := r.fl k e h
    exact ⟨a, b, u, by rw [List.getElem?_set_ne c]; exact h1, h2⟩
abbrev MM := List (List Int) × Sd → Option (List (List Int) × Sd)
def tM (K : PySem.W.Frag) (i : Nat) (m : MM) : TS := fun E σ H => ∃ H0 rs S x, RM K H0 i rs S σ H ∧ m (rs, S) = some x ∧ ∀ σ' H', RM K H0 i x.1 x.2 σ' H' → E.nx σ' H'
abbrev Em (X : Cx) (i : Nat) (st : Stmt) (m : MM) : Prop := PS X st (tM X.K i m)
abbrev Ems (X : Cx) (i : Nat) (st : List Stmt) (m : MM) : Prop := PSs X st (tM X.K i m)
def mmSeq (a b : MM) : MM := fun x => (a x).bind b
theorem ems_one {X : Cx} {i : Nat} {st : Stmt} {m : MM} (h : Em X i st m) : Ems X i [st] m := pss_one h
theorem ems_cons {X : Cx} {i : Nat} {st : Stmt} {r : List Stmt} {m n : MM} (h : Em X i st m) (g : Ems X i r n) : Ems X i (st :: r) (mmSeq m n) := ⟨fun pins s σ H E I hh => (pss_cons h g).run pins s σ H E I (by
  obtain ⟨H0, rs, S, x, r, e, q⟩ := hh
  obtain ⟨y, e1, e2⟩ := bind_some e
  exact ⟨H0, rs, S, y, r, e1, fun σ' H' r' => ⟨H0, y.1, y.2, x, r', e2, q⟩⟩)⟩
def mmSet (i j : Nat) (me : Mi) : MM := fun x => if j = i then none else (me (x.2.set i (some (eMat x.1)))).bind fun d => if flat d = true then some (x.1, x.2.set j (some d)) else none
theorem em_set {X : Cx} {e : Expr} {me : Mi} {x : Str} {pos pos' : Pos} (i j : Nat) (hN : X.N.Nodup) (he : Ev X e me) (hi : X.N[j]? = some x := by rfl) (hx : Loc X.env.scope x := by first | exact Or.inl rfl | exact Or.inr rfl) (hs : swapsWith e (some (.Name x pos')) pos.line X.env = pure false := by rfl)
    (hf : X.fn x = true ∨ X.env.scope.names.lookup x = some .local := by first | exact .inl rfl | exact .inr rfl) : Em X i (.Assign [.Name x pos'] e pos) (mmSet i j me) := PS.imp (ps_set hN hi hx he hs hf) fun E σ H h => by
  obtain ⟨H0, rs, S, y, r, m, q⟩ := h
  unfold mmSet at m
  split at m
  case isTrue => cases m
  case isFalse hj =>
  obtain ⟨d, e1, m⟩ := bind_some m
  split at m
  case isFalse => cases m
  case isTrue f =>
  cases m
  exact ⟨_, _, d, r.rd, e1, fun v H' s rv => q _ H' ((r.grow s).put hj f rv)⟩
def loopM (k : Nat) (m : MM) : Nat → Nat → MM
  | 0, _, x => some x
  | n + 1, t, x => (m (x.1, x.2.set k (some (.int (t : Int))))).bind fun y => loopM k m n (t + 1) y
def mmFor (i k : Nat) (mn : Mi) (m : MM) : MM := fun x => if k = i then none else (mn (x.2.set i (some (eMat x.1)))).bind fun d => match d with
  | .int n => if 0 ≤ n ∧ n ≤ 1000000 then loopM k m n.toNat 0 x else none
  | _ => none
theorem em_for {X : Cx} {a : Expr} {body : List Stmt} {mn : Mi} {m : MM} {x : Str} {p p1 p2 pos : Pos} (i k : Nat) (hN : X.N.Nodup) (hg : Gl X "range") (hm : X.mg "range" = none) (ha : Ev X a mn) (hb : Ems X i body m) (hi : X.N[k]? = some x := by rfl) (hx : Loc X.env.scope x := by first | exact Or.inl rfl | exact Or.inr rfl)
    (hf : X.fn x = true ∨ X.env.scope.names.lookup x = some .local := by first | exact .inl rfl | exact .inr rfl) (hs : starEach [a] X.env = [(false, eval a X.env)] := by rfl)
    (hp : PassesOwn (model X.prog X.w) X.A X.env X.xe := by exact PassesOwn.never) (hc : X.calm = true := by rfl) (hfo : ∀ z, foldedSetIterable (.Call (.Name "range" p1) [a] [] p2) X.env z = pure z := by intro _; rfl) :
    Em X i (.For (.Name x p) (.Call (.Name "range" p1) [a] [] p2) body [] pos) (mmFor i k mn m) := PS.imp (ps_for hp hc (pi_range1 hg hm (ea_cons ha ea_nil hs) hs) (pg_name hN hi hx hf) hb hfo) fun E σ H h => by
  obtain ⟨H0, rs, S, y, r, mm, q⟩ := h
  unfold mmFor at mm
  split at mm
  case isTrue => cases mm
  case isFalse hk =>
  obtain ⟨d, e1, mm⟩ := bind_some mm
  cases d with
  | int n =>
    have mm' : (if 0 ≤ n ∧ n ≤ 1000000 then loopM k m n.toNat 0 (rs, S) else none) = some y := mm
    split at mm'
    case isFalse => cases mm'
    case isTrue hn =>
    refine ⟨_, _, [.int n], r.rd, ?_, fun vs H1 s1 rv => ?_⟩
    · show (mn _).bind (fun x => some [x]) = _
      rw [e1]
      rfl
    · cases rv with
      | cons ra rv =>
        cases rv
        cases ra
        refine ⟨n, rfl, by omega, by omega, ?_⟩
        refine ⟨fun t j σ' H' => j = n.toNat - t ∧ t ≤ n.toNat ∧ ∃ z : List (List Int) × Sd, RM X.K H0 i z.1 z.2 σ' H' ∧ loopM k m (n.toNat - t) t z = some y, ⟨n.toNat, rfl, Nat.zero_le _, (rs, S), r.grow s1, mm'⟩, ?_⟩
        rintro t j σ' H' ⟨rfl, ht, z, r', e⟩
        by_cases hlt : t < n.toNat
        · have en : n.toNat - t = (n.toNat - (t + 1)) + 1 := by omega
          rw [en] at e
          obtain ⟨w, e2, e3⟩ := bind_some (show (m (z.1, z.2.set k (some (.int (t : Int))))).bind (fun y => loopM k m (n.toNat - (t + 1)) (t + 1) y) = some y from e)
          refine .inr ⟨hlt, fun σ'' H'' => t + 1 ≤ n.toNat ∧ ∃ z : List (List Int) × Sd, RM X.K H0 i z.1 z.2 σ'' H'' ∧ loopM k m (n.toNat - (t + 1)) (t + 1) z = some y, fun σ'' H'' nx => ⟨n.toNat - (t + 1), by omega, rfl, nx⟩, fun x H3 yl => ?_⟩
          obtain ⟨rfl, rfl⟩ := yl
          exact ⟨H0, z.1, _, w, r'.put hk (d := .int (t : Int)) rfl (ok := fun _ => False) (by rw [Int.zero_add]; exact .int _), e2, fun σ4 H4 r4 => ⟨hlt, w, r4, e3⟩⟩
        · have et : n.toNat - t = 0 := by omega
          rw [et] at e
          cases e
          exact .inl ⟨by show n.toNat ≤ t; omega, q σ' H' r'⟩
  | _ => cases mm
def mmSub (i : Nat) (ma mb mv : Mi) : MM := fun x => (mv (x.2.set i (some (eMat x.1)))).bind fun v => (iOf v).bind fun v => (ma (x.2.set i (some (eMat x.1)))).bind fun a => (iOf a).bind fun a => (mb (x.2.set i (some (eMat x.1)))).bind fun b => (iOf b).bind fun b =>
  (setAt x.1 a b v).map fun rs' => (rs', x.2)
theorem em_sub {X : Cx} {ia ib ve : Expr} {p1 p2 p3 pos2 : Pos} {y : Str} {ma mb mv : Mi} (i : Nat) (hv : Ev X ve mv) (ha : Ev X ia ma) (hb : Ev X ib mb) (hy : X.N[i]? = some y := by rfl)
    (hvis : Vis X.env.scope y := by first | exact Or.inl rfl | exact Or.inr (Or.inl rfl) | exact Or.inr (Or.inr rfl)) (hd : (y == ("__debug__" : Str)) = false := by decide) (hcd : (y == ("__classdict__" : Str)) = false := by decide) (hpi : PlainIx ia := by exact fun _ _ => rfl)
    (hsub : ∀ v, assign (.Subscript (.Subscript (.Name y p1) ia p2) ib p3) X.env v = (do
      let ov ← holding [v] (eval (.Subscript (.Name y p1) ia p2) X.env)
      let iv ← holding [v, ov] (eval ib X.env)
      standAt p3
      holding [v, ov, iv] (setItem ov iv v)
      release [v, ov, iv] []) := by intro _; rfl)
    (hs2 : swapsWithSole [.Subscript (.Subscript (.Name y p1) ia p2) ib p3] ve pos2.line X.env = pure false := by rfl) (hw2 : swappedStores [.Subscript (.Subscript (.Name y p1) ia p2) ib p3] ve X.env = pure none := by rfl)
    (h12 : (assignEach [.Subscript (.Subscript (.Name y p1) ia p2) ib p3] X.env).map (fun x => x.2) = [assign (.Subscript (.Subscript (.Name y p1) ia p2) ib p3) X.env] := by rfl) :
    Em X i (.Assign [.Subscript (.Subscript (.Name y p1) ia p2) ib p3] ve pos2) (mmSub i ma mb mv) :=
  PS.imp (ps_asg hv (pg_sub (pe_ix ix_seq (pe_var hy hvis hd hcd) ha hpi) hb set_list hsub) hs2 hw2 h12) fun E σ H h => by
    obtain ⟨H0, rs, S, x, r, mm, q⟩ := h
    unfold mmSub at mm
    obtain ⟨dv, e1, mm⟩ := bind_some mm
    obtain ⟨v, e2, mm⟩ := bind_some mm
    obtain ⟨da, e3, mm⟩ := bind_some mm
    obtain ⟨a, e4, mm⟩ := bind_some mm
    obtain ⟨db, e5, mm⟩ := bind_some mm
    obtain ⟨b, e6, mm⟩ := bind_some mm
    obtain ⟨rs', e7, mz⟩ := map_some mm
    have ev := iOf_ok e2
    have ea := iOf_ok e4
    have eb := iOf_ok e6
    subst ev ea eb
    subst mz
    obtain ⟨ja, f1, e7⟩ := bind_some e7
    obtain ⟨row, f2, e7⟩ := bind_some e7
    obtain ⟨jb, f3, rfl⟩ := map_some e7
    obtain ⟨D, as, d1, d2, d3, d4, nd, mt⟩ := r.ex
    refine ⟨_, _, .int v, r.rd, e1, fun vv H1 t1 rv => ?_⟩
    cases rv
    refine ⟨.ref D, d1, _, _, .int a, r.rd.keeps (Same.keeps t1) (fun _ z => z), e3, fun va H2 t2 ra => ?_⟩
    cases ra
    have t12 := t1.trans t2
    obtain ⟨aj, g1, g2⟩ := (mt.same t12).get f2
    have hal : as.length = rs.length := mt.len
    refine .inl ⟨D, as.map V.ref, a, .ref aj, rfl, rfl, SqL.of (t12 _ _ d3), ?_, ?_⟩
    · unfold atI
      have f1' : ixN rs.length a = some ja := f1
      rw [List.length_map, hal, f1']
      show (as.map V.ref)[ja]? = _
      rw [List.getElem?_map, g1]
      rfl
    · refine ⟨_, _, .int b, r.rd.keeps (Same.keeps t12) (fun _ z => z), e5, fun vb H3 t3 rb => ?_⟩
      cases rb
      have t13 := t12.trans t3
      have g3 : H3 aj = some (.lst (row.map V.int)) := t3 _ _ g2
      refine ⟨aj, row.map V.int, b, jb, rfl, rfl, g3, by rw [List.length_map]; exact f3, ?_⟩
      have haj : aj ∈ as := List.mem_of_getElem? g1
      have hDj : D ≠ aj := fun z => (d4 aj haj).2 z.symm
      rw [← List.map_set]
      have mf : MatL (upd H3 aj (.lst ((row.set jb v).map V.int))) as (rs.set ja (row.set jb v)) := MatL.put nd (mt.same t13) g1
      refine q σ _ ⟨⟨D, as, d1, d2, by rw [upd_ne hDj]; exact t13 _ _ d3, d4, nd, mf⟩, fun y ob e => ?_, r.len, fun k e h => ?_⟩
      · have ne : y ≠ aj := ne_of_none e (d4 aj haj).1
        rw [upd_ne ne]
        exact t13 _ _ (r.same _ _ e)
      · obtain ⟨a1, b1, u, h1, h2⟩ := r.fl k e h
        refine ⟨a1, b1, u, h1, (h2.keeps (Same.keeps t13) fun _ z => z).keeps (fun y ob e g => ?_) fun _ z => z⟩
        have fx : fixed ob := g.elim (fun z => z.elim) fun z => z
        have ne : y ≠ aj := fun z => by
          rw [z, g3] at e
          cases e
          exact fx
        rw [upd_ne ne]
        exact e
/-! ### the rows made, changed, told -/
def sRows (i k : Nat) (vs : List Nat) (mi : Ma) (m : MM) (me : Mi) : Ms := fun S => if k < S.length ∧ i < S.length then
  (mi (cl S)).bind fun ds => (rowsOf ds).bind fun rs => if rs.length ≤ 1000 then
    (m (rs, (fl S).set i none)).bind fun x => (me (x.2.set i (some (eMat x.1)))).bind fun d => if flat d = true then some (.rt d (x.2.map fun _ => SL.un)) else none
  else none
  else none
theorem un_RO {K : PySem.W.Frag} {p0 : Addr} {H0 H : Hp} {ok0 : Addr → Prop} {S : Sd} {σ : L2.St} (s : Same H0 H) (l : S.length = σ.length) : RO K p0 H0 ok0 (fun _ => False) (S.map fun _ => SL.un) σ H := by
  have no : ∀ {j : Nat} {x : SL}, (S.map fun _ => SL.un)[j]? = some x → x = .un := fun {j x} h => by
    rw [List.getElem?_map] at h
    obtain ⟨_, _, e⟩ := map_some h
    exact e.symm
  exact ⟨s, by rw [List.length_map, l], fun a h => h.elim, fun j d h => (nomatch no h), fun j ds h => (nomatch no h), fun j k ds es p _ h => (nomatch no h), fun j ds h => (nomatch no h), fun j k ds es h => (nomatch no h), fun j k ds es h => (nomatch no h)⟩
theorem ess_rows {X : Cx} {elt tg iter re : Expr} {st : Stmt} {scope : Scope} {pos spos py pos3 : Pos} {y : Str} {mi : Ma} {m : MM} {me : Mi} (i k : Nat) (own : List (Str × Nat)) (hN : X.N.Nodup) (hi : Ei X tg iter mi) (ok : BlkOk X.N X.env.scope scope own)
    (hg : ∀ (s : Shared) (H : Hp) (C : Addr) (cl : List (Str × Addr)) (fp : List Addr), Eg (X.blk s H scope (compEnvC scope cl C X.env) fp) tg (.nm k))
    (he : ∀ (s : Shared) (H : Hp) (C : Addr) (cl : List (Str × Addr)) (fp : List Addr), PE (X.blk s H scope (compEnvC scope cl C X.env) fp) elt (tCB (rLi X.K) (tA X.K (aCons (mV k) aNil))))
    (h2 : Em X i st m) (hr : Ev X re me)
    (hs : ∀ x, foldedSetIterable iter X.env x = pure x := by intro _; rfl)
    (hy : X.N[i]? = some y := by rfl) (hyl : X.env.scope.names.lookup y = some .local := by rfl) (hsw : swapsWith (.ListComp elt [⟨tg, iter, [], 0⟩] scope pos) (some (.Name y py)) spos.line X.env = pure true := by exact sw_true rfl rfl rfl rfl)
    (hk : k ∈ own.map (·.2) := by decide) (hc : X.calm = true := by rfl) :
    Ess X [.Assign [.Name y py] (.ListComp elt [⟨tg, iter, [], 0⟩] scope pos) spos, st, .Return (some re) pos3] (sRows i k (own.map (·.2)) mi m me) :=
  ⟨fun pins s σ H E I h => (pss_cons (ps_setLc (g := tG X.K (.nm k)) (tt := tT X.K mYes) (te := tCB (rLi X.K) (tA X.K (aCons (mV k) aNil))) hc hN hy hyl hsw hi ok hg (fun s H C cl fp => ets_nil) he hs) (pss_cons h2 (pss_one (ps_ret (pos := pos3) hr)))).run pins s σ H E I (by
    obtain ⟨p0, H0, ok0, S, o, ⟨O, r⟩, mm, q⟩ := h
    unfold sRows at mm
    split at mm
    case isFalse => cases mm
    case isTrue hkl =>
    obtain ⟨ds, h1, mm⟩ := bind_some mm
    obtain ⟨rs, hrs, mm⟩ := bind_some mm
    split at mm
    case isFalse => cases mm
    case isTrue hrl =>
    obtain ⟨x, e1, mm⟩ := bind_some mm
    obtain ⟨d, e2, mm⟩ := bind_some mm
    split at mm
    case isFalse => cases mm
    case isTrue fd =>
    cases mm
    have ed := rowsOf_ok hrs
    subst ed
    show tLc (tI X.K mi) (tG X.K (.nm k)) (tT X.K mYes) (tCB (rLi X.K) (tA X.K (aCons (mV k) aNil))) (own.map (·.2)) σ H (fun x H1 => tSeq (tM X.K i m) (tRet (tE X.K me)) E (σ.set i (some x)) H1)
    refine t_mat (K := X.K) ⟨hk, by rw [← r.len]; exact hkl.1⟩ r.closed h1 hrl (fun d => ?_) fun D as H' s1 hD hDl has nd mt => ?_
    · unfold mV
      rw [List.getElem?_set_self (by rw [wipeD_len, List.length_map]; exact hkl.1)]
    · have rm : RM X.K H i rs ((fl S).set i none) (σ.set i (some (.ref D))) H' := by
        refine ⟨⟨D, as, List.getElem?_set_self (by rw [← r.len]; exact hkl.2), hD, hDl, has, nd, mt⟩, s1, by rw [List.length_set, List.length_set, List.length_map, r.len], fun j d e => ?_⟩
        by_cases c : i = j
        · subst c
          rw [List.getElem?_set, if_pos rfl] at e
          split at e <;> cases e
        · rw [List.getElem?_set_ne c] at e
          obtain ⟨v, v1, v2⟩ := r.flatly j d e
          refine ⟨fun z => c z.symm, ?_, v, by rw [List.getElem?_set_ne c]; exact v1, v2.keeps (Same.keeps s1) fun _ z => z⟩
          rw [List.getElem?_map] at e
          obtain ⟨sl, _, e'⟩ := map_some e
          cases sl with
          | dat d' =>
            have e'' : (if flat d' = true then some d' else none) = some d := e'
            split at e''
            · next f => cases e''; exact f
            · cases e''
          | _ => cases e'
      refine ⟨H, rs, (fl S).set i none, x, rm, e1, fun σ2 H2 r2 => ?_⟩
      refine ⟨_, _, d, r2.rd, e2, fun v H3 s3 rv => ?_⟩
      exact q v σ2 H3 ⟨_, un_RO ((r.same.trans r2.same).trans s3) r2.len⟩ (rv.flat _ _ fd))⟩
end Ice

/-! y = [f(..) for x in xs], where f may raise -/
namespace Ice
open PySem PySem.Spec PyProof.Rows L2
section
variable {X : Cx} {W : WX} {σ : L2.St} {pins : List (Addr × Obj)}
/-- the ground without the record C -/
theorem fly_less {B h : Heap} {l : List Env} {a C : Addr} {Z : Obj → Prop} (f : HandSPX.FlyingZ B l a Z h) : HandSPX.FlyingZ (PySem.W.hideAll B [C]) l a Z h := by
  obtain ⟨k1, k2, k3, oe, vs, T, oT, ts, he, hz, hd, h1, hnT, r⟩ := f
  have no : ∀ b, B.get? b = none → (PySem.W.hideAll B [C]).get? b = none := fun b e => by
    cases q : (PySem.W.hideAll B [C]).get? b with
    | none => rfl
    | some o =>
      have := PySem.W.of_hideAll _ q
      rw [e] at this
      cases this
  refine ⟨fun b o e => k1 b o (PySem.W.of_hideAll _ e), no a k2, funFrames_none k3 fun L hL => no L ?_, oe, vs, T, oT, ts, he, hz, hd, h1, no T hnT, r⟩
  obtain ⟨n, _⟩ := k3.mem hL
  exact n
/-- what the block's call let out, behind the block -/
theorem comp_out {H3 H5 : Hp} {s3 s5 s' : Shared} {scope : Scope} {cl : List (Str × Addr)} {fp : List Addr} {pb : List (Addr × Obj)} {σ8 : L2.St} {xe : Value → Shared → Prop} {e : Value}
    (I3 : Inv X pins σ H3 s3) (tk : Takes X W) (hst : X.stack = X.env :: X.outer) (hf : X.env.frame = some X.env.locals) (f3 : ∀ b ∈ fp, FpOk X pins H3 b ∧ b < s3.heap.objs.size)
    (J : Inv ((X.blk s3 H3 scope (compEnvC scope cl s3.heap.objs.size X.env) fp).wish xe) pb σ8 H5 s5) (c : CX X.prog X.w X.stack H5 s5 (WE W σ) e s') :
    notedBy (model X.prog X.w) X.A (compEnvC scope cl s3.heap.objs.size X.env) (CompFails (model X.prog X.w) X.A X.xe (compEnvC scope cl s3.heap.objs.size X.env)) e s' := by
  obtain ⟨a, B0, H', cls, d, rfl, fl, c'⟩ := id c
  obtain ⟨a', B, sI, pI, σI, HI, clsI, dI, ea, II, nb, up, sky, naI, osI, agI, w⟩ := XE.of_call (W := fun cls d _ H => W cls d σ H) J (fun _ _ _ h => h) c
  cases ea
  clear c' c
  have fl1 : HandSPX.FlyingZ B X.stack a (Zc clsI dI) s'.heap := by
    obtain ⟨_, _, _, oe, vs, T, oT, ts, he, hz, hd, h1, hnT, hTe, hT, hdT, h3⟩ := fl
    rcases sky with ⟨_, _, _, oe2, vs2, he2, _, hd2, h12⟩ | sky | ⟨_, _, _, oe2, vs2, T2, oT2, ts2, he2, _, hd2, h12, _, _, hT2, hdT2, h32⟩
    · rw [he] at he2
      cases he2
      rw [hd] at hd2
      cases hd2
      rw [h1] at h12
      cases h12
    · exact sky
    · rw [he] at he2
      cases he2
      rw [hd] at hd2
      cases hd2
      rw [h1] at h12
      cases h12
      rw [hT] at hT2
      cases hT2
      rw [hdT] at hdT2
      cases hdT2
      rw [h3] at h32
      cases h32
  generalize hC : s3.heap.objs.size = C at *
  have fl2 := fly_less (C := C) fl1
  obtain ⟨m, hn, _⟩ := II.loc
  have hn : sI.heap.Ns C m := hn
  have nC : HI C = none := II.free
  have I7 : Inv X pins σ HI sI := I3.call' (ch := fp) II.os II.base II.hok II.bare fun b hb => ⟨(f3 b hb).1.2.2.2.1, (f3 b hb).1.2.1, (f3 b hb).1.2.2.2.2.1, (f3 b hb).1.2.2.2.2.2⟩
  obtain ⟨g0, g1, g2, g3, g4, g5⟩ := I3.fpOk (H' := HI) (b := C) (Nat.le_of_eq hC) nC
  have inG : ∀ b o, (PySem.W.hideAll sI.heap [C]).get? b = some o → sI.heap.get? b = some o ∧ b ≠ C := fun b o e => ⟨PySem.W.of_hideAll _ e, fun z => by
    rw [z, PySem.W.hideAll_none [C] (List.mem_singleton.mpr rfl)] at e
    cases e⟩
  have I8 : Inv X pins σ HI { sI with heap := PySem.W.hideAll sI.heap [C] } := I7.turned (t' := sI.toks) (it := C) (fun b o hb e => PySem.W.hideAll_get [C] e fun z => hb (List.mem_singleton.mp z)) g0 g1 g3 g4 g5
  have hfr : X.A.frames = some (X.env :: X.outer) := by rw [I3.ok.frames, hst]
  rw [hst] at fl2
  show wpAny _ _ (noteFrame (.ref a) (compEnvC scope cl C X.env)) _ _ s'
  rw [noteFrame_env (cenv := compEnvC scope cl C X.env) (env := X.env) (.ref a) rfl]
  refine HandSPX.looks_onZ Zc.steady hfr hf fl2 fun h1 hh up1 => ?_
  refine ⟨m, (hn.upToSlots up).upToSlots up1, fun h2 m2 hn2 hs2 => ?_⟩
  have hn2 : h2.Ns C m2 := hn2
  have hs2 : Heap.SameBut C h1 h2 := hs2
  obtain ⟨b1, b0, f1, oe, vs, T, oT, ts, he, hz, hd, hv, hnT, hTe, hT, hdT, h3⟩ := hh
  have hid : (PySem.W.hideAll B [C]).get? C = none := PySem.W.hideAll_none [C] (List.mem_singleton.mpr rfl)
  have b2 : (PySem.W.hideAll B [C]).StaysIn h2 := fun b o hb => (hs2.2 b fun q => by rw [q, hid] at hb; cases hb).trans (b1 b o hb)
  have f2 : h2.FunFrames (PySem.W.hideAll B [C]) (X.env :: X.outer) := Heap.FunFrames.sameBut hs2 hn2 f1
  -- the exception's own records are not the block's
  obtain ⟨oC, es, ep, hoC, hdC, _⟩ := (hn.upToSlots up).upToSlots up1
  have notC : ∀ b o vs, h1.get? b = some o → o.data = .fields vs → b ≠ C := fun b o vs e dd z => by
    rw [z] at e
    have e' : h1.get? C = some oC := hoC
    rw [e] at e'
    cases e'
    rw [dd] at hdC
    cases hdC
  have he2 : h2.get? a = some oe := (hs2.2 a (notC a oe vs he hd)).trans he
  have hT2 : h2.get? T = some oT := (hs2.2 T (notC T oT ts hT hdT)).trans hT
  unfold PySem.passOn
  refine wpAny_bind (wpAny_field he2 hd hv ?_)
  rw [if_neg (show ¬ ((Value.ref T == Value.none) = true) from by simp)]
  have hcf : (compEnvC scope cl C X.env).frame = some X.env.locals := hf
  have goOn : wpAny (model X.prog X.w) X.A (setFlight (.ref a) (compEnvC scope cl C X.env).frame) (fun _ s7 => wpAny (model X.prog X.w) X.A (throw (.ref a) : Sem Value) (fun _ _ => False) X.xe s7) X.xe { s' with heap := h2 } := by
    rw [hcf]
    refine HandSPX.setFlight_onZ (base := PySem.W.hideAll B [C]) (l := X.env :: X.outer) (Z := Zc clsI dI) (L := X.env.locals) ⟨b2, b0, f2, oe, vs, T, oT, ts, he2, hz, hd, hv, hnT, hTe, hT2, hdT, h3⟩ fun h3 hh3 up3 => wpAny_throw (tk _ _ ?_)
    refine ⟨a, PySem.W.hideAll B [C], { sI with heap := PySem.W.hideAll sI.heap [C] }, pins, σ, HI, clsI, dI, rfl, I8, fun b o e hb => ?_, ?_, .inr (.inr (by rw [hst]; exact hh3)), naI, osI, agI, w⟩
    · obtain ⟨e1, ne⟩ := inG b o e
      exact PySem.W.hideAll_get [C] (nb b o e1 hb) fun z => ne (List.mem_singleton.mp z)
    · intro b o e nf
      obtain ⟨e1, ne⟩ := inG b o e
      obtain ⟨sl1, e2⟩ := (up.trans up1) b o e1 nf
      have e3 : h2.get? b = some { o with slots := sl1 } := (hs2.2 b ne).trans e2
      obtain ⟨sl2, e4⟩ := up3 b _ e3 nf
      exact ⟨sl2, e4⟩
  first
    | exact wpAny_bind goOn
    | exact wpAny_bind (wpAny_pure (wpAny_bind goOn))
/-- the block, a call in its element may raise -/
theorem lcx_core {s : Shared} {H : Hp} {Q : VK} {elt tg iter : Expr} {scope : Scope} {own : List (Str × Nat)} {pos pos' : Pos} {wi : TI} {g : TG} {te : XK → TE} {use : Option (Value → Sem Unit)} {Qf : Value → Shared → Prop}
    (hc : X.calm = true) (tk : Takes X W) (hst : X.stack = X.env :: X.outer) (hf : X.env.frame = some X.env.locals) (hN : X.N.Nodup) (I : Inv X pins σ H s) (hi : PI X tg iter wi) (ok : BlkOk X.N X.env.scope scope own)
    (hg : ∀ (s : Shared) (H : Hp) (C : Addr) (cl : List (Str × Addr)) (fp : List Addr), PG (X.blk s H scope (compEnvC scope cl C X.env) fp) tg g)
    (he : ∀ (s : Shared) (H : Hp) (C : Addr) (cl : List (Str × Addr)) (fp : List Addr) (xe : Value → Shared → Prop) (E : XK), (∀ τ, PassesAt (L2.CX X.prog X.w) ((X.blk s H scope (compEnvC scope cl C X.env) fp).wish xe) τ E) → PE ((X.blk s H scope (compEnvC scope cl C X.env) fp).wish xe) elt (te E))
    (hs : ∀ x, foldedSetIterable iter X.env x = pure x) (h : tLc wi g tYes (te (WE W σ)) (own.map (·.2)) σ H Q)
    (hRR : ∀ D s' m H' (ce : Env), ce.locals ∉ frs X.stack → Inv X pins σ H' s' → Q (.ref D) H' → s'.heap.Ns ce.locals m → FpOk X pins H' ce.locals → compEnds (model X.prog X.w) X.A X.xe use Qf (.ref D) ce (.ok .next) s') :
    wpAny (model X.prog X.w) X.A (comprehension (.ListComp elt [⟨tg, iter, [], 0⟩] scope pos) scope X.env pos' (newList []) false (eval iter X.env) use) Qf X.xe s := by
  have cellsOk : ∀ y ∈ scope.names, y.2 = .free → ∃ c, X.env.cells.lookup y.1 = some c := fun y hy e => by
    cases ok.free y hy e with
    | inl k => exact I.ok.has _ (.inl k)
    | inr k => exact I.ok.has _ (.inr k)
  refine comprehension_at (use := use) rfl hs (closure_ok cellsOk) ok.kind (fun y hy e => by rw [ok.uniq y hy, e]) ?_
  refine thn (hi.run pins s σ H _ I h) fun xv s1 hx => thn hx fun itv s2 h2 => ?_
  obtain ⟨it, fp, tn, J, H2, ei, I2, T, st2, f2, q⟩ := h2
  subst ei
  refine wpAny_newObj_type (newEnv_comp ?_) (by show 0 ≤ sizeLine; decide)
  obtain ⟨D, hD⟩ : ∃ D, s2.heap.objs.size = D := ⟨_, rfl⟩
  rw [hD]
  have freeD : H2 D = none := I2.hok.fresh (Nat.le_of_eq hD)
  obtain ⟨Wm, ⟨m0, w0⟩, turn⟩ := q D freeD
  obtain ⟨s3, hs3⟩ : ∃ s3 : Shared, ({ s2 with heap := s2.heap.push { cls := .type "list", data := .seq ([] : List Value).toArray } } : Shared) = s3 := ⟨_, rfl⟩
  have hp3 : s3.heap = s2.heap.push { cls := .type "list", data := .seq ([] : List Value).toArray } := by rw [← hs3]
  have atD : s3.heap.get? D = some { cls := .type "list", data := .seq ([] : List Value).toArray } := by
    rw [hp3, ← hD]
    exact Heap.get?_push_size _ rfl
  have I3 : Inv X pins σ (upd H2 D (.lst [])) s3 := by
    subst hs3
    exact I2.laid (t' := s2.toks) (fun b o e => Heap.get?_push_of_some _ e) (Nat.le_of_eq hD) ⟨Nat.zero_le _, [], 0, .nil, atD⟩
  have f3 : ∀ b ∈ fp, FpOk X pins (upd H2 D (.lst [])) b ∧ b < s3.heap.objs.size := fun b hb => by
    obtain ⟨o, e, _⟩ := T.obj _ _ st2 b hb
    have lt := Heap.lt_size e
    have nb : b ≠ D := by
      rw [← hD]
      exact Nat.ne_of_lt lt
    refine ⟨⟨(upd_ne nb).trans (f2 b hb).1, (f2 b hb).2⟩, ?_⟩
    rw [hp3, Heap.size_push]
    exact Nat.lt_succ_of_lt lt
  have st3 : tn 0 s3.heap := T.keep _ _ _ st2 fun b _ o e => by
    rw [hp3]
    exact Heap.get?_push_of_some _ e
  rw [hs3]
  have I4 := block_start I3 ok hN f3
  obtain ⟨C, hC⟩ : ∃ C, s3.heap.objs.size = C := ⟨_, rfl⟩
  obtain ⟨cl, hcl⟩ : ∃ cl, cellsFrom (s3.heap.objs.size + 1) scope.names (cloFrom X.env.cells scope.names []) = cl := ⟨_, rfl⟩
  have pg := hg s3 (upd H2 D (.lst [])) s3.heap.objs.size cl fp
  have pe := he s3 (upd H2 D (.lst [])) s3.heap.objs.size cl fp
  have cout := fun {H5 : Hp} {s5 s' : Shared} {pb : List (Addr × Obj)} {σ8 : L2.St} {xe : Value → Shared → Prop} {e : Value} => comp_out (W := W) (H5 := H5) (s5 := s5) (s' := s') (scope := scope) (cl := cl) (pb := pb) (σ8 := σ8) (xe := xe) (e := e) I3 tk hst hf f3
  have nC : s3.heap.objs.size ∉ frs X.stack := fun z => by
    obtain ⟨_, o, e, _⟩ := I3.stack.mem z
    exact absurd (Heap.lt_size e) (Nat.lt_irrefl _)
  show codeAny _ _ (.compStart (.ListComp elt [⟨tg, iter, [], 0⟩] scope pos) 0 (.ref it) (.ref D) (compEnvC scope (cellsFrom (s3.heap.objs.size + 1) scope.names (cloFrom X.env.cells scope.names [])) s3.heap.objs.size X.env)) (compEnds (model X.prog X.w) X.A X.xe use Qf (.ref D) (compEnvC scope (cellsFrom (s3.heap.objs.size + 1) scope.names (cloFrom X.env.cells scope.names [])) s3.heap.objs.size X.env)) { s3 with heap := pushCells (s3.heap.push { cls := .type "dict", data := .dict #[] }) scope.names }
  have nfp : ∀ b ∈ fp, (upd H2 D (.lst [])) b = none := fun b hb => (f3 b hb).1.1
  rw [hcl] at I4 ⊢
  obtain ⟨ce, hce⟩ : ∃ ce, compEnvC scope cl s3.heap.objs.size X.env = ce := ⟨_, rfl⟩
  have cL : ce.locals = s3.heap.objs.size := by subst hce; rfl
  rw [hce] at I4 pg cout ⊢
  have pe : ∀ (xe : Value → Shared → Prop) (E : XK), (∀ τ, PassesAt (L2.CX X.prog X.w) ((X.blk s3 (upd H2 D (.lst [])) scope ce fp).wish xe) τ E) → PE ((X.blk s3 (upd H2 D (.lst [])) scope ce fp).wish xe) elt (te E) := by
    rw [← hce]
    exact pe
  generalize upd H2 D (.lst []) = H3 at I3 I4 pg pe w0 nfp f3 cout
  generalize hs4 : ({ s3 with heap := pushCells (s3.heap.push { cls := .type "dict", data := .dict #[] }) scope.names } : Shared) = s4 at I4 ⊢
  have st4 : tn 0 s4.heap := T.keep _ _ _ st3 fun b _ o e => by
    rw [← hs4]
    exact pushCells_keeps _ _ _ _ (Heap.get?_push_of_some _ e)
  have stat : ∀ {τ : L2.St} {K' : Hp} {t' : Shared}, Inv (X.blk s3 H3 scope ce fp) [] τ K' t' → (∀ b ∈ fp, K' b = none) → ∀ b ∈ fp, FpOk (X.blk s3 H3 scope ce fp) [] K' b := fun {τ K' t'} Z hn b hb => by
    refine ⟨hn b hb, (Z.ok.exf b hb).1, Z.ok.exfs b hb, .inl hb, fun x c e => (Z.ok.exf b hb).2 x c e, fun p hp => ?_⟩
    have : p ∈ ([] : List (Addr × Obj)) ++ [] := hp
    exact absurd this (by simp)
  have loop : codeAny (model X.prog X.w) X.A (.compLoop (.ListComp elt [⟨tg, iter, [], 0⟩] scope pos) 0 (.ref it) (.ref D) ce) (compEnds (model X.prog X.w) X.A X.xe use Qf (.ref D) ce) s4 := by
    refine compLoop_any (fun n t => ∃ i K', Inv (X.blk s3 H3 scope ce fp) [] (wipe σ (own.map (·.2))) K' t ∧ tn i t.heap ∧ (∀ b ∈ fp, K' b = none) ∧ Wm i n K') ?_ m0 ⟨0, H3, I4, st4, nfp, w0⟩
    rintro n s5 ⟨i, H5, I5, st5, n5, w5⟩
    rcases turn i n H5 w5 with ⟨stop, qq⟩ | ⟨go, Nx, hNx, step⟩
    · refine thnF (T.done (X.blk s3 H3 scope ce fp) rfl rfl rfl hc i [] s5 _ H5 (fun _ _ => False) I5 (stat I5 n5) st5 stop) fun r s6 ⟨hr, I6⟩ => ?_
      subst hr
      have I7 : Inv X pins σ H5 s6 := I3.call' (ch := fp) I6.os I6.base I6.hok I6.bare fun b hb => by
        obtain ⟨⟨_, a1, _, a3, a4, a5⟩, _⟩ := f3 b hb
        exact ⟨a3, a1, a4, a5⟩
      have z : H5 ce.locals = none := I6.free
      obtain ⟨m, hn, _⟩ := I6.loc
      exact hRR D s6 m H5 ce (by rw [cL]; exact nC) I7 qq hn (I3.fpOk (by rw [cL]; exact Nat.le_refl _) z)
    · refine thnF (T.item (X.blk s3 H3 scope ce fp) rfl rfl rfl hc i [] s5 _ H5 (fun _ _ => False) I5 (stat I5 n5) st5 go) fun r s6 ⟨u, hr, h6⟩ => ?_
      subst hr
      refine thnF h6 fun _ s7 ⟨x, H7, I7, r7, y7, st7, n7⟩ => ?_
      have P7 := I7.pinned (stat I7 n7) (T.obj _ _ st7)
      refine thnF (pg.run _ s7 _ H7 x u _ P7 r7 (step x H7 y7)) fun _ s8 ⟨σ8, H8, I8, hw8, q8⟩ => ?_
      refine wpAny_tests_nil ?_
      have fin : ∀ {t : Shared} {K' : Hp}, Inv (X.blk s3 H3 scope ce fp) ([] ++ pinsAt fp s7.heap) σ8 K' t → Nx K' → ∃ m, m < n ∧ ∃ i K', Inv (X.blk s3 H3 scope ce fp) [] (wipe σ (own.map (·.2))) K' t ∧ tn i t.heap ∧ (∀ b ∈ fp, K' b = none) ∧ Wm i m K' := fun {t K'} Z nx => by
        obtain ⟨m', hm, w'⟩ := hNx K' nx
        have pinned : ∀ b ∈ fp, ∀ o, s7.heap.get? b = some o → t.heap.get? b = some o ∧ K' b = none := fun b hb o e => by
          have z := Z.pin (b, o) (List.mem_append_right _ (List.mem_append_right _ (mem_pinsAt hb e)))
          exact ⟨z.1, z.2.1⟩
        refine ⟨m', hm, i + 1, K', (Z.unpinned (pins := [])).weak (by rw [← hw8, wipe_length]) (fun j v e => ?_), T.keep _ _ _ st7 fun b hb o e => (pinned b hb o e).1, fun b hb => ?_, w'⟩
        · rw [← hw8] at e
          exact (wipe_some e).1
        · obtain ⟨o, e, _⟩ := T.obj _ _ st7 b hb
          exact (pinned b hb o e).2
      have q8 : te (WE W σ) σ8 H8 fun y H4 => ∃ acc, H4 D = some (.lst acc) ∧ acc.length < sizeLine ∧ Nx (upd H4 D (.lst (acc ++ [y]))) := q8
      refine wpAny_mono ((pe (notedBy (model X.prog X.w) X.A ce fun e t => compEnds (model X.prog X.w) X.A X.xe use Qf (.ref D) ce (.error e) t) (WE W σ) fun τ pb K' t e t' Z c => ?_).run _ s8 σ8 H8 _ (I8.wish _) q8) (fun z s10 hz => ?_) fun e t hx => hx
      · have r := cout Z c
        unfold notedBy at r ⊢
        exact wpAny_mono r (fun _ _ k => by cases use <;> exact k) fun _ _ k => by cases use <;> exact k
      · obtain ⟨yv, H10, I10, r10, acc, hD10, hz10, nx⟩ := hz
        exact app_ok (X := X.blk s3 H3 scope ce fp) I10.unwish hD10 hz10 r10 fun s11 I11 => fin I11 nx
  exact codeAny_compStart_list loop (T.self X.A 0 _ _ _ st4 loop)
/-- y = [f(..) for target in iter], y a local name on the same line -/
theorem ps_setLcX {i : Nat} {y : Str} {py : Pos} {elt tg iter : Expr} {scope : Scope} {own : List (Str × Nat)} {pos spos : Pos} {wi : TI} {g : TG} {te : XK → TE} (hc : X.calm = true) (tk : Takes X W) (hst : X.stack = X.env :: X.outer) (hf : X.env.frame = some X.env.locals) (hN : X.N.Nodup)
    (hy : X.N[i]? = some y) (hyl : X.env.scope.names.lookup y = some .local) (hsw : swapsWith (.ListComp elt [⟨tg, iter, [], 0⟩] scope pos) (some (.Name y py)) spos.line X.env = pure true) (hi : PI X tg iter wi) (ok : BlkOk X.N X.env.scope scope own)
    (hg : ∀ (s : Shared) (H : Hp) (C : Addr) (cl : List (Str × Addr)) (fp : List Addr), PG (X.blk s H scope (compEnvC scope cl C X.env) fp) tg g)
    (he : ∀ (s : Shared) (H : Hp) (C : Addr) (cl : List (Str × Addr)) (fp : List Addr) (xe : Value → Shared → Prop) (E : XK), (∀ τ, PassesAt (L2.CX X.prog X.w) ((X.blk s H scope (compEnvC scope cl C X.env) fp).wish xe) τ E) → PE ((X.blk s H scope (compEnvC scope cl C X.env) fp).wish xe) elt (te E))
    (hs : ∀ x, foldedSetIterable iter X.env x = pure x) :
    PS X (.Assign [.Name y py] (.ListComp elt [⟨tg, iter, [], 0⟩] scope pos) spos) (fun D σ H => tLc wi g tYes (te (WE W σ)) (own.map (·.2)) σ H fun x H1 => gName i x σ H1 D.nx) := by
  refine ⟨fun pins s σ H D I h => ?_⟩
  rw [exec_Assign_Name_used _ _ _ _ hsw]
  refine wpAny_bind (wpAny_standAt (wpAny_bind ?_))
  show wpAny _ X.A (do let _ ← comprehension (.ListComp elt [⟨tg, iter, [], 0⟩] scope pos) scope X.env (firstIterPos [⟨tg, iter, [], 0⟩] pos) (newList []) false (eval iter X.env) (some (assign (.Name y py) X.env))) _ _ s
  refine wpAny_bind (thn (lcx_core (Qf := fun _ s' => SP X pins D .next s') hc tk hst hf hN I hi ok hg he hs h fun L s' m H' ce nC I' q hn f => ?_) fun _ s' hq => wpAny_pure (wpAny_pure hq))
  show wpAny _ _ (assign (.Name y py) X.env (.ref L)) _ _ _
  refine wpAny_assign_Name (store_ok2 (v := V.ref L) I' hN hy (.inl hyl) rfl (fun s2 I2 ⟨a, sb, ha⟩ => ?_) (.inr hyl))
  obtain ⟨k0, k1, k2, k3, k4, k5⟩ := f
  have ne : ce.locals ≠ a := by
    cases ha with
    | inl z => rw [z]; exact k1
    | inr z => exact fun e => k4 y a z e.symm
  refine ⟨m, hn.sameBut sb ne, fun h3 sb3 => ⟨_, H', ?_, q⟩⟩
  exact I2.turned (t' := s2.toks) (fun b o hb e => (sb3.2 b hb).trans e) k0 k1 k3 k4 k5
end
/-! ### over data -/
def compE (vs : List Nat) (t : Tg) (g : List D → Option Re) (ma : Ma) (S : Sd) : List D → Option (Sum Str (List D))
  | [] => some (.inr [])
  | d :: r => (asg t d (wipeD S vs)).bind fun S1 => (ma S1).bind fun ds => (g ds).bind fun x => match x with
    | .exc c => some (.inl c)
    | .val y => (compE vs t g ma S r).map fun z => match z with
      | .inl c => .inl c
      | .inr ys => .inr (y :: ys)
/-- what the walk of the rest ends in, the list so far ahead of it -/
def catE (acc : List D) : Sum Str (List D) → Sum Str (List D)
  | .inl c => .inl c
  | .inr ys => .inr (acc ++ ys)
theorem t_lcE {K : PySem.W.Frag} {mi : Ma} {vs : List Nat} {t : Tg} {n : Nat} {g : List D → Option Re} {ma : Ma} {σ : L2.St} {H : Hp} {Q : VK} {W : WX} {ok : Addr → Prop} {S : Sd} {ds : List D} {r : Sum Str (List D)} (hv : ∀ i ∈ sl t, i ∈ vs ∧ i < σ.length)
    (rs : Rs K H ok S σ) (h1 : mi S = some ds) (hlen : ds.length ≤ 1000000) (h2 : compE vs t (guardE n g) ma S ds = some r)
    (q : match r with | .inr zs => ∀ v H', Same H H' → Rep K H' (ex ok H) v (.lst zs) → Q v H' | .inl c => c ∈ exNs → ∀ H', Same H H' → W (.ref (He.ga K c)) none σ H') :
    tLc (tI K mi) (tG K t) tYes (tCE K n g (fun cls d _ H => W cls d σ H) ma) vs σ H Q := by
  refine ⟨ok, S, ds, rs, h1, fun J H1 s1 wk D hD => ?_⟩
  have hD0 : H D = none := s1.free hD
  let okD : Addr → Prop := fun a => ex ok H a ∧ a ≠ D
  let okc : Addr → Prop := fun a => ex ok H a ∧ H1 a ≠ none
  have okcD : ∀ a, okc a → okD a := fun a h => ⟨h.1, fun z => h.2 (by rw [z]; exact hD)⟩
  refine ⟨fun i m H' => m = ds.length - i ∧ i ≤ ds.length ∧ Same H1 H' ∧ ∃ acc accd rest, H' D = some (.lst acc) ∧ acc.length ≤ i ∧ Reps K H' okD acc accd ∧ compE vs t (guardE n g) ma S (ds.drop i) = some rest ∧ catE accd rest = r,
    ⟨ds.length, rfl, Nat.zero_le _, same_new hD, [], [], r, upd_same, Nat.le_refl _, .nil, h2, by cases r <;> rfl⟩, ?_⟩
  rintro i m H' ⟨rfl, hi, s2, acc, accd, rest, hacc, hal, racc, hrest, hcat⟩
  have wk' := wk H1 (fun a o e _ => e) i H' s2
  by_cases hlt : i < ds.length
  · have hg : ds[i]? = some ds[i] := List.getElem?_eq_getElem hlt
    have hdrop : ds.drop i = ds[i] :: ds.drop (i + 1) := List.drop_eq_getElem_cons hlt
    obtain ⟨go, yl⟩ := wk'.1 _ hg
    rw [hdrop] at hrest
    obtain ⟨S1, ha, hrest⟩ := bind_some (show (asg t ds[i] (wipeD S vs)).bind _ = some rest from hrest)
    obtain ⟨es, hes, hrest⟩ := bind_some hrest
    obtain ⟨x, hx, hrest⟩ := bind_some hrest
    obtain ⟨hn, hx⟩ := guardE_ok hx
    let Nx : Hp → Prop := fun H'' => i + 1 ≤ ds.length ∧ Same H1 H'' ∧ ∃ acc accd rest, H'' D = some (.lst acc) ∧ acc.length ≤ i + 1 ∧ Reps K H'' okD acc accd ∧ compE vs t (guardE n g) ma S (ds.drop (i + 1)) = some rest ∧ catE accd rest = r
    refine .inr ⟨go, Nx, fun H'' nx => ⟨ds.length - (i + 1), by omega, rfl, nx⟩, fun xv H3 y => ?_⟩
    obtain ⟨s3, rx⟩ := yl xv H3 y
    have s13 := s2.trans s3
    have rs3 : Rs K H3 okc (wipeD S vs) (wipe σ vs) := ((Rs.wipe (fun i d e => by
      obtain ⟨v, e1, e2⟩ := rs i d e
      exact ⟨v, e1, Rep.dom d v e2⟩ : Rs K H (fun a => ok a ∧ H a ≠ none) S σ) vs)).keeps (Same.keeps (s1.trans s13)) fun a h => ⟨.inl h.1, fun z => h.2 (s1.free z)⟩
    refine ⟨okc, wipeD S vs, ds[i], S1, fun j hj => by rw [wipe_length]; exact (hv j hj).2, rs3, rx, ha, fun σ2 b2 rs2 => ⟨?_, ?_⟩⟩
    · have hw : wipe (wipe σ vs) vs = wipe σ vs := wipe_but ⟨wipe_length σ vs, fun j hj => by rw [wipe_get, if_neg hj]⟩
      rw [wipe_but (b2.mono fun j hj => (hv j hj).1), hw]
    show tCE K n g (fun cls d _ H => W cls d σ H) ma σ2 H3 _
    have hacc3 : H3 D = some (.lst acc) := s3 _ _ hacc
    have racc3 : Reps K H3 okD acc accd := racc.keeps (Same.keeps s3) fun _ z => z
    refine t_cE rs2 hes hn hx ?_
    cases x with
    | exc c =>
      cases hrest
      have er : Sum.inl c = r := hcat
      subst er
      exact fun hc H5 s5 => q hc H5 ((s1.trans s13).trans s5)
    | val yd =>
      obtain ⟨rest2, hr2, er⟩ := map_some hrest
      intro yv H5 s5 ry
      have hacc5 : H5 D = some (.lst acc) := s5 _ _ hacc3
      refine ⟨acc, hacc5, Nat.lt_of_le_of_lt hal (Nat.lt_of_lt_of_le hlt (Nat.le_trans hlen (by decide))), hlt, ?_, acc ++ [yv], accd ++ [yd], rest2, upd_same, ?_, ?_, hr2, ?_⟩
      · intro a o e
        have ne : a ≠ D := ne_of_none e hD
        rw [upd_ne ne]
        exact s5 _ _ (s13 _ _ e)
      · rw [List.length_append]
        exact Nat.succ_le_succ hal
      · have kp : Keeps okD H5 (upd H5 D (.lst (acc ++ [yv]))) := fun a o e g => by
          have ne : a ≠ D := fun z => by
            rw [z] at e g
            rw [hacc5] at e
            cases e
            exact g.elim (fun g => g.2 rfl) fun g => g
          rw [upd_ne ne]
          exact e
        refine Reps.append ((racc3.keeps (Same.keeps s5) fun _ z => z).keeps kp fun _ z => z) (.cons ((ry.keeps (Same.keeps (Same.refl _)) fun a h => ?_).keeps kp fun _ z => z) .nil)
        rcases h with h | h
        · exact okcD a h
        · refine ⟨.inr ?_, fun z => ?_⟩
          · exact s1.free (s13.free h)
          · rw [z, hacc3] at h
            cases h
      · rw [← hcat, ← er]
        cases rest2 with
        | inl c => rfl
        | inr ys =>
          show Sum.inr (accd ++ [yd] ++ ys) = Sum.inr (accd ++ (yd :: ys))
          rw [List.append_assoc]
          rfl
  · have e : i = ds.length := by omega
    subst e
    rw [List.drop_length] at hrest
    cases hrest
    have er : Sum.inr (accd ++ []) = r := hcat
    rw [List.append_nil] at er
    subst er
    exact .inl ⟨wk'.2 (List.getElem?_eq_none_iff.mpr (Nat.le_refl _)), q _ H' (s1.trans s2) (.lst (.inr hD0) hacc (racc.keeps (Same.keeps (Same.refl _)) fun a h => h.1))⟩
/-- a call in the block -/
theorem pe_cEx {X : Cx} {k j n : Nat} {x : Str} {g : List D → Option Re} {p pos : Pos} {e : Expr} {es : List Expr} {mr : Ma} (c : CalE X.prog X.w X.K X.mg X.base k x (spE X.K n g)) (E : XK) (hx : ∀ τ, PassesAt (L2.CX X.prog X.w) X τ E) (hr : Room j X.A) (hk : k ≤ j) (hg : Gl X x) (ha : Ea X (e :: es) mr) (hdb : (x == ("__debug__" : Str)) = false := by decide)
    (he : starEach (e :: es) X.env = (false, eval e X.env) :: starEach es X.env := by rfl) (hpl : (backTo pos (starEach es X.env)).any (·.1) = false := by rfl) : PE X (.Call (.Name x p) (e :: es) [] pos) (tCE X.K n g (fun cls d _ H => E cls d H) mr) := by
  obtain ⟨f, fd, ps, F, hm, kp, b⟩ := c.ex
  exact pe_callS F (hr.mono hk) hg hm kp b hx ha hdb he hpl
def eSetLc (i : Nat) (mi : Ma) (vs : List Nat) (t : Tg) (g : List D → Option Re) (ma : Ma) : Me := fun S => (mi (cl S)).bind fun ds => if ds.length ≤ 1000000 then (compE vs t g ma (cl S) ds).map fun r => match r with
    | .inl c => .rx c S
    | .inr ys => .o (.nx (S.set i (.dat (.lst ys))))
  else none
theorem ee_setLc {X : Cx} {W : WX} {elt tg iter : Expr} {scope : Scope} {pos spos py : Pos} {mi : Ma} {t : Tg} {n : Nat} {g : List D → Option Re} {ma : Ma} {y : Str} (i : Nat) (own : List (Str × Nat)) (hN : X.N.Nodup) (tk : Takes X W) (hi : Ei X tg iter mi) (ok : BlkOk X.N X.env.scope scope own)
    (hg : ∀ (s : Shared) (H : Hp) (C : Addr) (cl : List (Str × Addr)) (fp : List Addr), Eg (X.blk s H scope (compEnvC scope cl C X.env) fp) tg t)
    (he : ∀ (s : Shared) (H : Hp) (C : Addr) (cl : List (Str × Addr)) (fp : List Addr) (xe : Value → Shared → Prop) (E : XK), (∀ τ, PassesAt (L2.CX X.prog X.w) ((X.blk s H scope (compEnvC scope cl C X.env) fp).wish xe) τ E) → PE ((X.blk s H scope (compEnvC scope cl C X.env) fp).wish xe) elt (tCE X.K n g (fun cls d _ H => E cls d H) ma))
    (hst : X.stack = X.env :: X.outer := by rfl) (hf : X.env.frame = some X.env.locals := by rfl) (hs : ∀ x, foldedSetIterable iter X.env x = pure x := by intro _; rfl)
    (hy : X.N[i]? = some y := by rfl) (hyl : X.env.scope.names.lookup y = some .local := by rfl) (hsw : swapsWith (.ListComp elt [⟨tg, iter, [], 0⟩] scope pos) (some (.Name y py)) spos.line X.env = pure true := by exact sw_true rfl rfl rfl rfl)
    (hv : ∀ i ∈ sl t, i ∈ own.map (·.2) := by decide) (hc : X.calm = true := by rfl) : EsE X W (.Assign [.Name y py] (.ListComp elt [⟨tg, iter, [], 0⟩] scope pos) spos) (eSetLc i mi (own.map (·.2)) t (guardE n g) ma) :=
  ⟨fun pins s σ H E I h => (ps_setLcX (te := fun E => tCE X.K n g (fun cls d _ H => E cls d H) ma) hc tk hst hf hN hy hyl hsw hi ok hg he hs).run pins s σ H E I (by
    obtain ⟨p0, H0, ok0, S, o, ⟨O, r⟩, m, q⟩ := h
    obtain ⟨ds, e1, m⟩ := bind_some m
    split at m
    case isFalse => cases m
    case isTrue hl =>
    obtain ⟨x, e2, m⟩ := map_some m
    subst m
    refine t_lcE (Q := fun x H1 => gName i x σ H1 E.nx) (fun i h => ⟨hv i h, lt_of_own ok I.len (hv i h)⟩) r.closed e1 hl e2 ?_
    cases x with
    | inl c => exact fun hc H' s' => q hc σ H' ⟨O, r.grow s'⟩
    | inr ys => exact fun v H' s' rv => q _ H' ⟨O, (r.grow s').put (rv.keeps (Same.keeps (Same.refl _)) fun a h => good_new r h)⟩)⟩
end Ice

/-! evaluation of mirrors: words about data -/
namespace Ice
open PySem PySem.Spec PyProof.Rows L2

/-! ### equality -/
theorem sh_int (i : Int) : SeqAt.shaped (py (.int i)) = true := rfl
theorem sh_nil : SeqAt.shaped (py (.lst [])) = true := rfl
@[simp] theorem eqD_int (i j : Int) : eqD (.int i) (.int j) = some (.bl (i == j)) := rfl
@[simp] theorem neD_int (i j : Int) : neD (.int i) (.int j) = some (.bl (!(i == j))) := rfl
/- data of numbers, by depth -/
mutual
def numd : Nat → D → Bool
  | _, .int _ => true
  | n + 1, .tup ds => numds n ds
  | n + 1, .lst ds => numds n ds
  | _, _ => false
def numds : Nat → List D → Bool
  | _, [] => true
  | n, d :: ds => numd n d && numds n ds
end
theorem numds_mem {n : Nat} : ∀ {ds : List D}, (∀ d ∈ ds, numd n d = true) → numds n ds = true
  | [], _ => rfl
  | d :: ds, h => by
    show (numd n d && numds n ds) = true
    rw [h d List.mem_cons_self, numds_mem fun e he => h e (List.mem_cons_of_mem _ he)]
    rfl
theorem numds_map {α : Type} {n : Nat} {xs : List α} {e : α → D} (h : ∀ x ∈ xs, numd n (e x) = true) : numds n (xs.map e) = true := numds_mem fun d hd => by
  obtain ⟨x, hx, rfl⟩ := List.mem_map.mp hd
  exact h x hx
mutual
theorem numd_lay : ∀ (n : Nat) (d : D), numd n d = true → (py d).canLay0 = true ∧ (py d).depth ≤ n
  | n, .int i, h => by cases n <;> exact ⟨rfl, Nat.zero_le _⟩
  | n + 1, .tup ds, h => ⟨(numds_lay n ds h).1, Nat.succ_le_succ (numds_lay n ds h).2⟩
  | n + 1, .lst ds, h => ⟨(numds_lay n ds h).1, Nat.succ_le_succ (numds_lay n ds h).2⟩
  | 0, .tup ds, h => by cases h
  | 0, .lst ds, h => by cases h
  | n, .non, h => by cases n <;> cases h
  | n, .bl _, h => by cases n <;> cases h
  | n, .str _, h => by cases n <;> cases h
  | n, .dic _ _, h => by cases n <;> cases h
  | n, .wt _, h => by cases n <;> cases h
  | n, .raw _, h => by cases n <;> cases h
  | n, .fz _, h => by cases n <;> cases h
theorem numds_lay : ∀ (n : Nat) (ds : List D), numds n ds = true → PyData.canLayAll0 (pys ds) = true ∧ PyData.depthAll (pys ds) ≤ n
  | n, [], h => ⟨rfl, Nat.zero_le _⟩
  | n, d :: ds, h => by
    have h' : (numd n d && numds n ds) = true := h
    rw [Bool.and_eq_true] at h'
    obtain ⟨a, b⟩ := numd_lay n d h'.1
    obtain ⟨c, e⟩ := numds_lay n ds h'.2
    refine ⟨?_, Nat.max_le.mpr ⟨b, e⟩⟩
    show (PyData.canLay0 (py d) && PyData.canLayAll0 (pys ds)) = true
    rw [a, c]
    rfl
end
theorem numd_sh {n : Nat} {d : D} (hn : n ≤ 64) (h : numd n d = true) : SeqAt.shaped (py d) = true := by
  obtain ⟨a, b⟩ := numd_lay n d h
  show ((py d).canLay0 && decide ((py d).depth ≤ 64)) = true
  rw [a, decide_eq_true (Nat.le_trans b hn)]
  rfl
mutual
theorem numd_eqv : ∀ (n : Nat) (x : D) (m : Nat) (y : D), numd n x = true → numd m y = true → (PyData.eqv (py x) (py y) = true ↔ x = y)
  | n, .int i, m, .int j, _, _ => by
    show (i == j) = true ↔ _
    rw [beq_iff_eq]
    exact ⟨fun h => by rw [h], fun h => by injection h⟩
  | n + 1, .tup ds, m + 1, .tup es, h, g => by
    show PyData.eqvAll (pys ds) (pys es) = true ↔ _
    rw [numds_eqv n ds m es h g]
    exact ⟨fun h => by rw [h], fun h => by injection h⟩
  | n + 1, .lst ds, m + 1, .lst es, h, g => by
    show PyData.eqvAll (pys ds) (pys es) = true ↔ _
    rw [numds_eqv n ds m es h g]
    exact ⟨fun h => by rw [h], fun h => by injection h⟩
  | n, .int i, m, .tup es, _, _ => ⟨fun h => (by cases h), fun h => (by cases h)⟩
  | n, .int i, m, .lst es, _, _ => ⟨fun h => (by cases h), fun h => (by cases h)⟩
  | n + 1, .tup ds, m, .int i, _, _ => ⟨fun h => (by cases h), fun h => (by cases h)⟩
  | n + 1, .lst ds, m, .int i, _, _ => ⟨fun h => (by cases h), fun h => (by cases h)⟩
  | n + 1, .tup ds, m, .lst i, _, _ => ⟨fun h => (by cases h), fun h => (by cases h)⟩
  | n + 1, .lst ds, m, .tup i, _, _ => ⟨fun h => (by cases h), fun h => (by cases h)⟩
  | 0, .tup ds, _, _, h, _ => by cases h
  | 0, .lst ds, _, _, h, _ => by cases h
  | n + 1, .tup ds, 0, .tup es, h, g => by cases g
  | n + 1, .lst ds, 0, .lst es, h, g => by cases g
  | n, .non, _, _, h, _ => by cases n <;> cases h
  | n, .bl _, _, _, h, _ => by cases n <;> cases h
  | n, .str _, _, _, h, _ => by cases n <;> cases h
  | n, .dic _ _, _, _, h, _ => by cases n <;> cases h
  | n, .wt _, _, _, h, _ => by cases n <;> cases h
  | n, .raw _, _, _, h, _ => by cases n <;> cases h
  | n, .fz _, _, _, h, _ => by cases n <;> cases h
  | n, _, m, .non, _, h => by cases m <;> cases h
  | n, _, m, .bl _, _, h => by cases m <;> cases h
  | n, _, m, .str _, _, h => by cases m <;> cases h
  | n, _, m, .dic _ _, _, h => by cases m <;> cases h
  | n, _, m, .wt _, _, h => by cases m <;> cases h
  | n, _, m, .raw _, _, h => by cases m <;> cases h
  | n, _, m, .fz _, _, h => by cases m <;> cases h
theorem numds_eqv : ∀ (n : Nat) (xs : List D) (m : Nat) (ys : List D), numds n xs = true → numds m ys = true → (PyData.eqvAll (pys xs) (pys ys) = true ↔ xs = ys)
  | n, [], m, [], _, _ => ⟨fun _ => rfl, fun _ => rfl⟩
  | n, [], m, _ :: _, _, _ => ⟨fun h => (by cases h), fun h => (by cases h)⟩
  | n, _ :: _, m, [], _, _ => ⟨fun h => (by cases h), fun h => (by cases h)⟩
  | n, x :: xs, m, y :: ys, h, g => by
    have h' : (numd n x && numds n xs) = true := h
    have g' : (numd m y && numds m ys) = true := g
    rw [Bool.and_eq_true] at h' g'
    show (PyData.eqv (py x) (py y) && PyData.eqvAll (pys xs) (pys ys)) = true ↔ _
    rw [Bool.and_eq_true, numd_eqv n x m y h'.1 g'.1, numds_eqv n xs m ys h'.2 g'.2]
    exact ⟨fun h => by rw [h.1, h.2], fun h => by injection h with a b; exact ⟨a, b⟩⟩
end
theorem eqD_num {x y : D} {n m : Nat} {b : Bool} (hn : n ≤ 64) (hm : m ≤ 64) (h : numd n x = true) (g : numd m y = true) (hb : b = true ↔ x = y) : eqD x y = some (.bl b) := by
  unfold eqD
  rw [if_pos ⟨numd_sh hn h, numd_sh hm g⟩]
  have := numd_eqv n x m y h g
  congr 2
  rw [Bool.eq_iff_iff, this, hb]
theorem neD_num {x y : D} {n m : Nat} {b : Bool} (hn : n ≤ 64) (hm : m ≤ 64) (h : numd n x = true) (g : numd m y = true) (hb : b = true ↔ x = y) : neD x y = some (.bl (!b)) := by
  unfold neD
  rw [if_pos ⟨numd_sh hn h, numd_sh hm g⟩]
  have := numd_eqv n x m y h g
  congr 3
  rw [Bool.eq_iff_iff, this, hb]

/-! ### places in lists -/
theorem atI_at {α : Type} {xs : List α} {i : Int} (h0 : 0 ≤ i) (h1 : i < xs.length) : atI xs i = xs[i.toNat]? := by
  unfold atI ixN
  rw [if_pos h0, if_pos h1]
  rfl
theorem atI_nat {α : Type} {xs : List α} {i : Nat} {x : α} (h : xs[i]? = some x) : atI xs (i : Int) = some x := by
  have hl : i < xs.length := (List.getElem?_eq_some_iff.mp h).1
  rw [atI_at (by omega) (by omega)]
  exact h
theorem atI_last {α : Type} {xs : List α} {x : α} : atI (xs ++ [x]) (-1) = some x := by
  unfold atI ixN
  rw [if_neg (by omega), if_pos (by rw [List.length_append]; simp only [List.length_cons, List.length_nil]; omega)]
  show (xs ++ [x])[(-1 + ((xs ++ [x]).length : Int)).toNat]? = some x
  have : (-1 + ((xs ++ [x]).length : Int)).toNat = xs.length := by rw [List.length_append]; simp only [List.length_cons, List.length_nil]; omega
  rw [this, List.getElem?_append_right (Nat.le_refl _), Nat.sub_self]
  rfl

/-! ### comprehensions -/
theorem compM_map {α : Type} {vs : List Nat} {t : Tg} {tt : Mt} {me : Mi} {S : Sd} (e f : α → D) (p : α → Bool) : ∀ (xs : List α),
    (∀ x ∈ xs, ∃ S1, asg t (e x) (wipeD S vs) = some S1 ∧ tt S1 = some (p x) ∧ (p x = true → me S1 = some (f x))) → compM vs t tt me S (xs.map e) = some ((xs.filter p).map f)
  | [], _ => rfl
  | x :: xs, h => by
    obtain ⟨S1, h1, h2, h3⟩ := h x List.mem_cons_self
    have ih := compM_map e f p xs fun y hy => h y (List.mem_cons_of_mem _ hy)
    show ((asg t (e x) (wipeD S vs)).bind fun S1 => (tt S1).bind fun c => if c = true then (me S1).bind fun y => (compM vs t tt me S (xs.map e)).map fun ys => y :: ys else compM vs t tt me S (xs.map e)) = _
    rw [h1]
    show ((tt S1).bind fun c => if c = true then (me S1).bind fun y => (compM vs t tt me S (xs.map e)).map fun ys => y :: ys else compM vs t tt me S (xs.map e)) = _
    rw [h2]
    show (if p x = true then (me S1).bind fun y => (compM vs t tt me S (xs.map e)).map fun ys => y :: ys else compM vs t tt me S (xs.map e)) = _
    by_cases c : p x = true
    · rw [if_pos c, h3 c, ih, List.filter_cons_of_pos c]
      rfl
    · rw [if_neg c, ih, List.filter_cons_of_neg c]
theorem filter_yes {α : Type} : ∀ (xs : List α), xs.filter (fun _ => true) = xs
  | [] => rfl
  | x :: xs => by rw [List.filter_cons_of_pos rfl, filter_yes xs]
/-- no test -/
theorem mLc_map {α : Type} {mi : Ma} {vs : List Nat} {t : Tg} {me : Mi} {S : Sd} (e f : α → D) (xs : List α) (hi : mi S = some (xs.map e)) (hl : xs.length ≤ 1000000)
    (h : ∀ x ∈ xs, ∃ S1, asg t (e x) (wipeD S vs) = some S1 ∧ me S1 = some (f x)) : mLc mi vs t mYes me S = some (.lst (xs.map f)) := by
  unfold mLc
  rw [hi]
  show (if (xs.map e).length ≤ 1000000 then (compM vs t mYes me S (xs.map e)).map D.lst else none) = _
  rw [if_pos (by rw [List.length_map]; exact hl), compM_map e f (fun _ => true) xs fun x hx => by
    obtain ⟨S1, a, b⟩ := h x hx
    exact ⟨S1, a, rfl, fun _ => b⟩, filter_yes]
  rfl
theorem mLc_filter {α : Type} {mi : Ma} {vs : List Nat} {t : Tg} {tt : Mt} {me : Mi} {S : Sd} (e f : α → D) (p : α → Bool) (xs : List α) (hi : mi S = some (xs.map e)) (hl : xs.length ≤ 1000000)
    (h : ∀ x ∈ xs, ∃ S1, asg t (e x) (wipeD S vs) = some S1 ∧ tt S1 = some (p x) ∧ (p x = true → me S1 = some (f x))) : mLc mi vs t tt me S = some (.lst ((xs.filter p).map f)) := by
  unfold mLc
  rw [hi]
  show (if (xs.map e).length ≤ 1000000 then (compM vs t tt me S (xs.map e)).map D.lst else none) = _
  rw [if_pos (by rw [List.length_map]; exact hl), compM_map e f p xs h]
  rfl

/-! ### loops -/
/-- one turn: goes on, in a state that R speaks of -/
def Turn (t : Tg) (b : Ms) (d : D) (S : Sl) (P : Sl → Prop) : Prop := ∃ S1 S2, asgL t d S = some S1 ∧ (b S1 = some (.nx S2) ∨ b S1 = some (.ct S2)) ∧ P S2
theorem forM_rel {α β : Type} {t : Tg} {b : Ms} (e : α → D) (R : Nat → β → Sl → Prop) (step : β → α → β) : ∀ (xs : List α) (z : β) (S : Sl), R xs.length z S →
    (∀ n z S, R (n + 1) z S → ∀ x ∈ xs, Turn t b (e x) S (R n (step z x))) → ∃ S', forM t b (xs.map e) S = some (.nx S') ∧ R 0 (xs.foldl step z) S'
  | [], z, S, r, _ => ⟨S, rfl, r⟩
  | x :: xs, z, S, r, h => by
    obtain ⟨S1, S2, h1, h2, h3⟩ := h xs.length z S r x List.mem_cons_self
    obtain ⟨S', g1, g2⟩ := forM_rel e R step xs (step z x) S2 h3 fun n z S r y hy => h n z S r y (List.mem_cons_of_mem _ hy)
    refine ⟨S', ?_, g2⟩
    show ((asgL t (e x) S).bind fun S1 => (b S1).bind fun o => match o with
      | .nx S2 => forM t b (xs.map e) S2
      | .ct S2 => forM t b (xs.map e) S2
      | .bk S2 => some (.nx S2)
      | .rt d S2 => some (.rt d S2)) = _
    rw [h1]
    show ((b S1).bind _) = _
    rcases h2 with h2 | h2 <;> rw [h2] <;> exact g1
theorem sFor_rel {α β : Type} {mi : Ma} {t : Tg} {b : Ms} (e : α → D) (R : Nat → β → Sl → Prop) (step : β → α → β) (xs : List α) (z : β) {S : Sl} (hi : mi (cl S) = some (xs.map e)) (r : R xs.length z S)
    (h : ∀ n z S, R (n + 1) z S → ∀ x ∈ xs, Turn t b (e x) S (R n (step z x))) : ∃ S', sFor mi t b S = some (.nx S') ∧ R 0 (xs.foldl step z) S' := by
  unfold sFor
  rw [hi]
  exact forM_rel e R step xs z S r h
theorem bind_for {α β γ : Type} {mi : Ma} {t : Tg} {b : Ms} {S : Sl} {k : Out → Option γ} {res : Option γ} (e : α → D) (R : Nat → β → Sl → Prop) (step : β → α → β) (xs : List α) (z : β) (hi : mi (cl S) = some (xs.map e)) (r : R xs.length z S)
    (h : ∀ n z S, R (n + 1) z S → ∀ x ∈ xs, Turn t b (e x) S (R n (step z x))) (fin : ∀ S', R 0 (xs.foldl step z) S' → k (.nx S') = res) : (sFor mi t b S).bind k = res := by
  obtain ⟨S', e1, r'⟩ := sFor_rel e R step xs z hi r h
  rw [e1]
  exact fin S' r'
theorem whM_go {t : Mt} {b : Ms} {n : Nat} {S S2 : Sl} (h1 : t (op S) = some true) (h2 : b S = some (.nx S2)) : whM t b (n + 1) S = whM t b n S2 := by
  show ((t (op S)).bind fun c => if c = true then (b S).bind fun o => match o with
      | .nx S2 => whM t b n S2
      | .ct S2 => whM t b n S2
      | .bk S2 => some (.nx S2)
      | .rt d S2 => some (.rt d S2)
    else some (.nx S)) = _
  rw [h1, h2]
  rfl
theorem whM_end {t : Mt} {b : Ms} {n : Nat} {S : Sl} (h1 : t (op S) = some false) : whM t b (n + 1) S = some (.nx S) := by
  show ((t (op S)).bind fun c => if c = true then (b S).bind fun o => match o with
      | .nx S2 => whM t b n S2
      | .ct S2 => whM t b n S2
      | .bk S2 => some (.nx S2)
      | .rt d S2 => some (.rt d S2)
    else some (Out.nx S)) = _
  rw [h1]
  rfl
theorem whM_rt {t : Mt} {b : Ms} {n : Nat} {S S2 : Sl} {d : D} (h1 : t (op S) = some true) (h2 : b S = some (.rt d S2)) : whM t b (n + 1) S = some (.rt d S2) := by
  show ((t (op S)).bind fun c => if c = true then (b S).bind fun o => match o with
      | .nx S2 => whM t b n S2
      | .ct S2 => whM t b n S2
      | .bk S2 => some (.nx S2)
      | .rt d S2 => some (.rt d S2)
    else some (.nx S)) = _
  rw [h1, h2]
  rfl
theorem asgL_nm (i : Nat) (d : D) (S : Sl) : asgL (.nm i) d S = some (S.set i (.dat d)) := rfl
theorem asgL_tp (ts : List Tg) (ds : List D) (S : Sl) : asgL (.tp ts) (.tup ds) S = asgsL ts ds S := rfl
theorem asgL_wt (ts : List Tg) (ds : List D) (S : Sl) : asgL (.tp ts) (.wt ds) S = asgsL ts ds S := rfl
theorem asgsL_nil (S : Sl) : asgsL [] [] S = some S := rfl
theorem asgsL_cons (t : Tg) (ts : List Tg) (d : D) (ds : List D) (S : Sl) : asgsL (t :: ts) (d :: ds) S = (asgL t d S).bind fun S1 => asgsL ts ds S1 := rfl
theorem asg_nm (i : Nat) (d : D) (S : Sd) : asg (.nm i) d S = some (S.set i (some d)) := rfl
theorem asg_tp (ts : List Tg) (ds : List D) (S : Sd) : asg (.tp ts) (.tup ds) S = asgs ts ds S := rfl
theorem asgs_nil (S : Sd) : asgs [] [] S = some S := rfl
theorem asgs_cons (t : Tg) (ts : List Tg) (d : D) (ds : List D) (S : Sd) : asgs (t :: ts) (d :: ds) S = (asg t d S).bind fun S1 => asgs ts ds S1 := rfl
theorem sSeq_nx {a b : Ms} {S S1 : Sl} (h : a S = some (.nx S1)) : sSeq a b S = b S1 := by
  unfold sSeq
  rw [h]
  rfl
theorem sSeq_rt {a b : Ms} {S S1 : Sl} {d : D} (h : a S = some (.rt d S1)) : sSeq a b S = some (.rt d S1) := by
  unfold sSeq
  rw [h]
  rfl
theorem sSeq_ct {a b : Ms} {S S1 : Sl} (h : a S = some (.ct S1)) : sSeq a b S = some (.ct S1) := by
  unfold sSeq
  rw [h]
  rfl
theorem run_rt {n : Nat} {m : Ms} {ds : List D} {d : D} {S : Sl} (h : m (initS n ds) = some (.rt d S)) : runF n m ds = some d := by
  unfold runF
  rw [h]
  rfl
theorem run_nx {n : Nat} {m : Ms} {ds : List D} {S : Sl} (h : m (initS n ds) = some (.nx S)) : runF n m ds = some .non := by
  unfold runF
  rw [h]
  rfl
theorem flat_tp (ds : List D) : flat (.tup ds) = flats ds := rfl
theorem flat_in (i : Int) : flat (.int i) = true := rfl
theorem flat_bo (i : Bool) : flat (.bl i) = true := rfl
theorem flat_no : flat .non = true := rfl
theorem flats_nl : flats [] = true := rfl
theorem flats_cn (d : D) (ds : List D) : flats (d :: ds) = (flat d && flats ds) := rfl
theorem turn_nx {t : Tg} {b : Ms} {d : D} {S S2 : Sl} {P : Sl → Prop} (h : (asgL t d S).bind b = some (.nx S2)) (p : P S2) : Turn t b d S P := by
  obtain ⟨S1, h1, h2⟩ := bind_some h
  exact ⟨S1, S2, h1, .inl h2, p⟩
theorem turn_ct {t : Tg} {b : Ms} {d : D} {S S2 : Sl} {P : Sl → Prop} (h : (asgL t d S).bind b = some (.ct S2)) (p : P S2) : Turn t b d S P := by
  obtain ⟨S1, h1, h2⟩ := bind_some h
  exact ⟨S1, S2, h1, .inr h2, p⟩
theorem rangeL_map (n : Nat) : rangeL 0 n = (List.range n).map fun (i : Nat) => D.int (i : Int) := by
  unfold rangeL
  congr 1
  funext i
  rw [Int.zero_add]
theorem itR1_a1 (n : Nat) (hn : n ≤ 1000000) : (-4611686018427387904 : Int) ≤ (n : Int) ∧ (n : Int) < 4611686018427387904 := ⟨by omega, by omega⟩
theorem itR1_a2 {m : Ma} {S : Sd} {n : Int} (h : m S = some [.int n]) (c : (-4611686018427387904 : Int) ≤ n ∧ n < 4611686018427387904) : itR1 m S = some (rangeL 0 n.toNat) := by
  unfold itR1
  rw [h]
  simp only [Option.bind_some]
  exact if_pos c
theorem itR1_at {m : Ma} {S : Sd} {n : Nat} (h : m S = some [.int (n : Int)]) (hn : n ≤ 1000000) : itR1 m S = some ((List.range n).map fun (i : Nat) => D.int (i : Int)) :=
  (itR1_a2 h (itR1_a1 n hn)).trans (congrArg some (rangeL_map n))
theorem intsOf_map : ∀ (ns : List Int), intsOf (ns.map .int) = some ns
  | [] => rfl
  | n :: ns => by
    show (intsOf (ns.map .int)).map (fun k => n :: k) = _
    rw [intsOf_map ns]
    rfl
theorem pairUp_map {α : Type} (e f : α → D) : ∀ (xs : List α), pairUp (xs.map e) (xs.map f) = xs.map fun x => .tup [e x, f x]
  | [] => rfl
  | x :: xs => by
    show D.tup [e x, f x] :: pairUp (xs.map e) (xs.map f) = _
    rw [pairUp_map e f xs]
    rfl
theorem flats_map {α : Type} {e : α → D} : ∀ {xs : List α}, (∀ x ∈ xs, flat (e x) = true) → flats (xs.map e) = true
  | [], _ => rfl
  | x :: xs, h => by
    show (flat (e x) && flats (xs.map e)) = true
    rw [h x List.mem_cons_self, flats_map fun y hy => h y (List.mem_cons_of_mem _ hy)]
    rfl
end Ice

/-! count and index of a list of bools; a suite that sets names and tells -/
namespace Ice
open PySem PySem.Spec PyProof.Rows L2
/-! ### xs.count(y), flat items -/
def rCntF (K : PySem.W.Frag) : V → List V → Hp → VK → Prop := fun x xs H Q => ∃ (a : Addr) (ys : List V) (y : V), x = V.ref a ∧ xs = [y] ∧ SqL K H a ys ∧ flatV y = true ∧ ys.all flatV = true ∧ Q (.int (ys.countP fun z => eqV z y : Nat)) H
theorem count_vals {y : V} : ∀ {ys : List V} {us : List Value}, Vals ys us → ys.all flatV = true → us.countP (eqU y) = ys.countP fun z => eqV z y
  | _, _, .nil, _ => rfl
  | z :: ys, u :: us, .cons r t, f => by
    rw [List.all_cons, Bool.and_eq_true] at f
    rw [List.countP_cons, List.countP_cons, count_vals t f.2, eqU_of r f.1]
theorem mt_countF {X : Cx} : MtR X "list.count" (rCntF X.K) := by
  intro pins s σ H x xs v us Q I rx rxs h
  obtain ⟨a, ys, y, rfl, rfl, hs, fy, fys, q⟩ := h
  cases rx
  cases rxs with
  | cons ry rt =>
    rename_i uy ut
    cases rt
    obtain ⟨its, rv, ⟨⟨cls, dd, data, sl⟩, n, ho, hc, hdn, hd⟩, hlen⟩ := I.list hs
    simp only at hc hd
    subst hc hd
    refine call_meets PySem.F.slot_list_count ⟨_, ho, rfl⟩ PySem.F.entry_list_count (PySem.F.args_list_count_2 _ _) (SeqAt.list_countAt a its.toArray n dd sl uy (eqU y)) ⟨ho, fun u' hu' => mem_eqAt ry fy rv fys u' (by simpa using hu'), ?_⟩
    refine ⟨.int (ys.countP fun z => eqV z y : Nat), H, I.tok _, ⟨s.toks, ?_⟩, q⟩
    have e : its.toArray.toList.countP (eqU y) = ys.countP fun z => eqV z y := count_vals rv fys
    show Value.int ((its.toArray.toList.countP (eqU y) : Nat) : Int) s.toks = Value.int ((ys.countP fun z => eqV z y : Nat) : Int) s.toks
    rw [e]
def countB : D → D → Option D
  | .lst ds, .bl b => (boolsOf ds).map fun bs => .int (bs.count b : Nat)
  | _, _ => none
def idxB (bs : List Bool) (b : Bool) : Option Nat := bs.findIdx? fun z => z == b
def indexB : D → D → Option D
  | .lst ds, .bl b => (boolsOf ds).bind fun bs => (idxB bs b).map fun j => .int (j : Nat)
  | _, _ => none
theorem all_flatB : ∀ (bs : List Bool), (bs.map V.bl).all flatV = true
  | [] => rfl
  | _ :: bs => all_flatB bs
theorem countB_eq (b : Bool) : ∀ (bs : List Bool), (bs.map V.bl).countP (fun z => eqV z (.bl b)) = bs.count b
  | [] => rfl
  | c :: bs => by
    have e : eqV (.bl c) (.bl b) = (c == b) := rfl
    rw [List.map_cons, List.countP_cons, countB_eq b bs, List.count_cons, e]
section
variable {X : Cx} {e o : Expr} {ma me : Mi} {pos : Pos} {x : Str} {p1 p2 p3 : Pos}
theorem ev_countB (ho : Ev X o ma) (he : Ev X e me) (hbase : attributeBase o "count" X.env (eval o X.env) = eval o X.env := by rfl)
    (hfew : ((backTo p3 (starEach [e] X.env)).all (fun x => !x.1) && (backToKw p3 (keywordEach [] X.env)).all (fun x => x.1.isSome) && decide ([e].length + ([] : List Keyword).length + (if ([] : List Keyword).isEmpty then 0 else 1) < 30)) = true := by rfl)
    (hline : (p2.endLine == p3.line) = true := by rfl) (hs : starEach [e] X.env = (false, eval e X.env) :: starEach [] X.env := by rfl) (hplain : (backTo p3 (starEach [] X.env)).any (fun x => x.1) = false := by rfl) :
    Ev X (.Call (.Attribute o "count" p2) [e] [] p3) (m2 countB ma me) :=
  PE.imp (pe_bm PySem.F.plainAttrs_list PySem.F.slot_list_count PySem.F.type_list_count mt_countF ho (ea_cons he ea_nil hs) hbase hfew hline hs hplain) fun σ H Q h => by
    obtain ⟨ok, S, d, rs, m, q⟩ := h
    obtain ⟨x, h1, m⟩ := bind_some m
    obtain ⟨y, h2, m⟩ := bind_some m
    cases x with
    | lst ds =>
      cases y with
      | bl b =>
        obtain ⟨bs, e1, rfl⟩ := map_some (show (boolsOf ds).map (fun bs => D.int (bs.count b : Nat)) = some d from m)
        refine ⟨ok, S, _, rs, h1, fun vx H1 s1 rx => ?_⟩
        cases rx with
        | lst g hh r =>
          have ev := bools_ok r e1
          subst ev
          refine ⟨.inl ⟨rfl, _, SqL.of hh⟩, ok, S, [.bl b], rs.keeps (Same.keeps s1) (fun _ z => z), ?_, fun us H2 s2 ru => ?_⟩
          · show (me S).bind (fun x => some [x]) = _
            rw [h2]
            rfl
          · cases ru with
            | cons rv ru =>
              cases ru
              cases rv
              refine ⟨_, _, .bl b, rfl, rfl, SqL.of (s2 _ _ hh), rfl, all_flatB bs, ?_⟩
              rw [countB_eq]
              exact q _ H2 (s1.trans s2) (.int _)
      | _ => cases m
    | _ => cases m
theorem ev_indexB (ho : Ev X o ma) (he : Ev X e me) (hbase : attributeBase o "index" X.env (eval o X.env) = eval o X.env := by rfl)
    (hfew : ((backTo p3 (starEach [e] X.env)).all (fun x => !x.1) && (backToKw p3 (keywordEach [] X.env)).all (fun x => x.1.isSome) && decide ([e].length + ([] : List Keyword).length + (if ([] : List Keyword).isEmpty then 0 else 1) < 30)) = true := by rfl)
    (hline : (p2.endLine == p3.line) = true := by rfl) (hs : starEach [e] X.env = (false, eval e X.env) :: starEach [] X.env := by rfl) (hplain : (backTo p3 (starEach [] X.env)).any (fun x => x.1) = false := by rfl) :
    Ev X (.Call (.Attribute o "index" p2) [e] [] p3) (m2 indexB ma me) :=
  PE.imp (pe_bm PySem.F.plainAttrs_list PySem.F.slot_list_index PySem.F.type_list_index mt_index ho (ea_cons he ea_nil hs) hbase hfew hline hs hplain) fun σ H Q h => by
    obtain ⟨ok, S, d, rs, m, q⟩ := h
    obtain ⟨x, h1, m⟩ := bind_some m
    obtain ⟨y, h2, m⟩ := bind_some m
    cases x with
    | lst ds =>
      cases y with
      | bl b =>
        obtain ⟨bs, e1, m⟩ := bind_some (show ((boolsOf ds).bind fun bs => (idxB bs b).map fun j => D.int (j : Nat)) = some d from m)
        obtain ⟨j, e2, rfl⟩ := map_some m
        refine ⟨ok, S, _, rs, h1, fun vx H1 s1 rx => ?_⟩
        cases rx with
        | lst g hh r =>
          have ev := bools_ok r e1
          subst ev
          refine ⟨.inl ⟨rfl, _, SqL.of hh⟩, ok, S, [.bl b], rs.keeps (Same.keeps s1) (fun _ z => z), ?_, fun us H2 s2 ru => ?_⟩
          · show (me S).bind (fun x => some [x]) = _
            rw [h2]
            rfl
          · cases ru with
            | cons rv ru =>
              cases ru
              cases rv
              obtain ⟨hj, a, nb⟩ := List.findIdx?_eq_some_iff_getElem.mp e2
              refine ⟨_, _, .bl b, j, .bl bs[j], rfl, rfl, SqL.of (s2 _ _ hh), rfl, all_flatB bs, by rw [List.getElem?_map, List.getElem?_eq_getElem hj]; rfl, a, fun k z' hk hz => ?_, q _ H2 (s1.trans s2) (.int _)⟩
              rw [List.getElem?_map] at hz
              obtain ⟨z, h3, rfl⟩ := map_some hz
              obtain ⟨hk', h3⟩ := List.getElem?_eq_some_iff.mp h3
              have := nb k hk
              rw [h3] at this
              show (z == b) = false
              exact Bool.not_eq_true _ ▸ this
      | _ => cases m
    | _ => cases m
end
/-! ### a suite that sets names and tells -/
theorem un_ROl {K : PySem.W.Frag} {p0 : Addr} {H0 H : Hp} {ok0 : Addr → Prop} {S : Sl} {σ : L2.St} (s : Same H0 H) (l : S.length = σ.length) : RO K p0 H0 ok0 (fun _ => False) (S.map fun _ => SL.un) σ H := by
  have := un_RO (K := K) (p0 := p0) (ok0 := ok0) (S := S.map fun _ => (none : Option D)) s (by rw [List.length_map]; exact l)
  rw [List.map_map] at this
  exact this
def sTryR (i n : Nat) (mb : Me) (h : Str → Option D) : Ms := fun S => (mb S).bind fun o => match o with
  | .o x => some x
  | .rx c S' => if S'.length = n ∧ i < n then (h c).map fun d => .rt d (S'.map fun _ => SL.un) else none
theorem es_tryR {X : Cx} (i n : Nat) {x : Str} {body suite : List Stmt} {b₀ : Stmt} {np pos pos' : Pos} {mb : Me} {hs : Addr → Str → Ms} {h : Str → Option D} (T : ExT X.K X.mg) (hst : X.stack = X.env :: X.outer) (hf : X.env.frame = some X.env.locals) (hN : X.N.Nodup) (hi : X.N[i]? = some x) (hln : X.env.kindOf x = some .local) (hg : Gl X "IceError")
    (hb : ∀ (W : WX) (pn : List (Addr × Obj)) (xe : Value → Shared → Prop), Takes (Cx.tr X pn xe) W → PassesOwn (model X.prog X.w) X.A X.env xe → EssE (Cx.tr X pn xe) W body mb)
    (hsu : ∀ (a : Addr) (oe : Obj) (c : Str) (pn : List (Addr × Obj)), c ∈ exNs → Zc (.ref (He.ga X.K c)) none oe → (∃ vs, oe.data = .fields vs) → Ess (Cx.su X a oe pn) (b₀ :: suite) (hs a c))
    (hh : ∀ (a : Addr) (c : Str) (d : D) (S : Sl), S.length = n → h c = some d → ∃ S2, hs a c (S.set i (.dat (.raw (.ref a)))) = some (.rt d S2) ∧ S2.length = n) :
    Es X (.Try body [.ExceptHandler (some (.Name "IceError" np)) (some x) (b₀ :: suite) pos'] [] [] pos) (sTryR i n mb h) :=
  PS.imp (ps_try_as (i := i) (c := .ref (He.ga X.K "IceError")) (tb := fun W => tSE X.K W mb) (ts := fun a cls d E σ H => ∃ c, c ∈ exNs ∧ cls = .ref (He.ga X.K c) ∧ d = none ∧ tS X.K (hs a c) E σ H) (Wout := fun _ _ _ _ => False) hst hf hN hi hln ⟨hg, by decide, .inl T.gI⟩ takes0 hb
    (fun a oe cls d pn hz hfl => ⟨fun pins s σ H D I hw => by
      obtain ⟨c, hc, rfl, rfl, q⟩ := hw
      exact (hsu a oe c pn hc hz hfl).run pins s σ H D I q⟩)) fun E σ H hh' => by
    obtain ⟨p0, H0, ok0, S, o, r, m, q⟩ := hh'
    obtain ⟨o1, e1, m⟩ := bind_some m
    refine ⟨p0, H0, ok0, S, o1, r, e1, ?_⟩
    cases o1 with
    | o x => cases m; exact q
    | rx c S' =>
      have m' : (if S'.length = n ∧ i < n then (h c).map fun d => Out.rt d (S'.map fun _ => SL.un) else none) = some o := m
      by_cases hl : S'.length = n ∧ i < n
      · rw [if_pos hl] at m'
        obtain ⟨d, e2, e3⟩ := map_some m'
        subst e3
        refine fun hc σ1 H1 ⟨O, r1⟩ => ⟨true, T.m c hc, fun _ a ha => ?_, fun z => nomatch z⟩
        obtain ⟨S2, e4, e5⟩ := hh a c d S' hl.1 e2
        refine ⟨c, hc, rfl, rfl, p0, H0, ok0, _, _, ⟨O, r1.put (i := i) (.raw (.ref a))⟩, e4, fun v σ2 H2 ⟨O2, r2⟩ rv => ?_⟩
        refine q v (σ2.set i none) H2 ⟨fun _ => False, ?_⟩ rv
        have len : S'.length = (σ2.set i none).length := by
          rw [hl.1, List.length_set, ← r2.len, e5]
        exact un_ROl (K := X.K) (S := S') (σ := σ2.set i none) r2.same len
      · rw [if_neg hl] at m'; cases m'
theorem ex_rt {m : Option Out} {d : D} {n : Nat} (h : (m.bind fun o => match o with | .rt d' S2 => if S2.length = n then some d' else none | _ => none) = some d) : ∃ S2, m = some (.rt d S2) ∧ S2.length = n := by
  obtain ⟨o, e, h⟩ := bind_some h
  cases o with
  | rt d' S2 =>
    have h' : (if S2.length = n then some d' else none) = some d := h
    split at h'
    · next c =>
      cases h'
      exact ⟨S2, e, c⟩
    · cases h'
  | nx S2 => cases h
  | bk S2 => cases h
  | ct S2 => cases h
theorem cB2_10 : countB (.lst [.bl true, .bl false]) (.bl true) = some (.int 1) := rfl
theorem iB2_10 : indexB (.lst [.bl true, .bl false]) (.bl true) = some (.int 0) := rfl
theorem cB2_01 : countB (.lst [.bl false, .bl true]) (.bl true) = some (.int 1) := rfl
theorem iB2_01 : indexB (.lst [.bl false, .bl true]) (.bl true) = some (.int 1) := rfl
theorem cB2_00 : countB (.lst [.bl false, .bl false]) (.bl true) = some (.int 0) := rfl
theorem xB2_0 {a b : D} : ixD (.lst [a, b]) (.int 0) = some a := rfl
theorem xB2_1 {a b : D} : ixD (.lst [a, b]) (.int 1) = some b := rfl
theorem cB5_10000 : countB (.lst [.bl true, .bl false, .bl false, .bl false, .bl false]) (.bl true) = some (.int 1) := rfl
theorem iB5_10000 : indexB (.lst [.bl true, .bl false, .bl false, .bl false, .bl false]) (.bl true) = some (.int 0) := rfl
theorem cB5_01000 : countB (.lst [.bl false, .bl true, .bl false, .bl false, .bl false]) (.bl true) = some (.int 1) := rfl
theorem iB5_01000 : indexB (.lst [.bl false, .bl true, .bl false, .bl false, .bl false]) (.bl true) = some (.int 1) := rfl
theorem cB5_00100 : countB (.lst [.bl false, .bl false, .bl true, .bl false, .bl false]) (.bl true) = some (.int 1) := rfl
theorem iB5_00100 : indexB (.lst [.bl false, .bl false, .bl true, .bl false, .bl false]) (.bl true) = some (.int 2) := rfl
theorem cB5_00010 : countB (.lst [.bl false, .bl false, .bl false, .bl true, .bl false]) (.bl true) = some (.int 1) := rfl
theorem iB5_00010 : indexB (.lst [.bl false, .bl false, .bl false, .bl true, .bl false]) (.bl true) = some (.int 3) := rfl
theorem cB5_00001 : countB (.lst [.bl false, .bl false, .bl false, .bl false, .bl true]) (.bl true) = some (.int 1) := rfl
theorem iB5_00001 : indexB (.lst [.bl false, .bl false, .bl false, .bl false, .bl true]) (.bl true) = some (.int 4) := rfl
theorem cB5_00000 : countB (.lst [.bl false, .bl false, .bl false, .bl false, .bl false]) (.bl true) = some (.int 0) := rfl
theorem xB5_0 {a b c d e : D} : ixD (.lst [a, b, c, d, e]) (.int 0) = some a := rfl
theorem xB5_1 {a b c d e : D} : ixD (.lst [a, b, c, d, e]) (.int 1) = some b := rfl
theorem xB5_2 {a b c d e : D} : ixD (.lst [a, b, c, d, e]) (.int 2) = some c := rfl
theorem xB5_3 {a b c d e : D} : ixD (.lst [a, b, c, d, e]) (.int 3) = some d := rfl
theorem xB5_4 {a b c d e : D} : ixD (.lst [a, b, c, d, e]) (.int 4) = some e := rfl
theorem neB_1 : neD (.int 1) (.int 1) = some (.bl false) := rfl
theorem neB_0 : neD (.int 0) (.int 1) = some (.bl true) := rfl
theorem eqB_1 : eqD (.int 1) (.int 1) = some (.bl true) := rfl
theorem eqB_0 : eqD (.int 0) (.int 1) = some (.bl false) := rfl
end Ice

namespace Ice
open PySem PySem.Spec PyProof.Rows L2
def topS (i : Nat) : Stmt := PySem.Challenge.pw_icehouse_k17_texts_refused.main.body.getD i (.Pass ⟨0, 0, 0, 0⟩)
structure Txt (K : PySem.W.Frag) (mg : Str → Option Value) : Prop where
  g_EAST : ∃ t, mg "EAST" = some (.int 1 t)
  g_HEATS : ∃ t, mg "HEATS" = some (.str "heats" t)
  g_MOST_COLUMNS : ∃ t, mg "MOST_COLUMNS" = some (.int 4 t)
  g_MOST_FIGURES : ∃ t, mg "MOST_FIGURES" = some (.int 4 t)
  g_MOST_HEAT : ∃ t, mg "MOST_HEAT" = some (.int 9 t)
  g_MOST_PARTS : ∃ t, mg "MOST_PARTS" = some (.int 9999 t)
  g_MOST_ROWS : ∃ t, mg "MOST_ROWS" = some (.int 4 t)
  g_MOST_WALLS : ∃ t, mg "MOST_WALLS" = some (.int 40 t)
  g_NORTH : ∃ t, mg "NORTH" = some (.int 0 t)
  g_ROW : ∃ t, mg "ROW" = some (.str "row" t)
  g_SOUTH : ∃ t, mg "SOUTH" = some (.int 2 t)
  g_WALL : ∃ t, mg "WALL" = some (.str "wall" t)
  g_WEST : ∃ t, mg "WEST" = some (.int 3 t)
  m_all : mg "all" = none
  m_bool : mg "bool" = none
  m_int : mg "int" = none
  m_isinstance : mg "isinstance" = none
  m_len : mg "len" = none
  m_range : mg "range" = none
  m_str : mg "str" = none
  m_tuple : mg "tuple" = none
  ex : ExT K mg
section
variable {P : Program} {w : World} {K : PySem.W.Frag} {mg : Str → Option Value} {base : Heap}

abbrev s_is_number : Stmt := topS 18
theorem sc_is_number : FnScope ["value", "most"] ["value", "most"] (defScope s_is_number) :=
  ⟨rfl, rfl, rfl, by decide +kernel, rfl, by decide +kernel, by decide +kernel⟩
def mr_is_number : Ms := (sRet (mAndV (mA isiF (aCons (mV 0) (aCons (mC (.raw (.ty "int"))) aNil))) (mAndV (m1 notD (mA isiF (aCons (mV 0) (aCons (mC (.raw (.ty "bool"))) aNil)))) (mCh leD leD (mC (.int 0)) (mV 0) (mV 1)))))
theorem ok_is_number {f : Addr} {fd : FuncData} (F : L2.Fun K "is_number" "is_number" s_is_number f fd) (T : Txt K mg) : FnOk P w K mg base CX0 1 f fd ["value", "most"] (spD K 2 (runF 2 (mr_is_number))) :=
  fn_ok F sc_is_number fun cdv A outer s H E hr => by
    have nd := sc_is_number.nd
    exact (ess_one (es_ret (ev_and (ev_callB call_isi cd_isi (by rfl) T.m_isinstance (by decide +kernel) (ea_cons (ev_v 0) (ea_cons (ev_bty "int" (by rfl) T.m_int (by decide +kernel)) ea_nil))) (ev_and (ev_not (ev_callB call_isi cd_isi (by rfl) T.m_isinstance (by decide +kernel) (ea_cons (ev_v 0) (ea_cons (ev_bty "bool" (by rfl) T.m_bool (by decide +kernel)) ea_nil)))) (ev_one (ev_chain op_le op_le od_le od_le ev_int (ev_v 0) (ev_v 1)))))))
def G_is_number : List D → Option D := runF 2 (mr_is_number)

abbrev s__are_numbers : Stmt := topS 25
theorem sc__are_numbers : FnScope ["values", "most", "value"] ["values", "most"] (defScope s__are_numbers) :=
  ⟨rfl, rfl, rfl, by decide +kernel, rfl, by decide +kernel, by decide +kernel⟩
def mr__are_numbers (g_is_number : List D → Option D) : Ms := (sRet (mAndV (mA isiF (aCons (mV 0) (aCons (mC (.raw (.ty "tuple"))) aNil))) (mA allF (aCons (mLc (itT (mV 0)) [2] (.nm 2) mYes (mA (guardN 2 g_is_number) (aCons (mV 2) (aCons (mV 1) aNil)))) aNil))))
theorem ok__are_numbers {f : Addr} {fd : FuncData} (F : L2.Fun K "_are_numbers" "_are_numbers" s__are_numbers f fd) (T : Txt K mg) {g_is_number : List D → Option D} (c_is_number : C8.Cal P w K mg base 1 "is_number" (spD K 2 g_is_number) []) : FnOk P w K mg base CX0 2 f fd ["values", "most"] (spD K 2 (runF 3 (mr__are_numbers g_is_number))) :=
  fn_ok F sc__are_numbers fun cdv A outer s H E hr => by
    have nd := sc__are_numbers.nd
    exact (ess_one (es_ret (ev_and (ev_callB call_isi cd_isi (by rfl) T.m_isinstance (by decide +kernel) (ea_cons (ev_v 0) (ea_cons (ev_bty "tuple" (by rfl) T.m_tuple (by decide +kernel)) ea_nil))) (ev_one (ev_callB (cr_all rfl) cd_all (by rfl) T.m_all (by decide +kernel) (ea_cons (ev_lc [("value", 2)] nd (ei_tup (ev_v 0)) (by refine blkOk_by ?_; skip; dsimp only [Cx.blk, compEnvC, cxOf, Cx.nox, Cx.wish, envOfC]; decide +kernel) (fun _ _ _ _ _ => (eg_nm 2 nd)) (fun _ _ _ _ _ => ets_nil) (fun _ _ _ _ _ => (ev_call c_is_number hr (by decide) (by rfl) (ea_cons (ev_v 2) (ea_cons (ev_v 1) ea_nil))))) ea_nil))))))
def G__are_numbers : List D → Option D := runF 3 (mr__are_numbers G_is_number)

abbrev s__need_cells : Stmt := topS 22
theorem sc__need_cells : FnScope ["cells", "row"] ["cells"] (defScope s__need_cells) :=
  ⟨rfl, rfl, rfl, by decide +kernel, rfl, by decide +kernel, by decide +kernel⟩
def mrE__need_cells (g__are_numbers : List D → Option D) : Me := (eSeq (eIf (mOr (mNot (mTr (mA isiF (aCons (mV 0) (aCons (mC (.raw (.ty "tuple"))) aNil))))) (mNot (mB (mCh leD leD (mC (.int 1)) (mA lenA (aCons (mV 0) aNil)) (mC (.int 4)))))) (eRaise "BadHouse" []) eNext)
      (eFor (itT (mV 0)) (.nm 1) (eSeq (eIf (mOr (mNot (mTr (mA (guardN 2 g__are_numbers) (aCons (mV 1) (aCons (mC (.int 9999)) aNil))))) (mNot (mB (mCh leD leD (mC (.int 1)) (mA lenA (aCons (mV 1) aNil)) (mC (.int 4)))))) (eRaise "BadHouse" []) eNext)
      (eIf (mB (m2 neD (mA lenA (aCons (mV 1) aNil)) (mA lenA (aCons (m2 ixD (mV 0) (mC (.int 0))) aNil)))) (eRaise "BadHouse" []) eNext))))
theorem ok__need_cells {f : Addr} {fd : FuncData} (F : L2.Fun K "_need_cells" "_need_cells" s__need_cells f fd) (T : Txt K mg) {g__are_numbers : List D → Option D} (c__are_numbers : C8.Cal P w K mg base 2 "_are_numbers" (spD K 2 g__are_numbers) []) : FnOk P w K mg base (L2.CX P w) 3 f fd ["cells"] (spE K 1 (runE 2 (mrE__need_cells g__are_numbers))) :=
  fn_okE F sc__need_cells fun cdv A outer s H E hr => by
    have nd := sc__need_cells.nd
    exact (ees_cons (ee_if (et_w (ew_or (et_not (et_tr (ev_callB call_isi cd_isi (by rfl) T.m_isinstance (by decide +kernel) (ea_cons (ev_v 0) (ea_cons (ev_bty "tuple" (by rfl) T.m_tuple (by decide +kernel)) ea_nil))))) (ew_or1 (et_not (et_chain op_le op_le od_le od_le ev_int (ev_callB (CallR.or call_len_seq call_len_dT) cd_lenA (by rfl) T.m_len (by decide +kernel) (ea_cons (ev_v 0) ea_nil)) (ev_gi (by rfl) T.g_MOST_ROWS)))))) (ees_one (ee_raise rfl (takes_of rfl rfl rfl rfl) T.ex (by decide +kernel) mg_s (by rfl))) ees_nil)
      (ees_one (ee_for (passes_of rfl) (ei_tup (ev_v 0)) (el_nm 1 nd) (ees_cons (ee_if (et_w (ew_or (et_not (et_tr (ev_call c__are_numbers hr (by decide) (by rfl) (ea_cons (ev_v 1) (ea_cons (ev_gi (by rfl) T.g_MOST_PARTS) ea_nil))))) (ew_or1 (et_not (et_chain op_le op_le od_le od_le ev_int (ev_callB (CallR.or call_len_seq call_len_dT) cd_lenA (by rfl) T.m_len (by decide +kernel) (ea_cons (ev_v 1) ea_nil)) (ev_gi (by rfl) T.g_MOST_COLUMNS)))))) (ees_one (ee_raise rfl (takes_of rfl rfl rfl rfl) T.ex (by decide +kernel) mg_s (by rfl))) ees_nil)
      (ees_one (ee_if (et_ne hr.units (ev_callB (CallR.or call_len_seq call_len_dT) cd_lenA (by rfl) T.m_len (by decide +kernel) (ea_cons (ev_v 1) ea_nil)) (ev_callB (CallR.or call_len_seq call_len_dT) cd_lenA (by rfl) T.m_len (by decide +kernel) (ea_cons (ev_ix (ev_v 0) ev_int) ea_nil))) (ees_one (ee_raise rfl (takes_of rfl rfl rfl rfl) T.ex (by decide +kernel) mg_s (by rfl))) ees_nil))))))
def GE__need_cells : List D → Option Re := runE 2 (mrE__need_cells G__are_numbers)

abbrev s__is_face : Stmt := topS 24
theorem sc__is_face : FnScope ["wall", "cells", "row", "column", "side"] ["wall", "cells"] (defScope s__is_face) :=
  ⟨rfl, rfl, rfl, by decide +kernel, rfl, by decide +kernel, by decide +kernel⟩
def mr__is_face (g_is_number : List D → Option D) : Ms := (sSeq (sIf (mOr (mNot (mTr (mA isiF (aCons (mV 0) (aCons (mC (.raw (.ty "tuple"))) aNil))))) (mB (m2 neD (mA lenA (aCons (mV 0) aNil)) (mC (.int 3))))) (sRet (mC (.bl false))) sNext)
      (sSeq (sUnp (.tp [(.nm 2), (.nm 3), (.nm 4)]) (mV 0))
      (sRet (mAndV (mA (guardN 2 g_is_number) (aCons (mV 2) (aCons (m2 subD (mA lenA (aCons (mV 1) aNil)) (mC (.int 1))) aNil))) (mAndV (mA (guardN 2 g_is_number) (aCons (mV 3) (aCons (m2 subD (mA lenA (aCons (m2 ixD (mV 1) (mC (.int 0))) aNil)) (mC (.int 1))) aNil))) (mA (guardN 2 g_is_number) (aCons (mV 4) (aCons (mC (.int 3)) aNil))))))))
theorem ok__is_face {f : Addr} {fd : FuncData} (F : L2.Fun K "_is_face" "_is_face" s__is_face f fd) (T : Txt K mg) {g_is_number : List D → Option D} (c_is_number : C8.Cal P w K mg base 1 "is_number" (spD K 2 g_is_number) []) : FnOk P w K mg base CX0 2 f fd ["wall", "cells"] (spD K 2 (runF 5 (mr__is_face g_is_number))) :=
  fn_ok F sc__is_face fun cdv A outer s H E hr => by
    have nd := sc__is_face.nd
    exact (ess_cons (es_if (et_w (ew_or (et_not (et_tr (ev_callB call_isi cd_isi (by rfl) T.m_isinstance (by decide +kernel) (ea_cons (ev_v 0) (ea_cons (ev_bty "tuple" (by rfl) T.m_tuple (by decide +kernel)) ea_nil))))) (ew_or1 (et_ne hr.units (ev_callB (CallR.or call_len_seq call_len_dT) cd_lenA (by rfl) T.m_len (by decide +kernel) (ea_cons (ev_v 0) ea_nil)) ev_int)))) (ess_one (es_ret ev_bl)) ess_nil)
      (ess_cons (es_unp (ev_v 0) (el_tp (els_cons (el_nm 2 nd) (els_cons (el_nm 3 nd) (els_cons (el_nm 4 nd) els_nil)))))
      (ess_one (es_ret (ev_and (ev_call c_is_number hr (by decide) (by rfl) (ea_cons (ev_v 2) (ea_cons (ev_subt (ev_callB (CallR.or call_len_seq call_len_dT) cd_lenA (by rfl) T.m_len (by decide +kernel) (ea_cons (ev_v 1) ea_nil)) ev_int) ea_nil))) (ev_and (ev_call c_is_number hr (by decide) (by rfl) (ea_cons (ev_v 3) (ea_cons (ev_subt (ev_callB (CallR.or call_len_seq call_len_dT) cd_lenA (by rfl) T.m_len (by decide +kernel) (ea_cons (ev_ix (ev_v 1) ev_int) ea_nil)) ev_int) ea_nil))) (ev_one (ev_call c_is_number hr (by decide) (by rfl) (ea_cons (ev_v 4) (ea_cons (ev_gi (by rfl) T.g_WEST) ea_nil))))))))))
def G__is_face : List D → Option D := runF 5 (mr__is_face G_is_number)

abbrev s_face_name : Stmt := topS 19
theorem sc_face_name : FnScope ["row", "column", "side"] ["row", "column", "side"] (defScope s_face_name) :=
  ⟨rfl, rfl, rfl, by decide +kernel, rfl, by decide +kernel, by decide +kernel⟩
def mr_face_name : Ms := (sSeq (sIf (mAnd (mB (m2 eqD (mV 2) (mC (.int 0)))) (mB (m2 gtD (mV 0) (mC (.int 0))))) (sRet (mA tupD (aCons (m2 subD (mV 0) (mC (.int 1))) (aCons (mV 1) (aCons (mC (.int 2)) aNil))))) sNext)
      (sSeq (sIf (mAnd (mB (m2 eqD (mV 2) (mC (.int 3)))) (mB (m2 gtD (mV 1) (mC (.int 0))))) (sRet (mA tupD (aCons (mV 0) (aCons (m2 subD (mV 1) (mC (.int 1))) (aCons (mC (.int 1)) aNil))))) sNext)
      (sRet (mA tupD (aCons (mV 0) (aCons (mV 1) (aCons (mV 2) aNil)))))))
theorem ok_face_name {f : Addr} {fd : FuncData} (F : L2.Fun K "face_name" "face_name" s_face_name f fd) (T : Txt K mg) : FnOk P w K mg base CX0 1 f fd ["row", "column", "side"] (spD K 3 (runF 3 (mr_face_name))) :=
  fn_ok F sc_face_name fun cdv A outer s H E hr => by
    have nd := sc_face_name.nd
    exact (ess_cons (es_if (et_w (ew_and (et_eq hr.units (ev_v 2) (ev_gi (by rfl) T.g_NORTH)) (ew_and1 (et_gt (ev_v 0) ev_int)))) (ess_one (es_ret (ev_tup (ea_cons (ev_subt (ev_v 0) ev_int) (ea_cons (ev_v 1) (ea_cons (ev_gi (by rfl) T.g_SOUTH) ea_nil)))))) ess_nil)
      (ess_cons (es_if (et_w (ew_and (et_eq hr.units (ev_v 2) (ev_gi (by rfl) T.g_WEST)) (ew_and1 (et_gt (ev_v 1) ev_int)))) (ess_one (es_ret (ev_tup (ea_cons (ev_v 0) (ea_cons (ev_subt (ev_v 1) ev_int) (ea_cons (ev_gi (by rfl) T.g_EAST) ea_nil)))))) ess_nil)
      (ess_one (es_ret (ev_tup (ea_cons (ev_v 0) (ea_cons (ev_v 1) (ea_cons (ev_v 2) ea_nil))))))))
def G_face_name : List D → Option D := runF 3 (mr_face_name)

abbrev s_shut_faces : Stmt := topS 20
theorem sc_shut_faces : FnScope ["walls", "row", "column", "side"] ["walls"] (defScope s_shut_faces) :=
  ⟨rfl, rfl, rfl, by decide +kernel, rfl, by decide +kernel, by decide +kernel⟩
def mr_shut_faces (g_face_name : List D → Option D) : Ms := (sRet (mDc (itT (mV 0)) [1, 2, 3] (.tp [(.nm 1), (.nm 2), (.nm 3)]) mYes (mA (guardN 3 g_face_name) (aCons (mV 1) (aCons (mV 2) (aCons (mV 3) aNil)))) (mC (.bl true))))
theorem ok_shut_faces {f : Addr} {fd : FuncData} (F : L2.Fun K "shut_faces" "shut_faces" s_shut_faces f fd) (T : Txt K mg) {g_face_name : List D → Option D} (c_face_name : C8.Cal P w K mg base 1 "face_name" (spD K 3 g_face_name) []) : FnOk P w K mg base CX0 2 f fd ["walls"] (spD K 1 (runF 4 (mr_shut_faces g_face_name))) :=
  fn_ok F sc_shut_faces fun cdv A outer s H E hr => by
    have nd := sc_shut_faces.nd
    exact (ess_one (es_ret (ev_dc [("row", 1), ("column", 2), ("side", 3)] nd (ei_tup (ev_v 0)) (by refine blkOk_by ?_; skip; dsimp only [Cx.blk, compEnvC, cxOf, Cx.nox, Cx.wish, envOfC]; decide +kernel) (fun _ _ _ _ _ => (eg_tp (egs_cons (eg_nm 1 nd) (egs_cons (eg_nm 2 nd) (egs_cons (eg_nm 3 nd) egs_nil))))) (fun _ _ _ _ _ => ets_nil) (fun _ _ _ _ _ => (ev_call c_face_name hr (by decide) (by rfl) (ea_cons (ev_v 1) (ea_cons (ev_v 2) (ea_cons (ev_v 3) ea_nil))))) (fun _ _ _ _ _ => ev_bl) (hu_of hr))))
def G_shut_faces : List D → Option D := runF 4 (mr_shut_faces G_face_name)

abbrev s__need_faces : Stmt := topS 23
theorem sc__need_faces : FnScope ["walls", "cells", "wall"] ["walls", "cells"] (defScope s__need_faces) :=
  ⟨rfl, rfl, rfl, by decide +kernel, rfl, by decide +kernel, by decide +kernel⟩
def mrE__need_faces (g__is_face : List D → Option D) (g_shut_faces : List D → Option D) : Me := (eSeq (eIf (mOr (mNot (mTr (mA isiF (aCons (mV 0) (aCons (mC (.raw (.ty "tuple"))) aNil))))) (mB (m2 gtD (mA lenA (aCons (mV 0) aNil)) (mC (.int 40))))) (eRaise "BadHouse" []) eNext)
      (eSeq (eFor (itT (mV 0)) (.nm 2) (eIf (mNot (mTr (mA (guardN 2 g__is_face) (aCons (mV 2) (aCons (mV 1) aNil))))) (eRaise "BadHouse" []) eNext))
      (eIf (mB (m2 ltD (mA lenA (aCons (mA (guardN 1 g_shut_faces) (aCons (mV 0) aNil)) aNil)) (mA lenA (aCons (mV 0) aNil)))) (eRaise "BadHouse" []) eNext)))
theorem ok__need_faces {f : Addr} {fd : FuncData} (F : L2.Fun K "_need_faces" "_need_faces" s__need_faces f fd) (T : Txt K mg) {g__is_face : List D → Option D} {g_shut_faces : List D → Option D} (c__is_face : C8.Cal P w K mg base 2 "_is_face" (spD K 2 g__is_face) []) (c_shut_faces : C8.Cal P w K mg base 2 "shut_faces" (spD K 1 g_shut_faces) []) : FnOk P w K mg base (L2.CX P w) 3 f fd ["walls", "cells"] (spE K 2 (runE 3 (mrE__need_faces g__is_face g_shut_faces))) :=
  fn_okE F sc__need_faces fun cdv A outer s H E hr => by
    have nd := sc__need_faces.nd
    exact (ees_cons (ee_if (et_w (ew_or (et_not (et_tr (ev_callB call_isi cd_isi (by rfl) T.m_isinstance (by decide +kernel) (ea_cons (ev_v 0) (ea_cons (ev_bty "tuple" (by rfl) T.m_tuple (by decide +kernel)) ea_nil))))) (ew_or1 (et_gt (ev_callB (CallR.or call_len_seq call_len_dT) cd_lenA (by rfl) T.m_len (by decide +kernel) (ea_cons (ev_v 0) ea_nil)) (ev_gi (by rfl) T.g_MOST_WALLS))))) (ees_one (ee_raise rfl (takes_of rfl rfl rfl rfl) T.ex (by decide +kernel) mg_s (by rfl))) ees_nil)
      (ees_cons (ee_for (passes_of rfl) (ei_tup (ev_v 0)) (el_nm 2 nd) (ees_one (ee_if (et_not (et_tr (ev_call c__is_face hr (by decide) (by rfl) (ea_cons (ev_v 2) (ea_cons (ev_v 1) ea_nil))))) (ees_one (ee_raise rfl (takes_of rfl rfl rfl rfl) T.ex (by decide +kernel) mg_s (by rfl))) ees_nil)))
      (ees_one (ee_if (et_lt (ev_callB (CallR.or call_len_seq call_len_dT) cd_lenA (by rfl) T.m_len (by decide +kernel) (ea_cons (ev_call c_shut_faces hr (by decide) (by rfl) (ea_cons (ev_v 0) ea_nil)) ea_nil)) (ev_callB (CallR.or call_len_seq call_len_dT) cd_lenA (by rfl) T.m_len (by decide +kernel) (ea_cons (ev_v 0) ea_nil))) (ees_one (ee_raise rfl (takes_of rfl rfl rfl rfl) T.ex (by decide +kernel) mg_s (by rfl))) ees_nil))))
def GE__need_faces : List D → Option Re := runE 3 (mrE__need_faces G__is_face G_shut_faces)

abbrev s__need_heats : Stmt := topS 21
theorem sc__need_heats : FnScope ["heats"] ["heats"] (defScope s__need_heats) :=
  ⟨rfl, rfl, rfl, by decide +kernel, rfl, by decide +kernel, by decide +kernel⟩
def mrE__need_heats (g__are_numbers : List D → Option D) : Me := (eIf (mOr (mNot (mTr (mA (guardN 2 g__are_numbers) (aCons (mV 0) (aCons (mC (.int 9)) aNil))))) (mB (m2 neD (mA lenA (aCons (mV 0) aNil)) (mC (.int 5))))) (eRaise "BadHouse" []) eNext)
theorem ok__need_heats {f : Addr} {fd : FuncData} (F : L2.Fun K "_need_heats" "_need_heats" s__need_heats f fd) (T : Txt K mg) {g__are_numbers : List D → Option D} (c__are_numbers : C8.Cal P w K mg base 2 "_are_numbers" (spD K 2 g__are_numbers) []) : FnOk P w K mg base (L2.CX P w) 3 f fd ["heats"] (spE K 1 (runE 1 (mrE__need_heats g__are_numbers))) :=
  fn_okE F sc__need_heats fun cdv A outer s H E hr => by
    have nd := sc__need_heats.nd
    exact (ees_one (ee_if (et_w (ew_or (et_not (et_tr (ev_call c__are_numbers hr (by decide) (by rfl) (ea_cons (ev_v 0) (ea_cons (ev_gi (by rfl) T.g_MOST_HEAT) ea_nil))))) (ew_or1 (et_ne hr.units (ev_callB (CallR.or call_len_seq call_len_dT) cd_lenA (by rfl) T.m_len (by decide +kernel) (ea_cons (ev_v 0) ea_nil)) ev_int)))) (ees_one (ee_raise rfl (takes_of rfl rfl rfl rfl) T.ex (by decide +kernel) mg_s (by rfl))) ees_nil))
def GE__need_heats : List D → Option Re := runE 1 (mrE__need_heats G__are_numbers)

abbrev s_need_house : Stmt := topS 17
theorem sc_need_house : FnScope ["house", "heats", "cells", "walls"] ["house"] (defScope s_need_house) :=
  ⟨rfl, rfl, rfl, by decide +kernel, rfl, by decide +kernel, by decide +kernel⟩
def mrE_need_house (g__need_cells : List D → Option Re) (g__need_faces : List D → Option Re) (g__need_heats : List D → Option Re) : Me := (eSeq (eIf (mOr (mNot (mTr (mA isiF (aCons (mV 0) (aCons (mC (.raw (.ty "tuple"))) aNil))))) (mB (m2 neD (mA lenA (aCons (mV 0) aNil)) (mC (.int 3))))) (eRaise "BadHouse" []) eNext)
      (eSeq (eP (sUnp (.tp [(.nm 1), (.nm 2), (.nm 3)]) (mV 0)))
      (eSeq (eDrop (guardE 1 g__need_heats) (aCons (mV 1) aNil))
      (eSeq (eDrop (guardE 1 g__need_cells) (aCons (mV 2) aNil))
      (eDrop (guardE 2 g__need_faces) (aCons (mV 3) (aCons (mV 2) aNil)))))))
theorem ok_need_house {f : Addr} {fd : FuncData} (F : L2.Fun K "need_house" "need_house" s_need_house f fd) (T : Txt K mg) {g__need_cells : List D → Option Re} {g__need_faces : List D → Option Re} {g__need_heats : List D → Option Re} (c__need_cells : CalE P w K mg base 3 "_need_cells" (spE K 1 g__need_cells)) (c__need_faces : CalE P w K mg base 3 "_need_faces" (spE K 2 g__need_faces)) (c__need_heats : CalE P w K mg base 3 "_need_heats" (spE K 1 g__need_heats)) : FnOk P w K mg base (L2.CX P w) 4 f fd ["house"] (spE K 1 (runE 4 (mrE_need_house g__need_cells g__need_faces g__need_heats))) :=
  fn_okE F sc_need_house fun cdv A outer s H E hr => by
    have nd := sc_need_house.nd
    exact (ees_cons (ee_if (et_w (ew_or (et_not (et_tr (ev_callB call_isi cd_isi (by rfl) T.m_isinstance (by decide +kernel) (ea_cons (ev_v 0) (ea_cons (ev_bty "tuple" (by rfl) T.m_tuple (by decide +kernel)) ea_nil))))) (ew_or1 (et_ne hr.units (ev_callB (CallR.or call_len_seq call_len_dT) cd_lenA (by rfl) T.m_len (by decide +kernel) (ea_cons (ev_v 0) ea_nil)) ev_int)))) (ees_one (ee_raise rfl (takes_of rfl rfl rfl rfl) T.ex (by decide +kernel) mg_s (by rfl))) ees_nil)
      (ees_cons (ee_n (es_unp (ev_v 0) (el_tp (els_cons (el_nm 1 nd) (els_cons (el_nm 2 nd) (els_cons (el_nm 3 nd) els_nil))))))
      (ees_cons (ee_drop (pe_cE c__need_heats (takes_of rfl rfl rfl rfl) hr (by decide) (by rfl) (ea_cons (ev_v 1) ea_nil)))
      (ees_cons (ee_drop (pe_cE c__need_cells (takes_of rfl rfl rfl rfl) hr (by decide) (by rfl) (ea_cons (ev_v 2) ea_nil)))
      (ees_one (ee_drop (pe_cE c__need_faces (takes_of rfl rfl rfl rfl) hr (by decide) (by rfl) (ea_cons (ev_v 3) (ea_cons (ev_v 2) ea_nil)))))))))
def GE_need_house : List D → Option Re := runE 4 (mrE_need_house GE__need_cells GE__need_faces GE__need_heats)

abbrev s__numbers_behind : Stmt := topS 35
theorem sc__numbers_behind : FnScope ["word", "rows", "other", "numbers"] ["word", "rows"] (defScope s__numbers_behind) :=
  ⟨rfl, rfl, rfl, by decide +kernel, rfl, by decide +kernel, by decide +kernel⟩
def mr__numbers_behind : Ms := (sRet (mA tupF (aCons (mLc (itL (mV 1)) [2, 3] (.tp [(.nm 2), (.nm 3)]) (mB (m2 eqD (mV 2) (mV 0))) (mV 3)) aNil)))
theorem ok__numbers_behind {f : Addr} {fd : FuncData} (F : L2.Fun K "_numbers_behind" "_numbers_behind" s__numbers_behind f fd) (T : Txt K mg) : FnOk P w K mg base CX0 1 f fd ["word", "rows"] (spD K 2 (runF 4 (mr__numbers_behind))) :=
  fn_ok F sc__numbers_behind fun cdv A outer s H E hr => by
    have nd := sc__numbers_behind.nd
    exact (ess_one (es_ret (ev_callT call_tuple_of cd_tuple (by rfl) T.m_tuple (by decide +kernel) (ea_cons (ev_lc [("other", 2), ("numbers", 3)] nd (ei_list (ev_v 1)) (by refine blkOk_by ?_; skip; dsimp only [Cx.blk, compEnvC, cxOf, Cx.nox, Cx.wish, envOfC]; decide +kernel) (fun _ _ _ _ _ => (eg_tp (egs_cons (eg_nm 2 nd) (egs_cons (eg_nm 3 nd) egs_nil)))) (fun _ _ _ _ _ => (ets_one (et_eq hr.units (ev_v 2) (ev_v 0)))) (fun _ _ _ _ _ => (ev_v 3))) ea_nil))))
def G__numbers_behind : List D → Option D := runF 4 (mr__numbers_behind)

abbrev s__is_count : Stmt := topS 33
theorem sc__is_count : FnScope ["word", "many"] ["word", "many"] (defScope s__is_count) :=
  ⟨rfl, rfl, rfl, by decide +kernel, rfl, by decide +kernel, by decide +kernel⟩
def mr__is_count : Ms := (sSeq (sIf (mB (m2 eqD (mV 0) (mC (.str "heats")))) (sRet (m2 eqD (mV 1) (mC (.int 5)))) sNext)
      (sSeq (sIf (mB (m2 eqD (mV 0) (mC (.str "wall")))) (sRet (m2 eqD (mV 1) (mC (.int 3)))) sNext)
      (sRet (mAndV (m2 eqD (mV 0) (mC (.str "row"))) (m2 gtD (mV 1) (mC (.int 0)))))))
theorem ok__is_count {f : Addr} {fd : FuncData} (F : L2.Fun K "_is_count" "_is_count" s__is_count f fd) (T : Txt K mg) : FnOk P w K mg base CX0 1 f fd ["word", "many"] (spD K 2 (runF 2 (mr__is_count))) :=
  fn_ok F sc__is_count fun cdv A outer s H E hr => by
    have nd := sc__is_count.nd
    exact (ess_cons (es_if (et_eq hr.units (ev_v 0) (ev_gs (by rfl) T.g_HEATS)) (ess_one (es_ret (ev_eq hr.units (ev_v 1) ev_int))) ess_nil)
      (ess_cons (es_if (et_eq hr.units (ev_v 0) (ev_gs (by rfl) T.g_WALL)) (ess_one (es_ret (ev_eq hr.units (ev_v 1) ev_int))) ess_nil)
      (ess_one (es_ret (ev_and (ev_eq hr.units (ev_v 0) (ev_gs (by rfl) T.g_ROW)) (ev_one (ev_gt (ev_v 1) ev_int)))))))
def G__is_count : List D → Option D := runF 2 (mr__is_count)

abbrev s__is_written_number : Stmt := topS 34
theorem sc__is_written_number : FnScope ["figures"] ["figures"] (defScope s__is_written_number) :=
  ⟨rfl, rfl, rfl, by decide +kernel, rfl, by decide +kernel, by decide +kernel⟩
def mr__is_written_number : Ms := (sSeq (sIf (mOr (mNot (mTr (m1 ascD (mV 0)))) (mOr (mNot (mTr (m1 digD (mV 0)))) (mB (m2 gtD (mA lenS (aCons (mV 0) aNil)) (mC (.int 4)))))) (sRet (mC (.bl false))) sNext)
      (sRet (mOrV (m2 eqD (mV 0) (mC (.str "0"))) (m2 neD (m2 ixS (mV 0) (mC (.int 0))) (mC (.str "0"))))))
theorem ok__is_written_number {f : Addr} {fd : FuncData} (F : L2.Fun K "_is_written_number" "_is_written_number" s__is_written_number f fd) (T : Txt K mg) : FnOk P w K mg base CX0 1 f fd ["figures"] (spD K 1 (runF 1 (mr__is_written_number))) :=
  fn_ok F sc__is_written_number fun cdv A outer s H E hr => by
    have nd := sc__is_written_number.nd
    exact (ess_cons (es_if (et_w (ew_or (et_not (et_tr (ev_asc (ev_v 0)))) (ew_or (et_not (et_tr (ev_dig (ev_v 0)))) (ew_or1 (et_gt (ev_callB call_len_str cd_lenS (by rfl) T.m_len (by decide +kernel) (ea_cons (ev_v 0) ea_nil)) (ev_gi (by rfl) T.g_MOST_FIGURES)))))) (ess_one (es_ret ev_bl)) ess_nil)
      (ess_one (es_ret (ev_or (ev_eq hr.units (ev_v 0) ev_str) (ev_one (ev_ne hr.units (ev_ixS (ev_v 0) ev_int) ev_str))))))
def G__is_written_number : List D → Option D := runF 1 (mr__is_written_number)

abbrev s__read_row : Stmt := topS 32
theorem sc__read_row : FnScope ["row", "word", "numbers", "number"] ["row"] (defScope s__read_row) :=
  ⟨rfl, rfl, rfl, by decide +kernel, rfl, by decide +kernel, by decide +kernel⟩
def mrE__read_row (g__is_count : List D → Option D) (g__is_written_number : List D → Option D) : Me := (eSeq (eP (sStar 1 2 (m2 splitD (mV 0) (mC (.str " ")))))
      (eSeq (eIf (mNot (mTr (mA (guardN 2 g__is_count) (aCons (mV 1) (aCons (mA lenA (aCons (mV 2) aNil)) aNil))))) (eRaise "BadText" []) eNext)
      (eSeq (eIf (mNot (mTr (mA allF (aCons (mLc (itL (mV 2)) [3] (.nm 3) mYes (mA (guardN 1 g__is_written_number) (aCons (mV 3) aNil))) aNil)))) (eRaise "BadText" []) eNext)
      (eP (sRet (mA tupD (aCons (mV 1) (aCons (mA tupF (aCons (mLc (itL (mV 2)) [3] (.nm 3) mYes (mA intS (aCons (mV 3) aNil))) aNil)) aNil))))))))
theorem ok__read_row {f : Addr} {fd : FuncData} (F : L2.Fun K "_read_row" "_read_row" s__read_row f fd) (T : Txt K mg) {g__is_count : List D → Option D} {g__is_written_number : List D → Option D} (c__is_count : C8.Cal P w K mg base 1 "_is_count" (spD K 2 g__is_count) []) (c__is_written_number : C8.Cal P w K mg base 1 "_is_written_number" (spD K 1 g__is_written_number) []) : FnOk P w K mg base (L2.CX P w) 2 f fd ["row"] (spE K 1 (runE 4 (mrE__read_row g__is_count g__is_written_number))) :=
  fn_okE F sc__read_row fun cdv A outer s H E hr => by
    have nd := sc__read_row.nd
    exact (ees_cons (ee_n (es_star 1 2 nd (ev_split (ev_v 0) ev_str)))
      (ees_cons (ee_if (et_not (et_tr (ev_call c__is_count hr (by decide) (by rfl) (ea_cons (ev_v 1) (ea_cons (ev_callB (CallR.or call_len_seq call_len_dT) cd_lenA (by rfl) T.m_len (by decide +kernel) (ea_cons (ev_v 2) ea_nil)) ea_nil))))) (ees_one (ee_raise rfl (takes_of rfl rfl rfl rfl) T.ex (by decide +kernel) mg_s (by rfl))) ees_nil)
      (ees_cons (ee_if (et_not (et_tr (ev_callB (cr_all rfl) cd_all (by rfl) T.m_all (by decide +kernel) (ea_cons (ev_lc [("number", 3)] nd (ei_list (ev_v 2)) (by refine blkOk_by ?_; skip; dsimp only [Cx.blk, compEnvC, cxOf, Cx.nox, Cx.wish, envOfC]; decide +kernel) (fun _ _ _ _ _ => (eg_nm 3 nd)) (fun _ _ _ _ _ => ets_nil) (fun _ _ _ _ _ => (ev_call c__is_written_number hr (by decide) (by rfl) (ea_cons (ev_v 3) ea_nil)))) ea_nil)))) (ees_one (ee_raise rfl (takes_of rfl rfl rfl rfl) T.ex (by decide +kernel) mg_s (by rfl))) ees_nil)
      (ees_one (ee_n (es_ret (ev_tup (ea_cons (ev_v 1) (ea_cons (ev_callT call_tuple_of cd_tuple (by rfl) T.m_tuple (by decide +kernel) (ea_cons (ev_lc [("number", 3)] nd (ei_list (ev_v 2)) (by refine blkOk_by ?_; skip; dsimp only [Cx.blk, compEnvC, cxOf, Cx.nox, Cx.wish, envOfC]; decide +kernel) (fun _ _ _ _ _ => (eg_nm 3 nd)) (fun _ _ _ _ _ => ets_nil) (fun _ _ _ _ _ => (ev_callT call_int_str cd_intS (by rfl) T.m_int (by decide +kernel) (ea_cons (ev_v 3) ea_nil)))) ea_nil)) ea_nil)))))))))
def GE__read_row : List D → Option Re := runE 4 (mrE__read_row G__is_count G__is_written_number)

abbrev s_read : Stmt := topS 31
theorem sc_read : FnScope ["text", "rows", "row", "heats", "cells", "walls", "word", "_", "house"] ["text"] (defScope s_read) :=
  ⟨rfl, rfl, rfl, by decide +kernel, rfl, by decide +kernel, by decide +kernel⟩
def mrE_read (g__numbers_behind : List D → Option D) (g__read_row : List D → Option Re) (g_need_house : List D → Option Re) : Me := (eSeq (eSetLc 1 (itL (m2 splitD (mV 0) (mC (.str "\n")))) [2] (.nm 2) (guardE 1 g__read_row) (aCons (mV 2) aNil))
      (eSeq (eP (sSet 3 (mA (guardN 2 g__numbers_behind) (aCons (mC (.str "heats")) (aCons (mV 1) aNil)))))
      (eSeq (eP (sSet 4 (mA (guardN 2 g__numbers_behind) (aCons (mC (.str "row")) (aCons (mV 1) aNil)))))
      (eSeq (eP (sSet 5 (mA (guardN 2 g__numbers_behind) (aCons (mC (.str "wall")) (aCons (mV 1) aNil)))))
      (eSeq (eIf (mB (m2 neD (mLc (itL (mV 1)) [6, 7] (.tp [(.nm 6), (.nm 7)]) mYes (mV 6)) (m2 addD (m2 addD (mA lstD (aCons (mC (.str "heats")) aNil)) (m2 repD (mA lstD (aCons (mC (.str "row")) aNil)) (mA lenA (aCons (mV 4) aNil)))) (m2 repD (mA lstD (aCons (mC (.str "wall")) aNil)) (mA lenA (aCons (mV 5) aNil)))))) (eRaise "BadText" []) eNext)
      (eSeq (eP (sSet 8 (mA tupD (aCons (m2 ixD (mV 3) (mC (.int 0))) (aCons (mV 4) (aCons (mV 5) aNil))))))
      (eSeq (eDrop (guardE 1 g_need_house) (aCons (mV 8) aNil))
      (eP (sRet (mV 8))))))))))
theorem ok_read {f : Addr} {fd : FuncData} (F : L2.Fun K "read" "read" s_read f fd) (T : Txt K mg) {g__numbers_behind : List D → Option D} {g__read_row : List D → Option Re} {g_need_house : List D → Option Re} (c__numbers_behind : C8.Cal P w K mg base 1 "_numbers_behind" (spD K 2 g__numbers_behind) []) (c__read_row : CalE P w K mg base 2 "_read_row" (spE K 1 g__read_row)) (c_need_house : CalE P w K mg base 4 "need_house" (spE K 1 g_need_house)) : FnOk P w K mg base (L2.CX P w) 5 f fd ["text"] (spE K 1 (runE 9 (mrE_read g__numbers_behind g__read_row g_need_house))) :=
  fn_okE F sc_read fun cdv A outer s H E hr => by
    have nd := sc_read.nd
    exact (ees_cons (ee_setLc 1 [("row", 2)] nd (takes_of rfl rfl rfl rfl) (ei_list (ev_split (ev_v 0) ev_str)) (by refine blkOk_by ?_; (try dsimp only [Cx.blk, compEnvC, cxOf, Cx.nox, Cx.wish, envOfC]); decide +kernel) (fun _ _ _ _ _ => (eg_nm 2 nd)) (fun _ _ _ _ _ _ E hx => pe_cEx c__read_row E hx hr (by decide) (by rfl) (ea_cons (ev_v 2) ea_nil)))
      (ees_cons (ee_n (es_set 3 nd (ev_call c__numbers_behind hr (by decide) (by rfl) (ea_cons (ev_gs (by rfl) T.g_HEATS) (ea_cons (ev_v 1) ea_nil)))))
      (ees_cons (ee_n (es_set 4 nd (ev_call c__numbers_behind hr (by decide) (by rfl) (ea_cons (ev_gs (by rfl) T.g_ROW) (ea_cons (ev_v 1) ea_nil)))))
      (ees_cons (ee_n (es_set 5 nd (ev_call c__numbers_behind hr (by decide) (by rfl) (ea_cons (ev_gs (by rfl) T.g_WALL) (ea_cons (ev_v 1) ea_nil)))))
      (ees_cons (ee_if (et_ne hr.units (ev_lc [("word", 6), ("_", 7)] nd (ei_list (ev_v 1)) (by refine blkOk_by ?_; skip; dsimp only [Cx.blk, compEnvC, cxOf, Cx.nox, Cx.wish, envOfC]; decide +kernel) (fun _ _ _ _ _ => (eg_tp (egs_cons (eg_nm 6 nd) (egs_cons (eg_nm 7 nd) egs_nil)))) (fun _ _ _ _ _ => ets_nil) (fun _ _ _ _ _ => (ev_v 6))) (ev_add (ev_add (ev_lst (ea_cons (ev_gs (by rfl) T.g_HEATS) ea_nil)) (ev_rep (ev_lst (ea_cons (ev_gs (by rfl) T.g_ROW) ea_nil)) (ev_callB (CallR.or call_len_seq call_len_dT) cd_lenA (by rfl) T.m_len (by decide +kernel) (ea_cons (ev_v 4) ea_nil)))) (ev_rep (ev_lst (ea_cons (ev_gs (by rfl) T.g_WALL) ea_nil)) (ev_callB (CallR.or call_len_seq call_len_dT) cd_lenA (by rfl) T.m_len (by decide +kernel) (ea_cons (ev_v 5) ea_nil))))) (ees_one (ee_raise rfl (takes_of rfl rfl rfl rfl) T.ex (by decide +kernel) mg_s (by rfl))) ees_nil)
      (ees_cons (ee_n (es_set 8 nd (ev_tup (ea_cons (ev_ix (ev_v 3) ev_int) (ea_cons (ev_v 4) (ea_cons (ev_v 5) ea_nil))))))
      (ees_cons (ee_drop (pe_cE c_need_house (takes_of rfl rfl rfl rfl) hr (by decide) (by rfl) (ea_cons (ev_v 8) ea_nil)))
      (ees_one (ee_n (es_ret (ev_v 8)))))))))))
def GE_read : List D → Option Re := runE 9 (mrE_read G__numbers_behind GE__read_row GE_need_house)

abbrev s__law_cell_at : Stmt := topS 37
theorem sc__law_cell_at : FnScope ["_law_script", "_law_k"] ["_law_script", "_law_k"] (defScope s__law_cell_at) :=
  ⟨rfl, rfl, rfl, by decide +kernel, rfl, by decide +kernel, by decide +kernel⟩
def mr__law_cell_at : Ms := (sSeq (sIf (mB (m2 ltD (mV 1) (mA lenA (aCons (mV 0) aNil)))) (sRet (m2 ixD (mV 0) (mV 1))) sNext)
      (sRet (mC (.int 0))))
theorem ok__law_cell_at {f : Addr} {fd : FuncData} (F : L2.Fun K "_law_cell_at" "_law_cell_at" s__law_cell_at f fd) (T : Txt K mg) : FnOk P w K mg base CX0 1 f fd ["_law_script", "_law_k"] (spD K 2 (runF 2 (mr__law_cell_at))) :=
  fn_ok F sc__law_cell_at fun cdv A outer s H E hr => by
    have nd := sc__law_cell_at.nd
    exact (ess_cons (es_if (et_lt (ev_v 1) (ev_callB (CallR.or call_len_seq call_len_dT) cd_lenA (by rfl) T.m_len (by decide +kernel) (ea_cons (ev_v 0) ea_nil))) (ess_one (es_ret (ev_ix (ev_v 0) (ev_v 1)))) ess_nil)
      (ess_one (es_ret ev_int)))
def G__law_cell_at : List D → Option D := runF 2 (mr__law_cell_at)

abbrev s__law_dice : Stmt := topS 38
theorem sc__law_dice : FnScope ["_law_cell"] ["_law_cell"] (defScope s__law_dice) :=
  ⟨rfl, rfl, rfl, by decide +kernel, rfl, by decide +kernel, by decide +kernel⟩
def mr__law_dice : Ms := (sRet (mA lstD (aCons (m2 modD (mV 0) (mC (.int 2147483647))) (aCons (m2 mulD (m2 divW (mV 0) (mC (.int 2147483647))) (mA intB (aCons (m2 geD (mV 0) (m2 powD (mC (.int 10)) (mC (.int 18)))) aNil))) aNil))))
theorem ok__law_dice {f : Addr} {fd : FuncData} (F : L2.Fun K "_law_dice" "_law_dice" s__law_dice f fd) (T : Txt K mg) : FnOk P w K mg base CX0 1 f fd ["_law_cell"] (spD K 1 (runF 1 (mr__law_dice))) :=
  fn_ok F sc__law_dice fun cdv A outer s H E hr => by
    have nd := sc__law_dice.nd
    exact (ess_one (es_ret (ev_lst (ea_cons (ev_mod (ev_v 0) ev_int) (ea_cons (ev_mul (ev_divW (ev_v 0) ev_int) (ev_callT call_int1 cd_intB (by rfl) T.m_int (by decide +kernel) (ea_cons (ev_ge (ev_v 0) (ev_pow ev_int ev_int)) ea_nil))) ea_nil)))))
def G__law_dice : List D → Option D := runF 1 (mr__law_dice)

abbrev s__law_roll : Stmt := topS 39
theorem sc__law_roll : FnScope ["_law_dice_here", "_law_most", "_law_found"] ["_law_dice_here", "_law_most"] (defScope s__law_roll) :=
  ⟨rfl, rfl, rfl, by decide +kernel, rfl, by decide +kernel, by decide +kernel⟩
def mr__law_roll : Ms := (sSeq (sIf (mB (m2 gtD (m2 ixD (mV 0) (mC (.int 1))) (mC (.int 0)))) (sSeq (sSetF 2 (m2 modD (m2 ixD (mV 0) (mC (.int 1))) (mV 1)))
      (sSeq (ySub 0 (mC (.int 1)) (m2 divD (m2 ixD (mV 0) (mC (.int 1))) (mV 1)))
      (sRet (mV 2)))) sNext)
      (sSeq (ySub 0 (mC (.int 0)) (m2 modD (m2 addD (m2 mulD (m2 ixD (mV 0) (mC (.int 0))) (mC (.int 48271))) (mC (.int 11))) (mC (.int 2147483647))))
      (sRet (m2 modD (m2 divD (m2 ixD (mV 0) (mC (.int 0))) (mC (.int 7))) (mV 1)))))
theorem ok__law_roll {f : Addr} {fd : FuncData} (F : L2.Fun K "_law_roll" "_law_roll" s__law_roll f fd) (T : Txt K mg) : FnOk P w K mg base CX0 1 f fd ["_law_dice_here", "_law_most"] (spX K 2 (runX 3 (mr__law_roll))) :=
  fn_okX F sc__law_roll (by decide) fun cdv A outer s H E hr => by
    have nd := sc__law_roll.nd
    exact (ess_cons (es_if (et_gt (ev_ix (ev_v 0) ev_int) ev_int) (ess_cons (es_setF 2 nd (ev_mod (ev_ix (ev_v 0) ev_int) (ev_v 1)))
      (ess_cons (ys_sub 0 (ev_div (ev_ix (ev_v 0) ev_int) (ev_v 1)) ev_int)
      (ess_one (es_ret (ev_v 2))))) ess_nil)
      (ess_cons (ys_sub 0 (ev_mod (ev_add (ev_mul (ev_ix (ev_v 0) ev_int) ev_int) ev_int) ev_int) ev_int)
      (ess_one (es_ret (ev_mod (ev_div (ev_ix (ev_v 0) ev_int) ev_int) (ev_v 1))))))
def G__law_roll : List D → List D → Option (D × List D) := runX 3 (mr__law_roll)

abbrev s__law_heats : Stmt := topS 40
theorem sc__law_heats : FnScope ["_law_dice_here", "_law_sort", "_law_out", "_law_k", "_law_heat"] ["_law_dice_here"] (defScope s__law_heats) :=
  ⟨rfl, rfl, rfl, by decide +kernel, rfl, by decide +kernel, by decide +kernel⟩
def mr__law_heats (g__law_roll : List D → List D → Option (D × List D)) : Ms := (sSeq (ySet 1 (xCall 0 2 g__law_roll (aCons (mC (.int 4)) aNil)))
      (sSeq (sSetO 2 (mA lstD aNil))
      (sSeq (sFor (itR1 (aCons (mC (.int 5)) aNil)) (.nm 3) (sSeq (ySet 4 (x2 ixD (xA lstD (xCons (xCall 0 2 g__law_roll (aCons (mC (.int 4)) aNil)) (xCons (xCall 0 2 g__law_roll (aCons (mC (.int 10)) aNil)) (xCons (xP (mC (.int 0))) (xCons (x2 addD (xP (mC (.int 1))) (xCall 0 2 g__law_roll (aCons (mC (.int 3)) aNil))) xNil))))) (xP (mV 1))))
      (yApp 2 (x2 mulD (xP (mV 4)) (xA intB (xCons (x2 gtD (xCall 0 2 g__law_roll (aCons (mC (.int 6)) aNil)) (xP (mC (.int 0)))) xNil))))))
      (sRet (mA tupF (aCons (mV 2) aNil))))))
theorem ok__law_heats {f : Addr} {fd : FuncData} (F : L2.Fun K "_law_heats" "_law_heats" s__law_heats f fd) (T : Txt K mg) {g__law_roll : List D → List D → Option (D × List D)} (c__law_roll : C8.Cal P w K mg base 1 "_law_roll" (spX K 2 g__law_roll) []) : FnOk P w K mg base CX0 2 f fd ["_law_dice_here"] (spX K 1 (runX 5 (mr__law_heats g__law_roll))) :=
  fn_okX F sc__law_heats (by decide) fun cdv A outer s H E hr => by
    have nd := sc__law_heats.nd
    exact (ess_cons (ys_set 1 nd (xv_call 0 c__law_roll hr (by decide) (by rfl) (ea_cons ev_int ea_nil)))
      (ess_cons (es_setO 2 nd (ev_lst ea_nil))
      (ess_cons (es_for (ei_range1 (by rfl) T.m_range (ea_cons ev_int ea_nil)) (el_nm 3 nd) (ess_cons (ys_set 4 nd (xv_sub ix_seq od_ix (xv_lst (xa_cons (xv_call 0 c__law_roll hr (by decide) (by rfl) (ea_cons ev_int ea_nil)) (xa_cons (xv_call 0 c__law_roll hr (by decide) (by rfl) (ea_cons ev_int ea_nil)) (xa_cons (xv_p ev_int) (xa_cons (xv_bin (OpR.or op_add op_cat) od_add (xv_p ev_int) (xv_call 0 c__law_roll hr (by decide) (by rfl) (ea_cons ev_int ea_nil))) xa_nil))))) (xv_p (ev_v 1))))
      (ess_one (ys_app 2 (ye_app 2 (xv_bin op_mul od_mul (xv_p (ev_v 4)) (xv_callT call_int1 cd_intB (by rfl) T.m_int (by decide +kernel) (xa_cons (xv_cmp op_gt od_gt (xv_call 0 c__law_roll hr (by decide) (by rfl) (ea_cons ev_int ea_nil)) (xv_p ev_int)) xa_nil))))))))
      (ess_one (es_ret (ev_callT call_tuple_of cd_tuple (by rfl) T.m_tuple (by decide +kernel) (ea_cons (ev_v 2) ea_nil)))))))
def G__law_heats : List D → List D → Option (D × List D) := runX 5 (mr__law_heats G__law_roll)

abbrev s__law_cells : Stmt := topS 41
theorem sc__law_cells : FnScope ["_law_dice_here", "_law_high", "_law_wide", "_law_sort", "_law_rows", "_law_row", "_law_out", "_law_column", "_law_parts"] ["_law_dice_here", "_law_high", "_law_wide"] (defScope s__law_cells) :=
  ⟨rfl, rfl, rfl, by decide +kernel, rfl, by decide +kernel, by decide +kernel⟩
def mr__law_cells (g__law_roll : List D → List D → Option (D × List D)) : Ms := (sSeq (ySet 3 (xCall 0 2 g__law_roll (aCons (mC (.int 4)) aNil)))
      (sSeq (sSetO 4 (mA lstD aNil))
      (sSeq (sFor (itR1 (aCons (mV 1) aNil)) (.nm 5) (sSeq (sSetO 6 (mA lstD aNil))
      (sSeq (sFor (itR1 (aCons (mV 2) aNil)) (.nm 7) (sSeq (ySet 8 (x2 ixD (xA lstD (xCons (xCall 0 2 g__law_roll (aCons (mC (.int 6)) aNil)) (xCons (x2 addD (xP (mC (.int 1))) (xCall 0 2 g__law_roll (aCons (mC (.int 40)) aNil))) (xCons (xCall 0 2 g__law_roll (aCons (mC (.int 10000)) aNil)) (xCons (x2 addD (xP (mC (.int 9))) (xCall 0 2 g__law_roll (aCons (mC (.int 2)) aNil))) xNil))))) (xP (mV 3))))
      (yApp 6 (x2 mulD (xP (mV 8)) (xA intB (xCons (x2 gtD (xCall 0 2 g__law_roll (aCons (mC (.int 5)) aNil)) (xP (mC (.int 0)))) xNil))))))
      (sAppF 4 (mA tupF (aCons (mV 6) aNil))))))
      (sRet (mA tupF (aCons (mV 4) aNil))))))
theorem ok__law_cells {f : Addr} {fd : FuncData} (F : L2.Fun K "_law_cells" "_law_cells" s__law_cells f fd) (T : Txt K mg) {g__law_roll : List D → List D → Option (D × List D)} (c__law_roll : C8.Cal P w K mg base 1 "_law_roll" (spX K 2 g__law_roll) []) : FnOk P w K mg base CX0 2 f fd ["_law_dice_here", "_law_high", "_law_wide"] (spX K 3 (runX 9 (mr__law_cells g__law_roll))) :=
  fn_okX F sc__law_cells (by decide) fun cdv A outer s H E hr => by
    have nd := sc__law_cells.nd
    exact (ess_cons (ys_set 3 nd (xv_call 0 c__law_roll hr (by decide) (by rfl) (ea_cons ev_int ea_nil)))
      (ess_cons (es_setO 4 nd (ev_lst ea_nil))
      (ess_cons (es_for (ei_range1 (by rfl) T.m_range (ea_cons (ev_v 1) ea_nil)) (el_nm 5 nd) (ess_cons (es_setO 6 nd (ev_lst ea_nil))
      (ess_cons (es_for (ei_range1 (by rfl) T.m_range (ea_cons (ev_v 2) ea_nil)) (el_nm 7 nd) (ess_cons (ys_set 8 nd (xv_sub ix_seq od_ix (xv_lst (xa_cons (xv_call 0 c__law_roll hr (by decide) (by rfl) (ea_cons ev_int ea_nil)) (xa_cons (xv_bin (OpR.or op_add op_cat) od_add (xv_p ev_int) (xv_call 0 c__law_roll hr (by decide) (by rfl) (ea_cons ev_int ea_nil))) (xa_cons (xv_call 0 c__law_roll hr (by decide) (by rfl) (ea_cons ev_int ea_nil)) (xa_cons (xv_bin (OpR.or op_add op_cat) od_add (xv_p ev_int) (xv_call 0 c__law_roll hr (by decide) (by rfl) (ea_cons ev_int ea_nil))) xa_nil))))) (xv_p (ev_v 3))))
      (ess_one (ys_app 6 (ye_app 6 (xv_bin op_mul od_mul (xv_p (ev_v 8)) (xv_callT call_int1 cd_intB (by rfl) T.m_int (by decide +kernel) (xa_cons (xv_cmp op_gt od_gt (xv_call 0 c__law_roll hr (by decide) (by rfl) (ea_cons ev_int ea_nil)) (xv_p ev_int)) xa_nil))))))))
      (ess_one (es_appF 4 (pe_app 4 (ev_callT call_tuple_of cd_tuple (by rfl) T.m_tuple (by decide +kernel) (ea_cons (ev_v 6) ea_nil))))))))
      (ess_one (es_ret (ev_callT call_tuple_of cd_tuple (by rfl) T.m_tuple (by decide +kernel) (ea_cons (ev_v 4) ea_nil)))))))
def G__law_cells : List D → List D → Option (D × List D) := runX 9 (mr__law_cells G__law_roll)

abbrev s__law_beside : Stmt := topS 42
theorem sc__law_beside : FnScope ["_law_row", "_law_column", "_law_side"] ["_law_row", "_law_column", "_law_side"] (defScope s__law_beside) :=
  ⟨rfl, rfl, rfl, by decide +kernel, rfl, by decide +kernel, by decide +kernel⟩
def mr__law_beside : Ms := (sRet (mA tupD (aCons (m2 addD (mV 0) (m2 ixD (mA lstD (aCons (m1 negD (mC (.int 1))) (aCons (mC (.int 0)) (aCons (mC (.int 1)) (aCons (mC (.int 0)) aNil))))) (mV 2))) (aCons (m2 addD (mV 1) (m2 ixD (mA lstD (aCons (mC (.int 0)) (aCons (mC (.int 1)) (aCons (mC (.int 0)) (aCons (m1 negD (mC (.int 1))) aNil))))) (mV 2))) aNil))))
theorem ok__law_beside {f : Addr} {fd : FuncData} (F : L2.Fun K "_law_beside" "_law_beside" s__law_beside f fd) (T : Txt K mg) : FnOk P w K mg base CX0 1 f fd ["_law_row", "_law_column", "_law_side"] (spD K 3 (runF 3 (mr__law_beside))) :=
  fn_ok F sc__law_beside fun cdv A outer s H E hr => by
    have nd := sc__law_beside.nd
    exact (ess_one (es_ret (ev_tup (ea_cons (ev_add (ev_v 0) (ev_ix (ev_lst (ea_cons (ev_neg ev_int) (ea_cons ev_int (ea_cons ev_int (ea_cons ev_int ea_nil))))) (ev_v 2))) (ea_cons (ev_add (ev_v 1) (ev_ix (ev_lst (ea_cons ev_int (ea_cons ev_int (ea_cons ev_int (ea_cons (ev_neg ev_int) ea_nil))))) (ev_v 2))) ea_nil)))))
def G__law_beside : List D → Option D := runF 3 (mr__law_beside)

abbrev s__law_is_cell : Stmt := topS 43
theorem sc__law_is_cell : FnScope ["_law_cells_here", "_law_row", "_law_column"] ["_law_cells_here", "_law_row", "_law_column"] (defScope s__law_is_cell) :=
  ⟨rfl, rfl, rfl, by decide +kernel, rfl, by decide +kernel, by decide +kernel⟩
def mr__law_is_cell : Ms := (sRet (mAndV (mCh leD ltD (mC (.int 0)) (mV 1) (mA lenA (aCons (mV 0) aNil))) (mCh leD ltD (mC (.int 0)) (mV 2) (mA lenA (aCons (m2 ixD (mV 0) (mC (.int 0))) aNil)))))
theorem ok__law_is_cell {f : Addr} {fd : FuncData} (F : L2.Fun K "_law_is_cell" "_law_is_cell" s__law_is_cell f fd) (T : Txt K mg) : FnOk P w K mg base CX0 1 f fd ["_law_cells_here", "_law_row", "_law_column"] (spD K 3 (runF 3 (mr__law_is_cell))) :=
  fn_ok F sc__law_is_cell fun cdv A outer s H E hr => by
    have nd := sc__law_is_cell.nd
    exact (ess_one (es_ret (ev_and (ev_chain op_le op_lt od_le od_lt ev_int (ev_v 1) (ev_callB (CallR.or call_len_seq call_len_dT) cd_lenA (by rfl) T.m_len (by decide +kernel) (ea_cons (ev_v 0) ea_nil))) (ev_one (ev_chain op_le op_lt od_le od_lt ev_int (ev_v 2) (ev_callB (CallR.or call_len_seq call_len_dT) cd_lenA (by rfl) T.m_len (by decide +kernel) (ea_cons (ev_ix (ev_v 0) ev_int) ea_nil)))))))
def G__law_is_cell : List D → Option D := runF 3 (mr__law_is_cell)

abbrev s__law_face : Stmt := topS 44
theorem sc__law_face : FnScope ["_law_cells_here", "_law_shut", "_law_row", "_law_column", "_law_side", "_law_other"] ["_law_cells_here", "_law_shut"] (defScope s__law_face) :=
  ⟨rfl, rfl, rfl, by decide +kernel, rfl, by decide +kernel, by decide +kernel⟩
def mr__law_face (g__law_beside : List D → Option D) (g__law_is_cell : List D → Option D) : Ms := (sSeq (sUnp (.tp [(.nm 2), (.nm 3), (.nm 4)]) (mV 1))
      (sSeq (sSet 5 (mA (guardN 3 g__law_beside) (aCons (mV 2) (aCons (mV 3) (aCons (mV 4) aNil)))))
      (sSeq (sIf (mAnd (mB (m2 eqD (m2 modD (mV 4) (mC (.int 3))) (mC (.int 0)))) (mTr (mA (guardN 3 g__law_is_cell) (aCons (mV 0) (aCons (m2 ixD (mV 5) (mC (.int 0))) (aCons (m2 ixD (mV 5) (mC (.int 1))) aNil)))))) (sRet (mA tupD (aCons (m2 ixD (mV 5) (mC (.int 0))) (aCons (m2 ixD (mV 5) (mC (.int 1))) (aCons (m2 modD (m2 addD (mV 4) (mC (.int 2))) (mC (.int 4))) aNil))))) sNext)
      (sRet (mA tupD (aCons (mV 2) (aCons (mV 3) (aCons (mV 4) aNil))))))))
theorem ok__law_face {f : Addr} {fd : FuncData} (F : L2.Fun K "_law_face" "_law_face" s__law_face f fd) (T : Txt K mg) {g__law_beside : List D → Option D} {g__law_is_cell : List D → Option D} (c__law_beside : C8.Cal P w K mg base 1 "_law_beside" (spD K 3 g__law_beside) []) (c__law_is_cell : C8.Cal P w K mg base 1 "_law_is_cell" (spD K 3 g__law_is_cell) []) : FnOk P w K mg base CX0 2 f fd ["_law_cells_here", "_law_shut"] (spD K 2 (runF 6 (mr__law_face g__law_beside g__law_is_cell))) :=
  fn_ok F sc__law_face fun cdv A outer s H E hr => by
    have nd := sc__law_face.nd
    exact (ess_cons (es_unp (ev_v 1) (el_tp (els_cons (el_nm 2 nd) (els_cons (el_nm 3 nd) (els_cons (el_nm 4 nd) els_nil)))))
      (ess_cons (es_set 5 nd (ev_call c__law_beside hr (by decide) (by rfl) (ea_cons (ev_v 2) (ea_cons (ev_v 3) (ea_cons (ev_v 4) ea_nil)))))
      (ess_cons (es_if (et_w (ew_and (et_eq hr.units (ev_mod (ev_v 4) ev_int) ev_int) (ew_and1 (et_tr (ev_call c__law_is_cell hr (by decide) (by rfl) (ea_cons (ev_v 0) (ea_cons (ev_ix (ev_v 5) ev_int) (ea_cons (ev_ix (ev_v 5) ev_int) ea_nil)))))))) (ess_one (es_ret (ev_tup (ea_cons (ev_ix (ev_v 5) ev_int) (ea_cons (ev_ix (ev_v 5) ev_int) (ea_cons (ev_mod (ev_add (ev_v 4) ev_int) ev_int) ea_nil)))))) ess_nil)
      (ess_one (es_ret (ev_tup (ea_cons (ev_v 2) (ea_cons (ev_v 3) (ea_cons (ev_v 4) ea_nil)))))))))
def G__law_face : List D → Option D := runF 6 (mr__law_face G__law_beside G__law_is_cell)

abbrev s__law_screens : Stmt := topS 45
theorem sc__law_screens : FnScope ["_law_dice_here", "_law_cells_here", "_law_out", "_law_seen", "_law_often", "_law_row", "_law_column", "_law_side", "_law_face_here"] ["_law_dice_here", "_law_cells_here"] (defScope s__law_screens) :=
  ⟨rfl, rfl, rfl, by decide +kernel, rfl, by decide +kernel, by decide +kernel⟩
def mr__law_screens (g__law_face : List D → Option D) (g__law_roll : List D → List D → Option (D × List D)) : Ms := (sSeq (sSetO 2 (mA lstD aNil))
      (sSeq (sSetO 3 (mA lstD aNil))
      (sSeq (ySet 4 (x2 addD (xP (mC (.int 1))) (xCall 0 2 g__law_roll (aCons (mC (.int 5)) aNil))))
      (sSeq (sFor (itR1 (aCons (mA lenA (aCons (mV 1) aNil)) aNil)) (.nm 5) (sFor (itR1 (aCons (mA lenA (aCons (m2 ixD (mV 1) (mC (.int 0))) aNil)) aNil)) (.nm 6) (sFor (itR1 (aCons (mC (.int 4)) aNil)) (.nm 7) (sSeq (sSet 8 (mA (guardN 2 g__law_face) (aCons (mV 1) (aCons (mA tupD (aCons (mV 5) (aCons (mV 6) (aCons (mV 7) aNil)))) aNil))))
      (yIf (xAnd (xB (x2 gtD (xCall 0 2 g__law_roll (aCons (mV 4) aNil)) (xP (mC (.int 0))))) (xAnd (xT (mB (m2 ninL (mV 8) (mV 3)))) (xT (mB (m2 ltD (mA lenA (aCons (mV 2) aNil)) (mC (.int 40))))))) (sSeq (sApp 3 (mV 8))
      (sApp 2 (mA tupD (aCons (mV 5) (aCons (mV 6) (aCons (mV 7) aNil)))))) sNext)))))
      (sSeq (yIf (xB (x2 eqD (xCall 0 2 g__law_roll (aCons (mC (.int 2)) aNil)) (xP (mC (.int 0))))) (yRev 2) sNext)
      (sRet (mA tupF (aCons (mV 2) aNil))))))))
theorem ok__law_screens {f : Addr} {fd : FuncData} (F : L2.Fun K "_law_screens" "_law_screens" s__law_screens f fd) (T : Txt K mg) {g__law_face : List D → Option D} {g__law_roll : List D → List D → Option (D × List D)} (c__law_face : C8.Cal P w K mg base 2 "_law_face" (spD K 2 g__law_face) []) (c__law_roll : C8.Cal P w K mg base 1 "_law_roll" (spX K 2 g__law_roll) []) : FnOk P w K mg base CX0 3 f fd ["_law_dice_here", "_law_cells_here"] (spX K 2 (runX 9 (mr__law_screens g__law_face g__law_roll))) :=
  fn_okX F sc__law_screens (by decide) fun cdv A outer s H E hr => by
    have nd := sc__law_screens.nd
    exact (ess_cons (es_setO 2 nd (ev_lst ea_nil))
      (ess_cons (es_setO 3 nd (ev_lst ea_nil))
      (ess_cons (ys_set 4 nd (xv_bin (OpR.or op_add op_cat) od_add (xv_p ev_int) (xv_call 0 c__law_roll hr (by decide) (by rfl) (ea_cons ev_int ea_nil))))
      (ess_cons (es_for (ei_range1 (by rfl) T.m_range (ea_cons (ev_callB (CallR.or call_len_seq call_len_dT) cd_lenA (by rfl) T.m_len (by decide +kernel) (ea_cons (ev_v 1) ea_nil)) ea_nil)) (el_nm 5 nd) (ess_one (es_for (ei_range1 (by rfl) T.m_range (ea_cons (ev_callB (CallR.or call_len_seq call_len_dT) cd_lenA (by rfl) T.m_len (by decide +kernel) (ea_cons (ev_ix (ev_v 1) ev_int) ea_nil)) ea_nil)) (el_nm 6 nd) (ess_one (es_for (ei_range1 (by rfl) T.m_range (ea_cons ev_int ea_nil)) (el_nm 7 nd) (ess_cons (es_set 8 nd (ev_call c__law_face hr (by decide) (by rfl) (ea_cons (ev_v 1) (ea_cons (ev_tup (ea_cons (ev_v 5) (ea_cons (ev_v 6) (ea_cons (ev_v 7) ea_nil)))) ea_nil))))
      (ess_one (ys_if (xt_w (xw_and (xt_op op_gt od_gt (xv_call 0 c__law_roll hr (by decide) (by rfl) (ea_cons (ev_v 4) ea_nil)) (xv_p ev_int)) (xw_and (xt_p (et_ninL (hu65 hr) (ev_v 8) (ev_v 3))) (xw_and1 (xt_p (et_lt (ev_callB (CallR.or call_len_seq call_len_dT) cd_lenA (by rfl) T.m_len (by decide +kernel) (ea_cons (ev_v 2) ea_nil)) ev_int)))))) (ess_cons (es_app 3 (pe_app 3 (ev_v 8)))
      (ess_one (es_app 2 (pe_app 2 (ev_tup (ea_cons (ev_v 5) (ea_cons (ev_v 6) (ea_cons (ev_v 7) ea_nil)))))))) ess_nil))))))))
      (ess_cons (ys_if (xt_op (op_eqD hr.units) od_eq (xv_call 0 c__law_roll hr (by decide) (by rfl) (ea_cons ev_int ea_nil)) (xv_p ev_int)) (ess_one (ys_rev 2)) ess_nil)
      (ess_one (es_ret (ev_callT call_tuple_of cd_tuple (by rfl) T.m_tuple (by decide +kernel) (ea_cons (ev_v 2) ea_nil)))))))))
def G__law_screens : List D → List D → Option (D × List D) := runX 9 (mr__law_screens G__law_face G__law_roll)

abbrev s__law_house : Stmt := topS 46
theorem sc__law_house : FnScope ["_law_script", "_law_most", "_law_dice_here", "_law_cell", "_law_cells_here", "_law_heats_here"] ["_law_script", "_law_most"] (defScope s__law_house) :=
  ⟨rfl, rfl, rfl, by decide +kernel, rfl, by decide +kernel, by decide +kernel⟩
def mr__law_house (g__law_cell_at : List D → Option D) (g__law_cells : List D → List D → Option (D × List D)) (g__law_dice : List D → Option D) (g__law_heats : List D → List D → Option (D × List D)) (g__law_screens : List D → List D → Option (D × List D)) : Ms := (sSeq (yOwn 2 1 g__law_dice (aCons (mA (guardN 2 g__law_cell_at) (aCons (mV 0) (aCons (mC (.int 0)) aNil))) aNil))
      (sSeq (sSet 3 (mA (guardN 2 g__law_cell_at) (aCons (mV 0) (aCons (mC (.int 1)) aNil))))
      (sSeq (ySet 4 (xCall 2 3 g__law_cells (aCons (m2 addD (mC (.int 1)) (m2 modD (mV 3) (mV 1))) (aCons (m2 addD (mC (.int 1)) (m2 modD (m2 divD (mV 3) (mV 1)) (mV 1))) aNil))))
      (sSeq (ySet 5 (xCall 2 1 g__law_heats aNil))
      (yRet (xA tupD (xCons (xP (mV 5)) (xCons (xP (mV 4)) (xCons (xCall 2 2 g__law_screens (aCons (mV 4) aNil)) xNil)))))))))
theorem ok__law_house {f : Addr} {fd : FuncData} (F : L2.Fun K "_law_house" "_law_house" s__law_house f fd) (T : Txt K mg) {g__law_cell_at : List D → Option D} {g__law_cells : List D → List D → Option (D × List D)} {g__law_dice : List D → Option D} {g__law_heats : List D → List D → Option (D × List D)} {g__law_screens : List D → List D → Option (D × List D)} (c__law_cell_at : C8.Cal P w K mg base 1 "_law_cell_at" (spD K 2 g__law_cell_at) []) (c__law_cells : C8.Cal P w K mg base 2 "_law_cells" (spX K 3 g__law_cells) []) (c__law_dice : C8.Cal P w K mg base 1 "_law_dice" (spD K 1 g__law_dice) []) (c__law_heats : C8.Cal P w K mg base 2 "_law_heats" (spX K 1 g__law_heats) []) (c__law_screens : C8.Cal P w K mg base 3 "_law_screens" (spX K 2 g__law_screens) []) : FnOk P w K mg base CX0 4 f fd ["_law_script", "_law_most"] (spD K 2 (runF 6 (mr__law_house g__law_cell_at g__law_cells g__law_dice g__law_heats g__law_screens))) :=
  fn_ok F sc__law_house fun cdv A outer s H E hr => by
    have nd := sc__law_house.nd
    exact (ess_cons (ys_own 2 nd c__law_dice hr (by decide) (by rfl) (ea_cons (ev_call c__law_cell_at hr (by decide) (by rfl) (ea_cons (ev_v 0) (ea_cons ev_int ea_nil))) ea_nil))
      (ess_cons (es_set 3 nd (ev_call c__law_cell_at hr (by decide) (by rfl) (ea_cons (ev_v 0) (ea_cons ev_int ea_nil))))
      (ess_cons (ys_set 4 nd (xv_call 2 c__law_cells hr (by decide) (by rfl) (ea_cons (ev_add ev_int (ev_mod (ev_v 3) (ev_v 1))) (ea_cons (ev_add ev_int (ev_mod (ev_div (ev_v 3) (ev_v 1)) (ev_v 1))) ea_nil))))
      (ess_cons (ys_set 5 nd (xv_call 2 c__law_heats hr (by decide) (by rfl) ea_nil))
      (ess_one (ys_ret (xv_tup (xa_cons (xv_p (ev_v 5)) (xa_cons (xv_p (ev_v 4)) (xa_cons (xv_call 2 c__law_screens hr (by decide) (by rfl) (ea_cons (ev_v 4) ea_nil)) xa_nil))))))))))
def G__law_house : List D → Option D := runF 6 (mr__law_house G__law_cell_at G__law_cells G__law_dice G__law_heats G__law_screens)

abbrev s__law_text : Stmt := topS 47
theorem sc__law_text : FnScope ["_law_house_here", "_law_out", "_law_heat", "_law_row", "_law_parts", "_law_shut", "_law_number"] ["_law_house_here"] (defScope s__law_text) :=
  ⟨rfl, rfl, rfl, by decide +kernel, rfl, by decide +kernel, by decide +kernel⟩
def mr__law_text : Ms := (sSeq (sSetO 1 (mA lstD (aCons (m2 joinD (mC (.str " ")) (m2 addD (mA lstD (aCons (mC (.str "heats")) aNil)) (mLc (itT (m2 ixD (mV 0) (mC (.int 0)))) [2] (.nm 2) mYes (mA strF (aCons (mV 2) aNil))))) aNil)))
      (sSeq (sFor (itT (m2 ixD (mV 0) (mC (.int 1)))) (.nm 3) (sApp 1 (m2 joinD (mC (.str " ")) (m2 addD (mA lstD (aCons (mC (.str "row")) aNil)) (mLc (itT (mV 3)) [4] (.nm 4) mYes (mA strF (aCons (mV 4) aNil)))))))
      (sSeq (sFor (itT (m2 ixD (mV 0) (mC (.int 2)))) (.nm 5) (sApp 1 (m2 joinD (mC (.str " ")) (m2 addD (mA lstD (aCons (mC (.str "wall")) aNil)) (mLc (itT (mV 5)) [6] (.nm 6) mYes (mA strF (aCons (mV 6) aNil)))))))
      (sRet (m2 joinD (mC (.str "\n")) (mV 1))))))
theorem ok__law_text {f : Addr} {fd : FuncData} (F : L2.Fun K "_law_text" "_law_text" s__law_text f fd) (T : Txt K mg) : FnOk P w K mg base CX0 1 f fd ["_law_house_here"] (spD K 1 (runF 7 (mr__law_text))) :=
  fn_ok F sc__law_text fun cdv A outer s H E hr => by
    have nd := sc__law_text.nd
    exact (ess_cons (es_setO 1 nd (ev_lst (ea_cons (ev_join ev_str (ev_add (ev_lst (ea_cons ev_str ea_nil)) (ev_lc [("_law_heat", 2)] nd (ei_tup (ev_ix (ev_v 0) ev_int)) (by refine blkOk_by ?_; skip; dsimp only [Cx.blk, compEnvC, cxOf, Cx.nox, Cx.wish, envOfC]; decide +kernel) (fun _ _ _ _ _ => (eg_nm 2 nd)) (fun _ _ _ _ _ => ets_nil) (fun _ _ _ _ _ => (ev_callT call_str_int cd_str (by rfl) T.m_str (by decide +kernel) (ea_cons (ev_v 2) ea_nil)))))) ea_nil)))
      (ess_cons (es_for (ei_tup (ev_ix (ev_v 0) ev_int)) (el_nm 3 nd) (ess_one (es_app 1 (pe_app 1 (ev_join ev_str (ev_add (ev_lst (ea_cons ev_str ea_nil)) (ev_lc [("_law_parts", 4)] nd (ei_tup (ev_v 3)) (by refine blkOk_by ?_; skip; dsimp only [Cx.blk, compEnvC, cxOf, Cx.nox, Cx.wish, envOfC]; decide +kernel) (fun _ _ _ _ _ => (eg_nm 4 nd)) (fun _ _ _ _ _ => ets_nil) (fun _ _ _ _ _ => (ev_callT call_str_int cd_str (by rfl) T.m_str (by decide +kernel) (ea_cons (ev_v 4) ea_nil))))))))))
      (ess_cons (es_for (ei_tup (ev_ix (ev_v 0) ev_int)) (el_nm 5 nd) (ess_one (es_app 1 (pe_app 1 (ev_join ev_str (ev_add (ev_lst (ea_cons ev_str ea_nil)) (ev_lc [("_law_number", 6)] nd (ei_tup (ev_v 5)) (by refine blkOk_by ?_; skip; dsimp only [Cx.blk, compEnvC, cxOf, Cx.nox, Cx.wish, envOfC]; decide +kernel) (fun _ _ _ _ _ => (eg_nm 6 nd)) (fun _ _ _ _ _ => ets_nil) (fun _ _ _ _ _ => (ev_callT call_str_int cd_str (by rfl) T.m_str (by decide +kernel) (ea_cons (ev_v 6) ea_nil))))))))))
      (ess_one (es_ret (ev_join ev_str (ev_v 1)))))))
def G__law_text : List D → Option D := runF 7 (mr__law_text)

abbrev s__law_bad_row : Stmt := topS 48
theorem sc__law_bad_row : FnScope ["_law_cell", "_law_some"] ["_law_cell"] (defScope s__law_bad_row) :=
  ⟨rfl, rfl, rfl, by decide +kernel, rfl, by decide +kernel, by decide +kernel⟩
def mr__law_bad_row : Ms := (sSeq (sSet 1 (mA lstD (aCons (mC (.str "")) (aCons (mC (.str " ")) (aCons (mC (.str "heats")) (aCons (mC (.str "heats 1 2 3 4")) (aCons (mC (.str "heats 1 2 3 4 5 6")) (aCons (mC (.str "heats 1 2 3 4 x")) aNil))))))))
      (sSeq (sSet 1 (m2 addD (mV 1) (mA lstD (aCons (mC (.str "heats 01 2 3 4 5")) (aCons (mC (.str "heat 1 2 3 4 5")) aNil)))))
      (sSeq (sSet 1 (m2 addD (mV 1) (mA lstD (aCons (mC (.str "row")) (aCons (mC (.str "row ")) (aCons (mC (.str "row 05")) (aCons (mC (.str "row 5 ")) (aCons (mC (.str "row  5")) (aCons (mC (.str "row 12345")) aNil)))))))))
      (sSeq (sSet 1 (m2 addD (mV 1) (mA lstD (aCons (mC (.str "row -1")) (aCons (mC (.str "row x")) (aCons (mC (.str "Row 5")) (aCons (mC (.str "rows 5")) (aCons (mC (.str "5 5")) aNil))))))))
      (sSeq (sSet 1 (m2 addD (mV 1) (mA lstD (aCons (mC (.str "wall")) (aCons (mC (.str "wall 0 0")) (aCons (mC (.str "wall 0 0 0 0")) (aCons (mC (.str "wall 0 0 x")) aNil)))))))
      (sSeq (sSet 1 (m2 addD (mV 1) (mA lstD (aCons (mC (.str "wall 0 0 -1")) (aCons (mC (.str "walls 0 0 0")) (aCons (mC (.str " wall 0 0 0")) (aCons (mC (.str "wall 0 00 0")) aNil)))))))
      (sSeq (sSet 1 (m2 addD (mV 1) (mA lstD (aCons (mC (.str "row +5")) (aCons (mC (.str "row 5_0")) (aCons (mC (.str "wall 0 0 +1")) aNil))))))
      (sRet (m2 ixD (mV 1) (m2 modD (mV 0) (mC (.int 30))))))))))))
theorem ok__law_bad_row {f : Addr} {fd : FuncData} (F : L2.Fun K "_law_bad_row" "_law_bad_row" s__law_bad_row f fd) (T : Txt K mg) : FnOk P w K mg base CX0 1 f fd ["_law_cell"] (spD K 1 (runF 2 (mr__law_bad_row))) :=
  fn_ok F sc__law_bad_row fun cdv A outer s H E hr => by
    have nd := sc__law_bad_row.nd
    exact (ess_cons (es_set 1 nd (ev_lst (ea_cons ev_str (ea_cons ev_str (ea_cons ev_str (ea_cons ev_str (ea_cons ev_str (ea_cons ev_str ea_nil))))))))
      (ess_cons (es_set 1 nd (ev_add (ev_v 1) (ev_lst (ea_cons ev_str (ea_cons ev_str ea_nil)))))
      (ess_cons (es_set 1 nd (ev_add (ev_v 1) (ev_lst (ea_cons ev_str (ea_cons ev_str (ea_cons ev_str (ea_cons ev_str (ea_cons ev_str (ea_cons ev_str ea_nil)))))))))
      (ess_cons (es_set 1 nd (ev_add (ev_v 1) (ev_lst (ea_cons ev_str (ea_cons ev_str (ea_cons ev_str (ea_cons ev_str (ea_cons ev_str ea_nil))))))))
      (ess_cons (es_set 1 nd (ev_add (ev_v 1) (ev_lst (ea_cons ev_str (ea_cons ev_str (ea_cons ev_str (ea_cons ev_str ea_nil)))))))
      (ess_cons (es_set 1 nd (ev_add (ev_v 1) (ev_lst (ea_cons ev_str (ea_cons ev_str (ea_cons ev_str (ea_cons ev_str ea_nil)))))))
      (ess_cons (es_set 1 nd (ev_add (ev_v 1) (ev_lst (ea_cons ev_str (ea_cons ev_str (ea_cons ev_str ea_nil))))))
      (ess_one (es_ret (ev_ix (ev_v 1) (ev_mod (ev_v 0) ev_int)))))))))))
def G__law_bad_row : List D → Option D := runF 2 (mr__law_bad_row)

abbrev s__law_word : Stmt := topS 49
theorem sc__law_word : FnScope ["_law_lines", "e", "_law_kinds", "_law_others"] ["_law_lines"] (defScope s__law_word) :=
  ⟨rfl, rfl, rfl, by decide +kernel, rfl, by decide +kernel, by decide +kernel⟩
def mr__law_word (g_read : List D → Option Re) : Ms := (sSeq (sTryR 1 4 (eDrop (guardE 1 g_read) (aCons (m2 joinD (mC (.str "\n")) (mV 0)) aNil)) (fun c => if c = "BadHouse" then some (.str "house") else if c = "NoSuch" then some (.str "other") else if c = "BadDeeds" then some (.str "other") else if c = "BadPlan" then some (.str "other") else if c = "BadText" then some (.str "text") else none))
      (sRet (mC (.str "read"))))
theorem ok__law_word {f : Addr} {fd : FuncData} (F : L2.Fun K "_law_word" "_law_word" s__law_word f fd) (T : Txt K mg) {g_read : List D → Option Re} (c_read : CalE P w K mg base 5 "read" (spE K 1 g_read)) : FnOk P w K mg base CX0 6 f fd ["_law_lines"] (spD K 1 (runF 4 (mr__law_word g_read))) :=
  fn_ok F sc__law_word fun cdv A outer s H E hr => by
    have nd := sc__law_word.nd
    exact (ess_cons (es_tryR 1 4 T.ex rfl rfl nd rfl rfl (by rfl) (fun W pn xe tk px => (ees_one (ee_drop (pe_cE c_read tk hr (by decide) (by rfl) (ea_cons (ev_join ev_str (ev_v 0)) ea_nil))))) (fun a oe c pn hc hz hf => (ess_cons (es_set 2 nd (ev_lst (ea_cons (ev_is1 1 T.ex hc (by decide +kernel) hz hf (ev_v 1) (by rfl) (by rfl)) (ea_cons (ev_is1 1 T.ex hc (by decide +kernel) hz hf (ev_v 1) (by rfl) (by rfl)) ea_nil))))
      (ess_cons (es_set 3 nd (ev_or (ev_isT 1 T.ex hc (by decide +kernel) hz hf (ev_v 1) (ea_nm T.ex (by decide +kernel) (by rfl) (ea_nm T.ex (by decide +kernel) (by rfl) (ea_nm T.ex (by decide +kernel) (by rfl) ea_nm0))) (by rfl) (by decide)) (ev_one (ev_not (ev_isV 1 T.ex hc hz hf (ev_v 1) (by rfl) (by rfl))))))
      (ess_cons (es_if (et_w (ew_or (et_tr (ev_v 3)) (ew_or1 (et_ne (by exact hr.units) (ev_countB (ev_v 2) ev_bl) ev_int)))) (ess_one (es_ret ev_str)) ess_nil)
      (ess_one (es_ret (ev_ix (ev_lst (ea_cons ev_str (ea_cons ev_str ea_nil))) (ev_indexB (ev_v 2) ev_bl)))))))) (by
      intro a c d S hl h
      match S, hl with
      | [x0, x1, x2, x3], _ =>
        try dsimp only at h
        repeat' (first | (cases h; done) | split at h)
        all_goals (subst_vars; cases h; refine ex_rt ?_; simp (config := { decide := false }) only [exNe, sSeq, sIf, sRet, sNext, sSet, sSetO, sApp, mOr, mAnd, mNot, mTr, mIf, mAndV, mOrV, mC, mV, mA, m1, m2, mB, aCons, aNil, lstD, tupD, tru, mIsE, notD, cB2_10, iB2_10, cB2_01, iB2_01, cB2_00, xB2_0, xB2_1, cB5_10000, iB5_10000, cB5_01000, iB5_01000, cB5_00100, iB5_00100, cB5_00010, iB5_00010, cB5_00001, iB5_00001, cB5_00000, xB5_0, xB5_1, xB5_2, xB5_3, xB5_4, neB_1, neB_0, eqB_1, eqB_0, op, cl, opn, clos, List.map_cons, List.map_nil, List.set_cons_zero, List.set_cons_succ, List.getElem?_cons_zero, List.getElem?_cons_succ, List.length_cons, List.length_nil, List.mem_cons, List.not_mem_nil, List.cons_append, List.nil_append, or_false, false_or, or_true, true_or, decide_true, decide_false, Option.bind_some, Option.map_some, if_true, if_false, ↓reduceIte, Bool.not_true, Bool.not_false, Bool.false_eq_true, flat, flats, ne_eq, not_true_eq_false, not_false_eq_true, eq_self, Nat.reduceAdd, Nat.reduceLeDiff, Nat.reduceLT])))
      (ess_one (es_ret ev_str)))
def G__law_word : List D → Option D := runF 4 (mr__law_word GE_read)

abbrev s_law : Stmt := topS 50
theorem sc_law : FnScope ["_law_script", "_law_lines", "_law_bad", "_law_at", "_law_texts", "_law_one", "_law_head", "_law_some", "_law_text_here", "_law_word_here"] ["_law_script"] (defScope s_law) :=
  ⟨rfl, rfl, rfl, by decide +kernel, rfl, by decide +kernel, by decide +kernel⟩
def mr_law (g__law_bad_row : List D → Option D) (g__law_cell_at : List D → Option D) (g__law_house : List D → Option D) (g__law_text : List D → Option D) (g__law_word : List D → Option D) : Ms := (sSeq (sSet 1 (m2 splitD (mA (guardN 1 g__law_text) (aCons (mA (guardN 2 g__law_house) (aCons (mV 0) (aCons (mC (.int 3)) aNil))) aNil)) (mC (.str "\n"))))
      (sSeq (sSet 2 (mA (guardN 1 g__law_bad_row) (aCons (mA (guardN 2 g__law_cell_at) (aCons (mV 0) (aCons (mC (.int 2)) aNil))) aNil)))
      (sSeq (sSet 3 (m2 modD (mA (guardN 2 g__law_cell_at) (aCons (mV 0) (aCons (mC (.int 3)) aNil))) (mA lenA (aCons (mV 1) aNil))))
      (sSeq (sSetL 4 (aCons (m2 addD (m2 addD (mSl (mV 1) oN (oS (mV 3))) (mA lstD (aCons (mV 2) aNil))) (mSl (mV 1) (oS (mV 3)) oN)) (aCons (m2 addD (m2 addD (mSl (mV 1) oN (oS (mV 3))) (mA lstD (aCons (mV 2) aNil))) (mSl (mV 1) (oS (m2 addD (mV 3) (mC (.int 1)))) oN)) aNil)))
      (sSeq (sCatO 4 (aCons (mSl (mV 1) (oS (mC (.int 1))) oN) (aCons (m2 addD (mSl (mV 1) oN (oS (mC (.int 1)))) (mV 1)) aNil)))
      (sSeq (sCatO 4 (aCons (m2 addD (mSl (mV 1) (oS (mC (.int 1))) oN) (mSl (mV 1) oN (oS (mC (.int 1))))) aNil))
      (sSeq (sApp 4 (m2 addD (mV 1) (mA lstD (aCons (mC (.str "heats 1 1 1 1 1")) aNil))))
      (sSeq (sIf (mB (m2 eqD (m2 ixD (m2 splitD (m2 ixD (mV 1) (m1 negD (mC (.int 1)))) (mC (.str " "))) (mC (.int 0))) (mC (.str "wall")))) (sApp 4 (m2 addD (mV 1) (mA lstD (aCons (mC (.str "row 5")) aNil)))) sNext)
      (sSeq (sCatO 4 (aCons (m2 addD (mA lstD (aCons (mC (.str "row 5")) aNil)) (mV 1)) (aCons (m2 addD (mA lstD (aCons (mC (.str "wall 0 0 0")) aNil)) (mV 1)) (aCons (m2 addD (mV 1) (mA lstD (aCons (mV 2) aNil))) (aCons (mA lstD (aCons (mC (.str "")) aNil)) aNil)))))
      (sSeq (sLend 4 (sFor (itL (mV 4)) (.nm 5) (sIf (mB (m2 neD (mA (guardN 1 g__law_word) (aCons (mV 5) aNil)) (mC (.str "text")))) (sRet (mC (.bl false))) sNext)))
      (sSeq (sSet 6 (mC (.str "heats 1 2 3 4 5")))
      (sSeq (sSet 7 (mA lstD (aCons (mA tupD (aCons (mA lstD (aCons (mV 6) aNil)) (aCons (mC (.str "house")) aNil))) (aCons (mA tupD (aCons (mA lstD (aCons (mV 6) (aCons (mC (.str "row 5")) (aCons (mC (.str "row 5 5")) aNil)))) (aCons (mC (.str "house")) aNil))) (aCons (mA tupD (aCons (m2 addD (mA lstD (aCons (mV 6) aNil)) (m2 repD (mA lstD (aCons (mC (.str "row 5")) aNil)) (mC (.int 5)))) (aCons (mC (.str "house")) aNil))) aNil)))))
      (sSeq (sSet 7 (m2 addD (mV 7) (mA lstD (aCons (mA tupD (aCons (mA lstD (aCons (mV 6) (aCons (mC (.str "row 5 5 5 5 5")) aNil))) (aCons (mC (.str "house")) aNil))) (aCons (mA tupD (aCons (mA lstD (aCons (mC (.str "heats 10 0 0 0 0")) (aCons (mC (.str "row 5")) aNil))) (aCons (mC (.str "house")) aNil))) aNil)))))
      (sSeq (sSet 7 (m2 addD (mV 7) (mA lstD (aCons (mA tupD (aCons (mA lstD (aCons (mV 6) (aCons (mC (.str "row 5")) (aCons (mC (.str "wall 0 0 4")) aNil)))) (aCons (mC (.str "house")) aNil))) aNil))))
      (sSeq (sSet 7 (m2 addD (mV 7) (mA lstD (aCons (mA tupD (aCons (mA lstD (aCons (mV 6) (aCons (mC (.str "row 5")) (aCons (mC (.str "wall 0 0 1")) (aCons (mC (.str "wall 0 0 1")) aNil))))) (aCons (mC (.str "house")) aNil))) aNil))))
      (sSeq (sSet 7 (m2 addD (mV 7) (mA lstD (aCons (mA tupD (aCons (mA lstD (aCons (mV 6) (aCons (mC (.str "row 5")) (aCons (mC (.str "row 6")) (aCons (mC (.str "wall 0 0 2")) (aCons (mC (.str "wall 1 0 0")) aNil)))))) (aCons (mC (.str "house")) aNil))) aNil))))
      (sSeq (sSet 7 (m2 addD (mV 7) (mA lstD (aCons (mA tupD (aCons (mA lstD (aCons (mV 6) (aCons (mC (.str "wall 0 0 0")) aNil))) (aCons (mC (.str "house")) aNil))) aNil))))
      (sSeq (sSet 7 (m2 addD (mV 7) (mA lstD (aCons (mA tupD (aCons (mA lstD (aCons (mV 6) (aCons (mC (.str "row 5")) aNil))) (aCons (mC (.str "read")) aNil))) (aCons (mA tupD (aCons (mA lstD (aCons (mV 6) (aCons (mC (.str "row 9999 0")) (aCons (mC (.str "wall 0 0 1")) (aCons (mC (.str "wall 0 0 0")) aNil))))) (aCons (mC (.str "read")) aNil))) aNil)))))
      (sSeq (sUnp (.tp [(.nm 8), (.nm 9)]) (m2 ixD (mV 7) (m2 modD (mA (guardN 2 g__law_cell_at) (aCons (mV 0) (aCons (mC (.int 4)) aNil))) (mC (.int 11)))))
      (sRet (m2 eqD (mA (guardN 1 g__law_word) (aCons (mV 8) aNil)) (mV 9))))))))))))))))))))))
theorem ok_law {f : Addr} {fd : FuncData} (F : L2.Fun K "law" "law" s_law f fd) (T : Txt K mg) {g__law_bad_row : List D → Option D} {g__law_cell_at : List D → Option D} {g__law_house : List D → Option D} {g__law_text : List D → Option D} {g__law_word : List D → Option D} (c__law_bad_row : C8.Cal P w K mg base 1 "_law_bad_row" (spD K 1 g__law_bad_row) []) (c__law_cell_at : C8.Cal P w K mg base 1 "_law_cell_at" (spD K 2 g__law_cell_at) []) (c__law_house : C8.Cal P w K mg base 4 "_law_house" (spD K 2 g__law_house) []) (c__law_text : C8.Cal P w K mg base 1 "_law_text" (spD K 1 g__law_text) []) (c__law_word : C8.Cal P w K mg base 6 "_law_word" (spD K 1 g__law_word) []) : FnOk P w K mg base CX0 7 f fd ["_law_script"] (spD K 1 (runF 10 (mr_law g__law_bad_row g__law_cell_at g__law_house g__law_text g__law_word))) :=
  fn_ok F sc_law fun cdv A outer s H E hr => by
    have nd := sc_law.nd
    exact (ess_cons (es_set 1 nd (ev_split (ev_call c__law_text hr (by decide) (by rfl) (ea_cons (ev_call c__law_house hr (by decide) (by rfl) (ea_cons (ev_v 0) (ea_cons ev_int ea_nil))) ea_nil)) ev_str))
      (ess_cons (es_set 2 nd (ev_call c__law_bad_row hr (by decide) (by rfl) (ea_cons (ev_call c__law_cell_at hr (by decide) (by rfl) (ea_cons (ev_v 0) (ea_cons ev_int ea_nil))) ea_nil)))
      (ess_cons (es_set 3 nd (ev_mod (ev_call c__law_cell_at hr (by decide) (by rfl) (ea_cons (ev_v 0) (ea_cons ev_int ea_nil))) (ev_callB (CallR.or call_len_seq call_len_dT) cd_lenA (by rfl) T.m_len (by decide +kernel) (ea_cons (ev_v 1) ea_nil))))
      (ess_cons (es_setL 4 nd (ea_cons (ev_add (ev_add (ev_slice (ev_v 1) eo_none (eo_some (ev_v 3))) (ev_lst (ea_cons (ev_v 2) ea_nil))) (ev_slice (ev_v 1) (eo_some (ev_v 3)) eo_none)) (ea_cons (ev_add (ev_add (ev_slice (ev_v 1) eo_none (eo_some (ev_v 3))) (ev_lst (ea_cons (ev_v 2) ea_nil))) (ev_slice (ev_v 1) (eo_some (ev_add (ev_v 3) ev_int)) eo_none)) ea_nil)))
      (ess_cons (es_catO 4 nd (ea_cons (ev_slice (ev_v 1) (eo_some ev_int) eo_none) (ea_cons (ev_add (ev_slice (ev_v 1) eo_none (eo_some ev_int)) (ev_v 1)) ea_nil)))
      (ess_cons (es_catO 4 nd (ea_cons (ev_add (ev_slice (ev_v 1) (eo_some ev_int) eo_none) (ev_slice (ev_v 1) eo_none (eo_some ev_int))) ea_nil))
      (ess_cons (es_app 4 (pe_app 4 (ev_add (ev_v 1) (ev_lst (ea_cons ev_str ea_nil)))))
      (ess_cons (es_if (et_eq hr.units (ev_ix (ev_split (ev_ix (ev_v 1) (ev_neg ev_int)) ev_str) ev_int) ev_str) (ess_one (es_app 4 (pe_app 4 (ev_add (ev_v 1) (ev_lst (ea_cons ev_str ea_nil)))))) ess_nil)
      (ess_cons (es_catO 4 nd (ea_cons (ev_add (ev_lst (ea_cons ev_str ea_nil)) (ev_v 1)) (ea_cons (ev_add (ev_lst (ea_cons ev_str ea_nil)) (ev_v 1)) (ea_cons (ev_add (ev_v 1) (ev_lst (ea_cons (ev_v 2) ea_nil))) (ea_cons (ev_lst (ea_cons ev_str ea_nil)) ea_nil)))))
      (ess_cons (es_lend 4 (es_for (ei_list (ev_v 4)) (el_nm 5 nd) (ess_one (es_if (et_ne hr.units (ev_call c__law_word hr (by decide) (by rfl) (ea_cons (ev_v 5) ea_nil)) ev_str) (ess_one (es_ret ev_bl)) ess_nil))))
      (ess_cons (es_set 6 nd ev_str)
      (ess_cons (es_set 7 nd (ev_lst (ea_cons (ev_tup (ea_cons (ev_lst (ea_cons (ev_v 6) ea_nil)) (ea_cons ev_str ea_nil))) (ea_cons (ev_tup (ea_cons (ev_lst (ea_cons (ev_v 6) (ea_cons ev_str (ea_cons ev_str ea_nil)))) (ea_cons ev_str ea_nil))) (ea_cons (ev_tup (ea_cons (ev_add (ev_lst (ea_cons (ev_v 6) ea_nil)) (ev_rep (ev_lst (ea_cons ev_str ea_nil)) ev_int)) (ea_cons ev_str ea_nil))) ea_nil)))))
      (ess_cons (es_set 7 nd (ev_add (ev_v 7) (ev_lst (ea_cons (ev_tup (ea_cons (ev_lst (ea_cons (ev_v 6) (ea_cons ev_str ea_nil))) (ea_cons ev_str ea_nil))) (ea_cons (ev_tup (ea_cons (ev_lst (ea_cons ev_str (ea_cons ev_str ea_nil))) (ea_cons ev_str ea_nil))) ea_nil)))))
      (ess_cons (es_set 7 nd (ev_add (ev_v 7) (ev_lst (ea_cons (ev_tup (ea_cons (ev_lst (ea_cons (ev_v 6) (ea_cons ev_str (ea_cons ev_str ea_nil)))) (ea_cons ev_str ea_nil))) ea_nil))))
      (ess_cons (es_set 7 nd (ev_add (ev_v 7) (ev_lst (ea_cons (ev_tup (ea_cons (ev_lst (ea_cons (ev_v 6) (ea_cons ev_str (ea_cons ev_str (ea_cons ev_str ea_nil))))) (ea_cons ev_str ea_nil))) ea_nil))))
      (ess_cons (es_set 7 nd (ev_add (ev_v 7) (ev_lst (ea_cons (ev_tup (ea_cons (ev_lst (ea_cons (ev_v 6) (ea_cons ev_str (ea_cons ev_str (ea_cons ev_str (ea_cons ev_str ea_nil)))))) (ea_cons ev_str ea_nil))) ea_nil))))
      (ess_cons (es_set 7 nd (ev_add (ev_v 7) (ev_lst (ea_cons (ev_tup (ea_cons (ev_lst (ea_cons (ev_v 6) (ea_cons ev_str ea_nil))) (ea_cons ev_str ea_nil))) ea_nil))))
      (ess_cons (es_set 7 nd (ev_add (ev_v 7) (ev_lst (ea_cons (ev_tup (ea_cons (ev_lst (ea_cons (ev_v 6) (ea_cons ev_str ea_nil))) (ea_cons ev_str ea_nil))) (ea_cons (ev_tup (ea_cons (ev_lst (ea_cons (ev_v 6) (ea_cons ev_str (ea_cons ev_str (ea_cons ev_str ea_nil))))) (ea_cons ev_str ea_nil))) ea_nil)))))
      (ess_cons (es_unp (ev_ix (ev_v 7) (ev_mod (ev_call c__law_cell_at hr (by decide) (by rfl) (ea_cons (ev_v 0) (ea_cons ev_int ea_nil))) ev_int)) (el_tp (els_cons (el_nm 8 nd) (els_cons (el_nm 9 nd) els_nil))))
      (ess_one (es_ret (ev_eq hr.units (ev_call c__law_word hr (by decide) (by rfl) (ea_cons (ev_v 8) ea_nil)) (ev_v 9)))))))))))))))))))))))
def G_law : List D → Option D := runF 10 (mr_law G__law_bad_row G__law_cell_at G__law_house G__law_text G__law_word)

/-! words of the program that this law does not hold -/
def dSTEPS : D := (.wt [(.wt [(.int (-1)), (.int (0))]), (.wt [(.int (0)), (.int (1))]), (.wt [(.int (1)), (.int (0))]), (.wt [(.int (0)), (.int (-1))])])
def mr__need_heats (g__are_numbers : List D → Option D) : Ms := (sIf (mOr (mNot (mTr (mA (guardN 2 g__are_numbers) (aCons (mV 0) (aCons (mC (.int 9)) aNil))))) (mB (m2 neD (mA lenA (aCons (mV 0) aNil)) (mC (.int 5))))) sNever sNext)
def G__need_heats : List D → Option D := runF 1 (mr__need_heats G__are_numbers)

def mr__need_cells (g__are_numbers : List D → Option D) : Ms := (sSeq (sIf (mOr (mNot (mTr (mA isiF (aCons (mV 0) (aCons (mC (.raw (.ty "tuple"))) aNil))))) (mNot (mB (mCh leD leD (mC (.int 1)) (mA lenA (aCons (mV 0) aNil)) (mC (.int 4)))))) sNever sNext)
      (sFor (itT (mV 0)) (.nm 1) (sSeq (sIf (mOr (mNot (mTr (mA (guardN 2 g__are_numbers) (aCons (mV 1) (aCons (mC (.int 9999)) aNil))))) (mNot (mB (mCh leD leD (mC (.int 1)) (mA lenA (aCons (mV 1) aNil)) (mC (.int 4)))))) sNever sNext)
      (sIf (mB (m2 neD (mA lenA (aCons (mV 1) aNil)) (mA lenA (aCons (m2 ixD (mV 0) (mC (.int 0))) aNil)))) sNever sNext))))
def G__need_cells : List D → Option D := runF 2 (mr__need_cells G__are_numbers)

def mr__need_faces (g__is_face : List D → Option D) (g_shut_faces : List D → Option D) : Ms := (sSeq (sIf (mOr (mNot (mTr (mA isiF (aCons (mV 0) (aCons (mC (.raw (.ty "tuple"))) aNil))))) (mB (m2 gtD (mA lenA (aCons (mV 0) aNil)) (mC (.int 40))))) sNever sNext)
      (sSeq (sFor (itT (mV 0)) (.nm 2) (sIf (mNot (mTr (mA (guardN 2 g__is_face) (aCons (mV 2) (aCons (mV 1) aNil))))) sNever sNext))
      (sIf (mB (m2 ltD (mA lenA (aCons (mA (guardN 1 g_shut_faces) (aCons (mV 0) aNil)) aNil)) (mA lenA (aCons (mV 0) aNil)))) sNever sNext)))
def G__need_faces : List D → Option D := runF 3 (mr__need_faces G__is_face G_shut_faces)

def mr_need_house (g__need_cells : List D → Option D) (g__need_faces : List D → Option D) (g__need_heats : List D → Option D) : Ms := (sSeq (sIf (mOr (mNot (mTr (mA isiF (aCons (mV 0) (aCons (mC (.raw (.ty "tuple"))) aNil))))) (mB (m2 neD (mA lenA (aCons (mV 0) aNil)) (mC (.int 3))))) sNever sNext)
      (sSeq (sUnp (.tp [(.nm 1), (.nm 2), (.nm 3)]) (mV 0))
      (sSeq (sDrop (mA (guardN 1 g__need_heats) (aCons (mV 1) aNil)))
      (sSeq (sDrop (mA (guardN 1 g__need_cells) (aCons (mV 2) aNil)))
      (sDrop (mA (guardN 2 g__need_faces) (aCons (mV 3) (aCons (mV 2) aNil))))))))
def G_need_house : List D → Option D := runF 4 (mr_need_house G__need_cells G__need_faces G__need_heats)

def mr_has_cell : Ms := (sRet (mAndV (mCh leD ltD (mC (.int 0)) (mV 1) (mA lenA (aCons (mV 0) aNil))) (mCh leD ltD (mC (.int 0)) (mV 2) (mA lenA (aCons (m2 ixD (mV 0) (mC (.int 0))) aNil)))))
def G_has_cell : List D → Option D := runF 3 (mr_has_cell)

def mr__need_cell (g_has_cell : List D → Option D) (g_need_house : List D → Option D) : Ms := (sSeq (sDrop (mA (guardN 1 g_need_house) (aCons (mV 0) aNil)))
      (sIf (mNot (mTr (mA (guardN 3 g_has_cell) (aCons (m2 ixD (mV 0) (mC (.int 1))) (aCons (mV 1) (aCons (mV 2) aNil)))))) sNever sNext))
def G__need_cell : List D → Option D := runF 3 (mr__need_cell G_has_cell G_need_house)

def mr__faces (g_face_name : List D → Option D) (g_has_cell : List D → Option D) : Ms := (sSeq (sIf (mB (m2 eqD (m2 ixD (m2 ixD (mV 1) (mV 3)) (mV 4)) (mC (.int 0)))) (sRet (mA lstD aNil)) sNext)
      (sSeq (sSetO 5 (mA lstD aNil))
      (sSeq (sFor (itE (aCons (mC dSTEPS) aNil)) (.tp [(.nm 6), (.tp [(.nm 7), (.nm 8)])]) (sSeq (sIf (mB (m2 inK (mA (guardN 3 g_face_name) (aCons (mV 3) (aCons (mV 4) (aCons (mV 6) aNil)))) (mV 2))) (fun S => some (.ct S)) sNext)
      (sIf (mNot (mTr (mA (guardN 3 g_has_cell) (aCons (mV 1) (aCons (m2 addD (mV 3) (mV 7)) (aCons (m2 addD (mV 4) (mV 8)) aNil)))))) (sApp 5 (mA tupD (aCons (mV 6) (aCons (m2 ixD (mV 0) (mV 6)) aNil)))) (sIf (mB (m2 eqD (m2 ixD (m2 ixD (mV 1) (m2 addD (mV 3) (mV 7))) (m2 addD (mV 4) (mV 8))) (mC (.int 0)))) (sApp 5 (mA tupD (aCons (mV 6) (aCons (m2 ixD (mV 0) (mC (.int 4))) aNil)))) sNext))))
      (sRet (mV 5)))))
def G__faces : List D → Option D := runF 9 (mr__faces G_face_name G_has_cell)

def mr__loss (g__faces : List D → Option D) : Ms := (sRet (mA sumA (aCons (mLc (itL (mA (guardN 5 g__faces) (aCons (mV 0) (aCons (mV 1) (aCons (mV 2) (aCons (mV 3) (aCons (mV 4) aNil))))))) [5, 6] (.tp [(.nm 5), (.nm 6)]) mYes (mV 6)) aNil)))
def G__loss : List D → Option D := runF 7 (mr__loss G__faces)

def mr__losses (g__loss : List D → Option D) : Ms := (sRet (mA tupF (aCons (mLc (itR1 (aCons (mA lenA (aCons (mV 1) aNil)) aNil)) [4] (.nm 4) mYes (mA tupF (aCons (mLc (itR1 (aCons (mA lenA (aCons (m2 ixD (mV 1) (mC (.int 0))) aNil)) aNil)) [3] (.nm 3) mYes (mA (guardN 5 g__loss) (aCons (mV 0) (aCons (mV 1) (aCons (mV 2) (aCons (mV 4) (aCons (mV 3) aNil))))))) aNil))) aNil)))
def G__losses : List D → Option D := runF 5 (mr__losses G__loss)

def mr__hours_to_empty : Ms := (sRet (mA minDF (aCons (mLc2 (itZ (aCons (mV 0) (aCons (mV 1) aNil))) [2, 3, 4, 5] (.tp [(.nm 2), (.nm 3)]) mYes (itZ (aCons (mV 2) (aCons (mV 3) aNil))) [4, 5] (.tp [(.nm 4), (.nm 5)]) (mB (m2 gtD (mV 5) (mC (.int 0)))) (m2 divD (m2 subD (m2 addD (mV 4) (mV 5)) (mC (.int 1))) (mV 5))) aNil)))
def G__hours_to_empty : List D → Option D := runF 6 (mr__hours_to_empty)

def mr__melt : Ms := (sRet (mA tupF (aCons (mLc (itZ (aCons (mV 0) (aCons (mV 1) aNil))) [5, 6] (.tp [(.nm 5), (.nm 6)]) mYes (mA tupF (aCons (mLc (itZ (aCons (mV 5) (aCons (mV 6) aNil))) [3, 4] (.tp [(.nm 3), (.nm 4)]) mYes (mA maxF (aCons (mC (.int 0)) (aCons (m2 subD (mV 3) (m2 mulD (mV 4) (mV 2))) aNil)))) aNil))) aNil)))
def G__melt : List D → Option D := runF 7 (mr__melt)

def mr__stages (g__hours_to_empty : List D → Option D) (g__losses : List D → Option D) (g__melt : List D → Option D) (g_shut_faces : List D → Option D) : Ms := (sSeq (sUnp (.tp [(.nm 1), (.nm 2), (.nm 3)]) (mV 0))
      (sSeq (sSet 4 (mA (guardN 1 g_shut_faces) (aCons (mV 3) aNil)))
      (sSeq (sSet 5 (mC (.int 0)))
      (sSeq (sSet 6 (mA (guardN 3 g__losses) (aCons (mV 1) (aCons (mV 2) (aCons (mV 4) aNil)))))
      (sSeq (sSetO 7 (mA lstD (aCons (mA tupD (aCons (mV 5) (aCons (mV 2) (aCons (mV 6) aNil)))) aNil)))
      (sSeq (sSet 8 (mA (guardN 2 g__hours_to_empty) (aCons (mV 2) (aCons (mV 6) aNil))))
      (sSeq (sWhile (fun _ => 100) (mB (m2 isnD (mV 8) (mC .non))) (sSeq (sAugI 5 (mV 8))
      (sSeq (sSet 2 (mA (guardN 3 g__melt) (aCons (mV 2) (aCons (mV 6) (aCons (mV 8) aNil)))))
      (sSeq (sSet 6 (mA (guardN 3 g__losses) (aCons (mV 1) (aCons (mV 2) (aCons (mV 4) aNil)))))
      (sSeq (sApp 7 (mA tupD (aCons (mV 5) (aCons (mV 2) (aCons (mV 6) aNil)))))
      (sSet 8 (mA (guardN 2 g__hours_to_empty) (aCons (mV 2) (aCons (mV 6) aNil)))))))))
      (sRet (mV 7)))))))))
def G__stages : List D → Option D := runF 9 (mr__stages G__hours_to_empty G__losses G__melt G_shut_faces)

def mr_left (g__melt : List D → Option D) (g__stages : List D → Option D) (g_need_house : List D → Option D) : Ms := (sSeq (sDrop (mA (guardN 1 g_need_house) (aCons (mV 0) aNil)))
      (sSeq (sUnp (.tp [(.nm 2), (.nm 3), (.nm 4)]) (mV 0))
      (sSeq (sFor (itL (mA (guardN 1 g__stages) (aCons (mV 0) aNil))) (.tp [(.nm 5), (.nm 6), (.nm 7)]) (sSeq (sIf (mB (m2 gtD (mV 5) (mV 1))) (fun S => some (.bk S)) sNext)
      (sSet 3 (mA (guardN 3 g__melt) (aCons (mV 6) (aCons (mV 7) (aCons (m2 subD (mV 1) (mV 5)) aNil)))))))
      (sRet (mA tupD (aCons (mV 2) (aCons (mV 3) (aCons (mV 4) aNil))))))))
def G_left : List D → Option D := runF 8 (mr_left G__melt G__stages G_need_house)

def mr__law_faces (g__law_beside : List D → Option D) (g__law_face : List D → Option D) (g__law_is_cell : List D → Option D) : Ms := (sSeq (sUnp (.tp [(.nm 4), (.nm 5), (.nm 6)]) (mV 0))
      (sSeq (sSetO 7 (mA lstD aNil))
      (sSeq (sFor (itR1 (aCons (mC (.int 4)) aNil)) (.nm 8) (sIf (mAnd (mB (m2 gtD (m2 ixD (m2 ixD (mV 5) (mV 1)) (mV 2)) (mC (.int 0)))) (mB (m2 ninK (mA (guardN 2 g__law_face) (aCons (mV 5) (aCons (mA tupD (aCons (mV 1) (aCons (mV 2) (aCons (mV 8) aNil)))) aNil))) (mV 3)))) (sSeq (sSet 9 (mA (guardN 3 g__law_beside) (aCons (mV 1) (aCons (mV 2) (aCons (mV 8) aNil)))))
      (sIf (mNot (mTr (mA (guardN 3 g__law_is_cell) (aCons (mV 5) (aCons (m2 ixD (mV 9) (mC (.int 0))) (aCons (m2 ixD (mV 9) (mC (.int 1))) aNil)))))) (sApp 7 (mA tupD (aCons (mV 8) (aCons (m2 ixD (mV 4) (mV 8)) aNil)))) (sIf (mB (m2 eqD (m2 ixD (m2 ixD (mV 5) (m2 ixD (mV 9) (mC (.int 0)))) (m2 ixD (mV 9) (mC (.int 1)))) (mC (.int 0)))) (sApp 7 (mA tupD (aCons (mV 8) (aCons (m2 ixD (mV 4) (mC (.int 4))) aNil)))) sNext))) sNext))
      (sRet (mV 7)))))
def G__law_faces : List D → Option D := runF 10 (mr__law_faces G__law_beside G__law_face G__law_is_cell)

def mr__law_screened (g__law_face : List D → Option D) : Ms := (sRet (mA dicF (aCons (mLc (itT (m2 ixD (mV 0) (mC (.int 2)))) [1] (.nm 1) mYes (mA tupD (aCons (mA (guardN 2 g__law_face) (aCons (m2 ixD (mV 0) (mC (.int 1))) (aCons (mV 1) aNil))) (aCons (mC (.bl true)) aNil)))) aNil)))
def G__law_screened : List D → Option D := runF 2 (mr__law_screened G__law_face)

def mr__law_rates (g__law_faces : List D → Option D) (g__law_screened : List D → Option D) : Ms := (sSeq (sSet 1 (mA (guardN 1 g__law_screened) (aCons (mV 0) aNil)))
      (sSeq (sSetO 2 (mA lstD aNil))
      (sSeq (sFor (itR1 (aCons (mA lenA (aCons (m2 ixD (mV 0) (mC (.int 1))) aNil)) aNil)) (.nm 3) (sSeq (sSetO 4 (mA lstD aNil))
      (sSeq (sFor (itR1 (aCons (mA lenA (aCons (m2 ixD (m2 ixD (mV 0) (mC (.int 1))) (mC (.int 0))) aNil)) aNil)) (.nm 5) (sApp 4 (mA sumA (aCons (mLc (itL (mA (guardN 4 g__law_faces) (aCons (mV 0) (aCons (mV 3) (aCons (mV 5) (aCons (mV 1) aNil)))))) [6] (.nm 6) mYes (m2 ixD (mV 6) (mC (.int 1)))) aNil))))
      (sLend 4 (sApp 2 (mV 4))))))
      (sRet (mV 2)))))
def G__law_rates : List D → Option D := runF 7 (mr__law_rates G__law_faces G__law_screened)

def mr__law_fewer : Ms := (sSeq (sSetO 3 (mA lstD aNil))
      (sSeq (sFor (itR1 (aCons (mA lenA (aCons (mV 1) aNil)) aNil)) (.nm 4) (sSeq (sSetO 5 (mA lstD aNil))
      (sSeq (sFor (itR1 (aCons (mA lenA (aCons (m2 ixD (mV 1) (mV 4)) aNil)) aNil)) (.nm 6) (sApp 5 (mA maxF (aCons (mC (.int 0)) (aCons (m2 subD (m2 ixD (m2 ixD (m2 ixD (mV 0) (mC (.int 1))) (mV 4)) (mV 6)) (m2 mulD (mV 2) (m2 ixD (m2 ixD (mV 1) (mV 4)) (mV 6)))) aNil)))))
      (sAppF 3 (mA tupF (aCons (mV 5) aNil))))))
      (sRet (mA tupD (aCons (m2 ixD (mV 0) (mC (.int 0))) (aCons (mA tupF (aCons (mV 3) aNil)) (aCons (m2 ixD (mV 0) (mC (.int 2))) aNil)))))))
def G__law_fewer : List D → Option D := runF 7 (mr__law_fewer)

def mr__law_hour (g__law_fewer : List D → Option D) (g__law_rates : List D → Option D) : Ms := (sSeq (sSet 1 (mA (guardN 1 g__law_rates) (aCons (mV 0) aNil)))
      (sRet (mA (guardN 3 g__law_fewer) (aCons (mV 0) (aCons (mV 1) (aCons (mC (.int 1)) aNil))))))
def G__law_hour : List D → Option D := runF 2 (mr__law_hour G__law_fewer G__law_rates)

def mr__law_skip (g__law_fewer : List D → Option D) (g__law_rates : List D → Option D) : Ms := (sSeq (sWhile (fun _ => 100) (mB (m2 gtD (mV 1) (mC (.int 0)))) (sSeq (sSet 2 (mA (guardN 1 g__law_rates) (aCons (mV 0) aNil)))
      (sSeq (sSetO 3 (mA lstD (aCons (mV 1) aNil)))
      (sSeq (sFor (itR1 (aCons (mA lenA (aCons (mV 2) aNil)) aNil)) (.nm 4) (sFor (itR1 (aCons (mA lenA (aCons (m2 ixD (mV 2) (mV 4)) aNil)) aNil)) (.nm 5) (sSeq (sSet 6 (m2 ixD (m2 ixD (m2 ixD (mV 0) (mC (.int 1))) (mV 4)) (mV 5)))
      (sIf (mB (m2 gtD (m2 ixD (m2 ixD (mV 2) (mV 4)) (mV 5)) (mC (.int 0)))) (sApp 3 (m2 divD (m2 subD (m2 addD (mV 6) (m2 ixD (m2 ixD (mV 2) (mV 4)) (mV 5))) (mC (.int 1))) (m2 ixD (m2 ixD (mV 2) (mV 4)) (mV 5)))) sNext))))
      (sSeq (sSetF 7 (mA minF (aCons (mV 3) aNil)))
      (sSeq (sSet 0 (mA (guardN 3 g__law_fewer) (aCons (mV 0) (aCons (mV 2) (aCons (mV 7) aNil)))))
      (sSet 1 (m2 subD (mV 1) (mV 7)))))))))
      (sRet (mV 0)))
def G__law_skip : List D → Option D := runF 8 (mr__law_skip G__law_fewer G__law_rates)

/-! words of the program that the shared texts name -/
def mr__read_row (g__is_count : List D → Option D) (g__is_written_number : List D → Option D) : Ms := (sSeq (sStar 1 2 (m2 splitD (mV 0) (mC (.str " "))))
      (sSeq (sIf (mNot (mTr (mA (guardN 2 g__is_count) (aCons (mV 1) (aCons (mA lenA (aCons (mV 2) aNil)) aNil))))) sNever sNext)
      (sSeq (sIf (mNot (mTr (mA allF (aCons (mLc (itL (mV 2)) [3] (.nm 3) mYes (mA (guardN 1 g__is_written_number) (aCons (mV 3) aNil))) aNil)))) sNever sNext)
      (sRet (mA tupD (aCons (mV 1) (aCons (mA tupF (aCons (mLc (itL (mV 2)) [3] (.nm 3) mYes (mA intS (aCons (mV 3) aNil))) aNil)) aNil)))))))
def G__read_row : List D → Option D := runF 4 (mr__read_row G__is_count G__is_written_number)
def mr_read (g__numbers_behind : List D → Option D) (g__read_row : List D → Option D) (g_need_house : List D → Option D) : Ms := (sSeq (sSet 1 (mLc (itL (m2 splitD (mV 0) (mC (.str "\n")))) [2] (.nm 2) mYes (mA (guardN 1 g__read_row) (aCons (mV 2) aNil))))
      (sSeq (sSet 3 (mA (guardN 2 g__numbers_behind) (aCons (mC (.str "heats")) (aCons (mV 1) aNil))))
      (sSeq (sSet 4 (mA (guardN 2 g__numbers_behind) (aCons (mC (.str "row")) (aCons (mV 1) aNil))))
      (sSeq (sSet 5 (mA (guardN 2 g__numbers_behind) (aCons (mC (.str "wall")) (aCons (mV 1) aNil))))
      (sSeq (sIf (mB (m2 neD (mLc (itL (mV 1)) [6, 7] (.tp [(.nm 6), (.nm 7)]) mYes (mV 6)) (m2 addD (m2 addD (mA lstD (aCons (mC (.str "heats")) aNil)) (m2 repD (mA lstD (aCons (mC (.str "row")) aNil)) (mA lenA (aCons (mV 4) aNil)))) (m2 repD (mA lstD (aCons (mC (.str "wall")) aNil)) (mA lenA (aCons (mV 5) aNil)))))) sNever sNext)
      (sSeq (sSet 8 (mA tupD (aCons (m2 ixD (mV 3) (mC (.int 0))) (aCons (mV 4) (aCons (mV 5) aNil)))))
      (sSeq (sDrop (mA (guardN 1 g_need_house) (aCons (mV 8) aNil)))
      (sRet (mV 8)))))))))
def G_read : List D → Option D := runF 9 (mr_read G__numbers_behind G__read_row G_need_house)
end
end Ice

/-! the program's defs by plain functions -/
namespace Ice
open PySem PySem.Spec PyProof.Rows L2

theorem bind_c1 {α β : Type} {a a' : Option α} {f : α → Option β} (h : a = a') : a.bind f = a'.bind f := by rw [h]
theorem map_c1 {α β : Type} {a a' : Option α} {f : α → β} (h : a = a') : a.map f = a'.map f := by rw [h]
/-! ### data of a house -/
structure Hs where
  heats : List Int
  cells : List (List Int)
  walls : List (Int × Int × Int)
def eW (w : Int × Int × Int) : D := .tup [.int w.1, .int w.2.1, .int w.2.2]
def eRow (r : List Int) : D := .tup (r.map .int)
def eCells (c : List (List Int)) : D := .tup (c.map eRow)
def eWalls (ws : List (Int × Int × Int)) : D := .tup (ws.map eW)
def eH (h : Hs) : D := .tup [eRow h.heats, eCells h.cells, eWalls h.walls]
def e2 (x : Int × Int) : D := .tup [.int x.1, .int x.2]
def wide (cs : List (List Int)) : Nat := (cs.headD []).length
def cellAt (cs : List (List Int)) (r c : Int) : Int := (cs.getD r.toNat []).getD c.toNat 0
/-- a grid -/
structure Gr (cs : List (List Int)) : Prop where
  hi : 1 ≤ cs.length ∧ cs.length ≤ 4
  wi : 1 ≤ wide cs ∧ wide cs ≤ 4
  all : ∀ r ∈ cs, r.length = wide cs
def inG (cs : List (List Int)) (r c : Int) : Bool := decide (0 ≤ r ∧ r < cs.length) && decide (0 ≤ c ∧ c < wide cs)
theorem len_cells (cs : List (List Int)) : lenA [eCells cs] = some (.int cs.length) := by
  show some (D.int ((cs.map eRow).length : Nat)) = _
  rw [List.length_map]
theorem len_row (r : List Int) : lenA [eRow r] = some (.int r.length) := by
  show some (D.int ((r.map D.int).length : Nat)) = _
  rw [List.length_map]
theorem ix_cells {cs : List (List Int)} {r : Int} (h0 : 0 ≤ r) (h1 : r < cs.length) : ixD (eCells cs) (.int r) = some (eRow (cs.getD r.toNat [])) := by
  show atI (cs.map eRow) r = _
  have h : r.toNat < cs.length := by omega
  rw [atI_at h0 (by rw [List.length_map]; exact h1), List.getElem?_map, List.getElem?_eq_getElem h, List.getD_eq_getElem?_getD, List.getElem?_eq_getElem h]
  rfl
theorem ix_row {r : List Int} {c : Int} (h0 : 0 ≤ c) (h1 : c < r.length) : ixD (eRow r) (.int c) = some (.int (r.getD c.toNat 0)) := by
  show atI (r.map D.int) c = _
  have h : c.toNat < r.length := by omega
  rw [atI_at h0 (by rw [List.length_map]; exact h1), List.getElem?_map, List.getElem?_eq_getElem h, List.getD_eq_getElem?_getD, List.getElem?_eq_getElem h]
  rfl
theorem Gr.row {cs : List (List Int)} (g : Gr cs) {r : Int} (h0 : 0 ≤ r) (h1 : r < cs.length) : (cs.getD r.toNat []).length = wide cs := by
  have h : r.toNat < cs.length := by omega
  rw [List.getD_eq_getElem?_getD, List.getElem?_eq_getElem h]
  exact g.all _ (List.getElem_mem h)
theorem Gr.zero {cs : List (List Int)} (g : Gr cs) : ixD (eCells cs) (.int 0) = some (eRow (cs.headD [])) := by
  have := g.hi
  rw [ix_cells (Int.le_refl _) (by omega)]
  cases cs with
  | nil => rfl
  | cons r rs => rfl
theorem Gr.ix {cs : List (List Int)} (g : Gr cs) {r c : Int} (h : inG cs r c = true) : ixD (eCells cs) (.int r) = some (eRow (cs.getD r.toNat [])) ∧ ixD (eRow (cs.getD r.toNat [])) (.int c) = some (.int (cellAt cs r c)) := by
  unfold inG at h
  rw [Bool.and_eq_true, decide_eq_true_iff, decide_eq_true_iff] at h
  exact ⟨ix_cells h.1.1 h.1.2, ix_row h.2.1 (by rw [g.row h.1.1 h.1.2]; exact h.2.2)⟩

/-! ### faces -/
def face (w : Int × Int × Int) : Int × Int × Int := if w.2.2 = 0 ∧ 0 < w.1 then (w.1 - 1, w.2.1, 2) else if w.2.2 = 3 ∧ 0 < w.2.1 then (w.1, w.2.1 - 1, 1) else w
theorem g_face (r c s : Int) : G_face_name [.int r, .int c, .int s] = some (eW (face (r, c, s))) := by
  unfold G_face_name mr_face_name face
  by_cases h1 : s = 0 <;> by_cases h2 : 0 < r <;> by_cases h3 : s = 3 <;> by_cases h4 : 0 < c <;>
    simp (config := { decide := false }) only [runF, initS, sSeq, sIf, sRet, sRetN, sSet, sSetF, sSetO, sDrop, sNext, sNever, sUnp, sUnpF, sApp, sAppF, sLend, sAugI, asgL_nm, asgL_tp, asgL_wt, asgsL_nil, asgsL_cons, asg_nm, asg_tp, asgs_nil, asgs_cons, wipeD, mAnd, mOr, mNot, mB, mTr, m2, m1, mV, mC, mA, mCh, mAndV, mOrV, aCons, aNil, guardN, op, cl, fl, opn, clos, flt, eqD_int, neD_int, gtD, ltD, leD, geD, addD, subD, negD, tupD, lstD, tupF, lstF, outD, notD, tru, isD, isnD, isN, flat_tp, flat_in, flat_bo, flat_no, flats_nl, flats_cn,
  List.map_cons, List.map_nil, List.length_cons, List.length_nil, List.replicate, List.getElem?_cons_zero, List.getElem?_cons_succ, List.getElem?_nil, List.cons_append, List.nil_append, Option.bind_some, Option.bind_none, Option.bind_assoc, Option.map_some, Option.map_none, Nat.reduceAdd, Nat.reduceSub, Nat.reduceLeDiff, List.set_cons_zero, List.set_cons_succ, if_true, if_false, ite_true, ite_false, reduceCtorEq, Bool.false_eq_true, Bool.not_true, Bool.not_false, ↓reduceIte, eq_self, h1, h2, h3, h4, eW, beq_iff_eq, decide_true, decide_false, and_true, and_false, beq_self_eq_true, and_self, Int.reduceBEq, Int.reduceEq, beq_eq_false_iff_ne] <;> simp [h1, h3]
theorem g_has_cell {cs : List (List Int)} (g : Gr cs) (r c : Int) : G_has_cell [eCells cs, .int r, .int c] = some (.bl (inG cs r c)) := by
  unfold G_has_cell mr_has_cell inG
  have hz := g.zero
  by_cases h1 : 0 ≤ r <;> by_cases h2 : r < cs.length <;> by_cases h3 : 0 ≤ c <;> by_cases h4 : c < wide cs <;>
    simp (config := { decide := false }) only [runF, initS, sSeq, sIf, sRet, sRetN, sSet, sSetF, sSetO, sDrop, sNext, sNever, sUnp, sUnpF, sApp, sAppF, sLend, sAugI, asgL_nm, asgL_tp, asgL_wt, asgsL_nil, asgsL_cons, asg_nm, asg_tp, asgs_nil, asgs_cons, wipeD, mAnd, mOr, mNot, mB, mTr, m2, m1, mV, mC, mA, mCh, mAndV, mOrV, aCons, aNil, guardN, op, cl, fl, opn, clos, flt, eqD_int, neD_int, gtD, ltD, leD, geD, addD, subD, negD, tupD, lstD, tupF, lstF, outD, notD, tru, isD, isnD, isN, flat_tp, flat_in, flat_bo, flat_no, flats_nl, flats_cn,
  List.map_cons, List.map_nil, List.length_cons, List.length_nil, List.replicate, List.getElem?_cons_zero, List.getElem?_cons_succ, List.getElem?_nil, List.cons_append, List.nil_append, Option.bind_some, Option.bind_none, Option.bind_assoc, Option.map_some, Option.map_none, Nat.reduceAdd, Nat.reduceSub, Nat.reduceLeDiff, List.set_cons_zero, List.set_cons_succ, if_true, if_false, ite_true, ite_false, reduceCtorEq, Bool.false_eq_true, Bool.not_true, Bool.not_false, ↓reduceIte, eq_self, len_cells, len_row, hz, h1, h2, h3, h4, decide_true, decide_false, Bool.and_true, Bool.and_false, Bool.true_and, Bool.false_and, and_true, and_false, true_and, false_and] <;> (try (unfold wide at h4; simp only [h4, decide_true, decide_false]))
def kKey (w : Int × Int × Int) : List Key := [.inl w.1, .inl w.2.1, .inl w.2.2]
def shutK (ws : List (Int × Int × Int)) : List (List Key) := ws.foldl (fun ks w => putKs ks (kKey (face w))) []
def eShut (ks : List (List Key)) : D := .dic ks (ks.map fun _ => .bl true)
theorem key_eW (w : Int × Int × Int) : keyOf [.int w.1, .int w.2.1, .int w.2.2] = some (kKey w) := rfl
theorem put_true (ks : List (List Key)) (k : List Key) : putDs ks (ks.map fun _ => D.bl true) k (.bl true) = (putKs ks k).map fun _ => D.bl true := by
  unfold putDs putKs
  split
  · have : ∀ l : List (List Key), replD l (l.map fun _ => D.bl true) k (.bl true) = l.map fun _ => D.bl true := fun l => by
      induction l with
      | nil => rfl
      | cons j l ih =>
        show (if j = k then D.bl true else D.bl true) :: replD l (l.map fun _ => D.bl true) k (.bl true) = _
        rw [ih, ite_self]
        rfl
    exact this ks
  · rw [List.map_append]
    rfl
theorem shut_comp {vs : List Nat} {t : Tg} {mk mv : Mi} {S : Sd} : ∀ (ws : List (Int × Int × Int)) (ks : List (List Key)),
    (∀ w ∈ ws, ∃ S1, asg t (eW w) (wipeD S vs) = some S1 ∧ mk S1 = some (eW (face w)) ∧ mv S1 = some (.bl true)) →
    compDc vs t mYes mk mv S (ws.map eW) ks (ks.map fun _ => .bl true) = some (ws.foldl (fun ks w => putKs ks (kKey (face w))) ks, (ws.foldl (fun ks w => putKs ks (kKey (face w))) ks).map fun _ => .bl true)
  | [], ks, _ => rfl
  | w :: ws, ks, h => by
    obtain ⟨S1, h1, h2, h3⟩ := h w List.mem_cons_self
    have ih := shut_comp ws (putKs ks (kKey (face w))) fun v hv => h v (List.mem_cons_of_mem _ hv)
    rw [List.map_cons]
    unfold compDc
    rw [h1]
    simp only [Option.bind_some, mYes, if_true, h2, h3]
    show (keyOf [.int (face w).1, .int (face w).2.1, .int (face w).2.2]).bind _ = _
    rw [key_eW]
    simp only [Option.bind_some, put_true]
    exact ih
theorem g_shut (ws : List (Int × Int × Int)) (hl : ws.length ≤ 1000000) : G_shut_faces [eWalls ws] = some (eShut (shutK ws)) := by
  unfold G_shut_faces mr_shut_faces
  have e : mDc (itT (mV 0)) [1, 2, 3] (.tp [(.nm 1), (.nm 2), (.nm 3)]) mYes (mA (guardN 3 G_face_name) (aCons (mV 1) (aCons (mV 2) (aCons (mV 3) aNil)))) (mC (.bl true)) [some (eWalls ws), none, none, none] = some (eShut (shutK ws)) := by
    have := shut_comp (vs := [1, 2, 3]) (t := .tp [(.nm 1), (.nm 2), (.nm 3)]) (mk := mA (guardN 3 G_face_name) (aCons (mV 1) (aCons (mV 2) (aCons (mV 3) aNil)))) (mv := mC (.bl true)) (S := [some (eWalls ws), none, none, none]) ws [] fun w _ => by
      refine ⟨[some (eWalls ws), some (.int w.1), some (.int w.2.1), some (.int w.2.2)], rfl, ?_, rfl⟩
      simp (config := { decide := false }) only [runF, initS, sSeq, sIf, sRet, sRetN, sSet, sSetF, sSetO, sDrop, sNext, sNever, sUnp, sUnpF, sApp, sAppF, sLend, sAugI, asgL_nm, asgL_tp, asgL_wt, asgsL_nil, asgsL_cons, asg_nm, asg_tp, asgs_nil, asgs_cons, wipeD, mAnd, mOr, mNot, mB, mTr, m2, m1, mV, mC, mA, mCh, mAndV, mOrV, aCons, aNil, guardN, op, cl, fl, opn, clos, flt, eqD_int, neD_int, gtD, ltD, leD, geD, addD, subD, negD, tupD, lstD, tupF, lstF, outD, notD, tru, isD, isnD, isN, flat_tp, flat_in, flat_bo, flat_no, flats_nl, flats_cn,
  List.map_cons, List.map_nil, List.length_cons, List.length_nil, List.replicate, List.getElem?_cons_zero, List.getElem?_cons_succ, List.getElem?_nil, List.cons_append, List.nil_append, Option.bind_some, Option.bind_none, Option.bind_assoc, Option.map_some, Option.map_none, Nat.reduceAdd, Nat.reduceSub, Nat.reduceLeDiff, List.set_cons_zero, List.set_cons_succ, if_true, if_false, ite_true, ite_false, reduceCtorEq, Bool.false_eq_true, Bool.not_true, Bool.not_false, ↓reduceIte, eq_self, g_face]
    unfold mDc
    show (if (ws.map eW).length ≤ 1000000 then _ else none) = _
    rw [if_pos (by rw [List.length_map]; exact hl)]
    exact congrArg (Option.map fun p => D.dic p.1 p.2) this
  show ((sRet _ [.dat (eWalls ws), .un, .un, .un]).bind outD) = _
  unfold sRet
  show (((mDc _ _ _ _ _ _ [some (eWalls ws), none, none, none]).map _).bind outD) = _
  rw [e]
  rfl
end Ice

namespace Ice
open PySem PySem.Spec PyProof.Rows L2
def isShut (ks : List (List Key)) (w : Int × Int × Int) : Bool := ks.any fun j => decide (j = kKey w)
def heatAt (hs : List Int) (s : Int) : Int := hs.getD s.toNat 0
def faceAt (hs : List Int) (cs : List (List Int)) (ks : List (List Key)) (r c : Int) (x : Int × Int × Int) : List (Int × Int) :=
  if isShut ks (face (r, c, x.1)) = true then [] else if inG cs (r + x.2.1) (c + x.2.2) = true then (if cellAt cs (r + x.2.1) (c + x.2.2) = 0 then [(x.1, heatAt hs 4)] else []) else [(x.1, heatAt hs x.1)]
def sides : List (Int × Int × Int) := [(0, -1, 0), (1, 0, 1), (2, 1, 0), (3, 0, -1)]
def eSide (x : Int × Int × Int) : D := .tup [.int x.1, .wt [.int x.2.1, .int x.2.2]]
def faces (hs : List Int) (cs : List (List Int)) (ks : List (List Key)) (r c : Int) : List (Int × Int) := if cellAt cs r c = 0 then [] else sides.foldl (fun z x => z ++ faceAt hs cs ks r c x) []
theorem in_shut (ks : List (List Key)) (w : Int × Int × Int) : inK (eW w) (eShut ks) = some (.bl (isShut ks w)) := by
  unfold inK eW eShut
  simp only [key_eW, Option.map_some]
  rfl
theorem ix_heat {hs : List Int} (hl : hs.length = 5) {s : Int} (h0 : 0 ≤ s) (h1 : s < 5) : ixD (eRow hs) (.int s) = some (.int (heatAt hs s)) := ix_row h0 (by rw [hl]; exact h1)
theorem sides_ok : ∀ x ∈ sides, 0 ≤ x.1 ∧ x.1 < 4 := by decide
theorem g_faces {hs : List Int} {cs : List (List Int)} (ks : List (List Key)) (hl : hs.length = 5) (g : Gr cs) {r c : Int} (hc : inG cs r c = true) :
    G__faces [eRow hs, eCells cs, eShut ks, .int r, .int c] = some (.lst ((faces hs cs ks r c).map e2)) := by
  obtain ⟨hx1, hx2⟩ := g.ix hc
  unfold G__faces mr__faces faces
  by_cases h0 : cellAt cs r c = 0
  · simp (config := { decide := false }) only [runF, initS, sSeq, sIf, sRet, sRetN, sSet, sSetF, sSetO, sDrop, sNext, sNever, sUnp, sUnpF, sApp, sAppF, sLend, sAugI, asgL_nm, asgL_tp, asgL_wt, asgsL_nil, asgsL_cons, asg_nm, asg_tp, asgs_nil, asgs_cons, wipeD, mAnd, mOr, mNot, mB, mTr, m2, m1, mV, mC, mA, mCh, mAndV, mOrV, aCons, aNil, guardN, op, cl, fl, opn, clos, flt, eqD_int, neD_int, gtD, ltD, leD, geD, addD, subD, negD, tupD, lstD, tupF, lstF, outD, notD, tru, isD, isnD, isN, flat_tp, flat_in, flat_bo, flat_no, flats_nl, flats_cn,
  List.map_cons, List.map_nil, List.length_cons, List.length_nil, List.replicate, List.getElem?_cons_zero, List.getElem?_cons_succ, List.getElem?_nil, List.cons_append, List.nil_append, Option.bind_some, Option.bind_none, Option.bind_assoc, Option.map_some, Option.map_none, Nat.reduceAdd, Nat.reduceSub, Nat.reduceLeDiff, List.set_cons_zero, List.set_cons_succ, if_true, if_false, ite_true, ite_false, reduceCtorEq, Bool.false_eq_true, Bool.not_true, Bool.not_false, ↓reduceIte, eq_self, hx1, hx2, h0, beq_self_eq_true]
  · have hb : (cellAt cs r c == 0) = false := beq_eq_false_iff_ne.mpr h0
    simp (config := { decide := false }) only [runF, initS, sSeq, sIf, sRet, sRetN, sSet, sSetF, sSetO, sDrop, sNext, sNever, sUnp, sUnpF, sApp, sAppF, sLend, sAugI, asgL_nm, asgL_tp, asgL_wt, asgsL_nil, asgsL_cons, asg_nm, asg_tp, asgs_nil, asgs_cons, wipeD, mAnd, mOr, mNot, mB, mTr, m2, m1, mV, mC, mA, mCh, mAndV, mOrV, aCons, aNil, guardN, op, cl, fl, opn, clos, flt, eqD_int, neD_int, gtD, ltD, leD, geD, addD, subD, negD, tupD, lstD, tupF, lstF, outD, notD, tru, isD, isnD, isN, flat_tp, flat_in, flat_bo, flat_no, flats_nl, flats_cn,
  List.map_cons, List.map_nil, List.length_cons, List.length_nil, List.replicate, List.getElem?_cons_zero, List.getElem?_cons_succ, List.getElem?_nil, List.cons_append, List.nil_append, Option.bind_some, Option.bind_none, Option.bind_assoc, Option.map_some, Option.map_none, Nat.reduceAdd, Nat.reduceSub, Nat.reduceLeDiff, List.set_cons_zero, List.set_cons_succ, if_true, if_false, ite_true, ite_false, reduceCtorEq, Bool.false_eq_true, Bool.not_true, Bool.not_false, ↓reduceIte, eq_self, hx1, hx2, hb, h0, beq_self_eq_true]
    refine bind_for eSide (fun n (z : List (Int × Int)) S => z.length + n ≤ 4 ∧ ∃ u v w, S = [.dat (eRow hs), .dat (eCells cs), .dat (eShut ks), .dat (.int r), .dat (.int c), .own (z.map e2), u, v, w]) (fun z x => z ++ faceAt hs cs ks r c x) sides [] ?_ ⟨by decide, .un, .un, .un, rfl⟩ ?_ ?_
    · rfl
    · rintro n z S ⟨hz, u, v, w, rfl⟩ x hx
      have hzl : (z.map e2).length < 1000000 := by rw [List.length_map]; omega
      have hs1 := sides_ok x hx
      have hh := ix_heat hl hs1.1 (Int.lt_trans hs1.2 (by decide))
      have h4 := ix_heat hl (s := 4) (by decide) (by decide)
      unfold faceAt
      by_cases h1 : isShut ks (face (r, c, x.1)) = true
      · apply turn_ct
        case h =>
          simp (config := { decide := false }) only [runF, initS, sSeq, sIf, sRet, sRetN, sSet, sSetF, sSetO, sDrop, sNext, sNever, sUnp, sUnpF, sApp, sAppF, sLend, sAugI, asgL_nm, asgL_tp, asgL_wt, asgsL_nil, asgsL_cons, asg_nm, asg_tp, asgs_nil, asgs_cons, wipeD, mAnd, mOr, mNot, mB, mTr, m2, m1, mV, mC, mA, mCh, mAndV, mOrV, aCons, aNil, guardN, op, cl, fl, opn, clos, flt, eqD_int, neD_int, gtD, ltD, leD, geD, addD, subD, negD, tupD, lstD, tupF, lstF, outD, notD, tru, isD, isnD, isN, flat_tp, flat_in, flat_bo, flat_no, flats_nl, flats_cn,
  List.map_cons, List.map_nil, List.length_cons, List.length_nil, List.replicate, List.getElem?_cons_zero, List.getElem?_cons_succ, List.getElem?_nil, List.cons_append, List.nil_append, Option.bind_some, Option.bind_none, Option.bind_assoc, Option.map_some, Option.map_none, Nat.reduceAdd, Nat.reduceSub, Nat.reduceLeDiff, List.set_cons_zero, List.set_cons_succ, if_true, if_false, ite_true, ite_false, reduceCtorEq, Bool.false_eq_true, Bool.not_true, Bool.not_false, ↓reduceIte, eq_self, eSide, g_face, in_shut, h1]
          rfl
        case p =>
          rw [if_pos h1, List.append_nil]
          exact ⟨by omega, _, _, _, rfl⟩
      · have h1' : isShut ks (face (r, c, x.1)) = false := Bool.eq_false_iff.mpr h1
        by_cases h2 : inG cs (r + x.2.1) (c + x.2.2) = true
        · obtain ⟨gx1, gx2⟩ := g.ix h2
          by_cases h3 : cellAt cs (r + x.2.1) (c + x.2.2) = 0
          · apply turn_nx
            case h =>
              simp (config := { decide := false }) only [runF, initS, sSeq, sIf, sRet, sRetN, sSet, sSetF, sSetO, sDrop, sNext, sNever, sUnp, sUnpF, sApp, sAppF, sLend, sAugI, asgL_nm, asgL_tp, asgL_wt, asgsL_nil, asgsL_cons, asg_nm, asg_tp, asgs_nil, asgs_cons, wipeD, mAnd, mOr, mNot, mB, mTr, m2, m1, mV, mC, mA, mCh, mAndV, mOrV, aCons, aNil, guardN, op, cl, fl, opn, clos, flt, eqD_int, neD_int, gtD, ltD, leD, geD, addD, subD, negD, tupD, lstD, tupF, lstF, outD, notD, tru, isD, isnD, isN, flat_tp, flat_in, flat_bo, flat_no, flats_nl, flats_cn,
  List.map_cons, List.map_nil, List.length_cons, List.length_nil, List.replicate, List.getElem?_cons_zero, List.getElem?_cons_succ, List.getElem?_nil, List.cons_append, List.nil_append, Option.bind_some, Option.bind_none, Option.bind_assoc, Option.map_some, Option.map_none, Nat.reduceAdd, Nat.reduceSub, Nat.reduceLeDiff, List.set_cons_zero, List.set_cons_succ, if_true, if_false, ite_true, ite_false, reduceCtorEq, Bool.false_eq_true, Bool.not_true, Bool.not_false, ↓reduceIte, eq_self, eSide, g_face, in_shut, h1', g_has_cell g, h2, gx1, gx2, h3, beq_self_eq_true, h4, hzl]
              rfl
            case p =>
              rw [if_neg h1, if_pos h2, if_pos h3]
              exact ⟨by rw [List.length_append]; show z.length + 1 + n ≤ 4; omega, _, _, _, by rw [List.map_append]; rfl⟩
          · apply turn_nx
            case h =>
              simp (config := { decide := false }) only [runF, initS, sSeq, sIf, sRet, sRetN, sSet, sSetF, sSetO, sDrop, sNext, sNever, sUnp, sUnpF, sApp, sAppF, sLend, sAugI, asgL_nm, asgL_tp, asgL_wt, asgsL_nil, asgsL_cons, asg_nm, asg_tp, asgs_nil, asgs_cons, wipeD, mAnd, mOr, mNot, mB, mTr, m2, m1, mV, mC, mA, mCh, mAndV, mOrV, aCons, aNil, guardN, op, cl, fl, opn, clos, flt, eqD_int, neD_int, gtD, ltD, leD, geD, addD, subD, negD, tupD, lstD, tupF, lstF, outD, notD, tru, isD, isnD, isN, flat_tp, flat_in, flat_bo, flat_no, flats_nl, flats_cn,
  List.map_cons, List.map_nil, List.length_cons, List.length_nil, List.replicate, List.getElem?_cons_zero, List.getElem?_cons_succ, List.getElem?_nil, List.cons_append, List.nil_append, Option.bind_some, Option.bind_none, Option.bind_assoc, Option.map_some, Option.map_none, Nat.reduceAdd, Nat.reduceSub, Nat.reduceLeDiff, List.set_cons_zero, List.set_cons_succ, if_true, if_false, ite_true, ite_false, reduceCtorEq, Bool.false_eq_true, Bool.not_true, Bool.not_false, ↓reduceIte, eq_self, eSide, g_face, in_shut, h1', g_has_cell g, h2, gx1, gx2, beq_eq_false_iff_ne.mpr h3, h4, hzl]
              rfl
            case p =>
              rw [if_neg h1, if_pos h2, if_neg h3, List.append_nil]
              exact ⟨by omega, _, _, _, rfl⟩
        · have h2' : inG cs (r + x.2.1) (c + x.2.2) = false := Bool.eq_false_iff.mpr h2
          apply turn_nx
          case h =>
            simp (config := { decide := false }) only [runF, initS, sSeq, sIf, sRet, sRetN, sSet, sSetF, sSetO, sDrop, sNext, sNever, sUnp, sUnpF, sApp, sAppF, sLend, sAugI, asgL_nm, asgL_tp, asgL_wt, asgsL_nil, asgsL_cons, asg_nm, asg_tp, asgs_nil, asgs_cons, wipeD, mAnd, mOr, mNot, mB, mTr, m2, m1, mV, mC, mA, mCh, mAndV, mOrV, aCons, aNil, guardN, op, cl, fl, opn, clos, flt, eqD_int, neD_int, gtD, ltD, leD, geD, addD, subD, negD, tupD, lstD, tupF, lstF, outD, notD, tru, isD, isnD, isN, flat_tp, flat_in, flat_bo, flat_no, flats_nl, flats_cn,
  List.map_cons, List.map_nil, List.length_cons, List.length_nil, List.replicate, List.getElem?_cons_zero, List.getElem?_cons_succ, List.getElem?_nil, List.cons_append, List.nil_append, Option.bind_some, Option.bind_none, Option.bind_assoc, Option.map_some, Option.map_none, Nat.reduceAdd, Nat.reduceSub, Nat.reduceLeDiff, List.set_cons_zero, List.set_cons_succ, if_true, if_false, ite_true, ite_false, reduceCtorEq, Bool.false_eq_true, Bool.not_true, Bool.not_false, ↓reduceIte, eq_self, eSide, g_face, in_shut, h1', g_has_cell g, h2', hh, hzl]
            rfl
          case p =>
            rw [if_neg h1, if_neg h2]
            exact ⟨by rw [List.length_append]; show z.length + 1 + n ≤ 4; omega, _, _, _, by rw [List.map_append]; rfl⟩
    · rintro S' ⟨hz, u, v, w, rfl⟩
      simp (config := { decide := false }) only [runF, initS, sSeq, sIf, sRet, sRetN, sSet, sSetF, sSetO, sDrop, sNext, sNever, sUnp, sUnpF, sApp, sAppF, sLend, sAugI, asgL_nm, asgL_tp, asgL_wt, asgsL_nil, asgsL_cons, asg_nm, asg_tp, asgs_nil, asgs_cons, wipeD, mAnd, mOr, mNot, mB, mTr, m2, m1, mV, mC, mA, mCh, mAndV, mOrV, aCons, aNil, guardN, op, cl, fl, opn, clos, flt, eqD_int, neD_int, gtD, ltD, leD, geD, addD, subD, negD, tupD, lstD, tupF, lstF, outD, notD, tru, isD, isnD, isN, flat_tp, flat_in, flat_bo, flat_no, flats_nl, flats_cn,
  List.map_cons, List.map_nil, List.length_cons, List.length_nil, List.replicate, List.getElem?_cons_zero, List.getElem?_cons_succ, List.getElem?_nil, List.cons_append, List.nil_append, Option.bind_some, Option.bind_none, Option.bind_assoc, Option.map_some, Option.map_none, Nat.reduceAdd, Nat.reduceSub, Nat.reduceLeDiff, List.set_cons_zero, List.set_cons_succ, if_true, if_false, ite_true, ite_false, reduceCtorEq, Bool.false_eq_true, Bool.not_true, Bool.not_false, ↓reduceIte, eq_self]
end Ice

namespace Ice
open PySem PySem.Spec PyProof.Rows L2
theorem faceAt_len (hs : List Int) (cs : List (List Int)) (ks : List (List Key)) (r c : Int) (x : Int × Int × Int) : (faceAt hs cs ks r c x).length ≤ 1 := by
  unfold faceAt
  split
  · exact Nat.zero_le _
  · split
    · split
      · exact Nat.le_refl _
      · exact Nat.zero_le _
    · exact Nat.le_refl _
theorem faces_len (hs : List Int) (cs : List (List Int)) (ks : List (List Key)) (r c : Int) : (faces hs cs ks r c).length ≤ 4 := by
  unfold faces
  split
  · exact Nat.zero_le _
  · have h := faceAt_len hs cs ks r c
    have a := h (0, -1, 0)
    have b := h (1, 0, 1)
    have d := h (2, 1, 0)
    have e := h (3, 0, -1)
    simp only [sides, List.foldl_cons, List.foldl_nil, List.nil_append, List.length_append]
    omega
def rate (hs : List Int) (cs : List (List Int)) (ks : List (List Key)) (r c : Int) : Int := ((faces hs cs ks r c).map fun x => x.2).sum
def rates (hs : List Int) (cs : List (List Int)) (ks : List (List Key)) : List (List Int) := (List.range cs.length).map fun (r : Nat) => (List.range (wide cs)).map fun (c : Nat) => rate hs cs ks r c
theorem sum_ints (ns : List Int) : sumA [.lst (ns.map .int)] = some (.int ns.sum) := by
  show (intsOf (ns.map .int)).map _ = _
  rw [intsOf_map]
  rfl
theorem g_loss {hs : List Int} {cs : List (List Int)} (ks : List (List Key)) (hl : hs.length = 5) (g : Gr cs) {r c : Int} (hc : inG cs r c = true) :
    G__loss [eRow hs, eCells cs, eShut ks, .int r, .int c] = some (.int (rate hs cs ks r c)) := by
  unfold G__loss mr__loss
  simp (config := { decide := false }) only [runF, initS, sSeq, sIf, sRet, sRetN, sSet, sSetF, sSetO, sDrop, sNext, sNever, sUnp, sUnpF, sApp, sAppF, sLend, sAugI, asgL_nm, asgL_tp, asgL_wt, asgsL_nil, asgsL_cons, asg_nm, asg_tp, asgs_nil, asgs_cons, wipeD, mAnd, mOr, mNot, mB, mTr, m2, m1, mV, mC, mA, mCh, mAndV, mOrV, aCons, aNil, guardN, op, cl, fl, opn, clos, flt, eqD_int, neD_int, gtD, ltD, leD, geD, addD, subD, negD, tupD, lstD, tupF, lstF, outD, notD, tru, isD, isnD, isN, flat_tp, flat_in, flat_bo, flat_no, flats_nl, flats_cn,
  List.map_cons, List.map_nil, List.length_cons, List.length_nil, List.replicate, List.getElem?_cons_zero, List.getElem?_cons_succ, List.getElem?_nil, List.cons_append, List.nil_append, Option.bind_some, Option.bind_none, Option.bind_assoc, Option.map_some, Option.map_none, Nat.reduceAdd, Nat.reduceSub, Nat.reduceLeDiff, List.set_cons_zero, List.set_cons_succ, if_true, if_false, ite_true, ite_false, reduceCtorEq, Bool.false_eq_true, Bool.not_true, Bool.not_false, ↓reduceIte, eq_self]
  rw [mLc_map e2 (fun x => D.int x.2) (faces hs cs ks r c) (by simp (config := { decide := false }) only [runF, initS, sSeq, sIf, sRet, sRetN, sSet, sSetF, sSetO, sDrop, sNext, sNever, sUnp, sUnpF, sApp, sAppF, sLend, sAugI, asgL_nm, asgL_tp, asgL_wt, asgsL_nil, asgsL_cons, asg_nm, asg_tp, asgs_nil, asgs_cons, wipeD, mAnd, mOr, mNot, mB, mTr, m2, m1, mV, mC, mA, mCh, mAndV, mOrV, aCons, aNil, guardN, op, cl, fl, opn, clos, flt, eqD_int, neD_int, gtD, ltD, leD, geD, addD, subD, negD, tupD, lstD, tupF, lstF, outD, notD, tru, isD, isnD, isN, flat_tp, flat_in, flat_bo, flat_no, flats_nl, flats_cn,
  List.map_cons, List.map_nil, List.length_cons, List.length_nil, List.replicate, List.getElem?_cons_zero, List.getElem?_cons_succ, List.getElem?_nil, List.cons_append, List.nil_append, Option.bind_some, Option.bind_none, Option.bind_assoc, Option.map_some, Option.map_none, Nat.reduceAdd, Nat.reduceSub, Nat.reduceLeDiff, List.set_cons_zero, List.set_cons_succ, if_true, if_false, ite_true, ite_false, reduceCtorEq, Bool.false_eq_true, Bool.not_true, Bool.not_false, ↓reduceIte, eq_self, itL, g_faces ks hl g hc]) (Nat.le_trans (faces_len hs cs ks r c) (by decide)) (fun x _ => ⟨_, rfl, rfl⟩)]
  simp (config := { decide := false }) only [runF, initS, sSeq, sIf, sRet, sRetN, sSet, sSetF, sSetO, sDrop, sNext, sNever, sUnp, sUnpF, sApp, sAppF, sLend, sAugI, asgL_nm, asgL_tp, asgL_wt, asgsL_nil, asgsL_cons, asg_nm, asg_tp, asgs_nil, asgs_cons, wipeD, mAnd, mOr, mNot, mB, mTr, m2, m1, mV, mC, mA, mCh, mAndV, mOrV, aCons, aNil, guardN, op, cl, fl, opn, clos, flt, eqD_int, neD_int, gtD, ltD, leD, geD, addD, subD, negD, tupD, lstD, tupF, lstF, outD, notD, tru, isD, isnD, isN, flat_tp, flat_in, flat_bo, flat_no, flats_nl, flats_cn,
  List.map_cons, List.map_nil, List.length_cons, List.length_nil, List.replicate, List.getElem?_cons_zero, List.getElem?_cons_succ, List.getElem?_nil, List.cons_append, List.nil_append, Option.bind_some, Option.bind_none, Option.bind_assoc, Option.map_some, Option.map_none, Nat.reduceAdd, Nat.reduceSub, Nat.reduceLeDiff, List.set_cons_zero, List.set_cons_succ, if_true, if_false, ite_true, ite_false, reduceCtorEq, Bool.false_eq_true, Bool.not_true, Bool.not_false, ↓reduceIte, eq_self]
  have e : (faces hs cs ks r c).map (fun x => D.int x.2) = ((faces hs cs ks r c).map fun x => x.2).map D.int := by rw [List.map_map]; rfl
  rw [e, sum_ints]
  rfl
theorem inG_nat {cs : List (List Int)} {r c : Nat} (h1 : r < cs.length) (h2 : c < wide cs) : inG cs r c = true := by
  unfold inG
  rw [Bool.and_eq_true, decide_eq_true_iff, decide_eq_true_iff]
  omega
theorem map_row (f : Nat → Int) (n : Nat) : D.tup ((List.range n).map fun (c : Nat) => D.int (f c)) = eRow ((List.range n).map f) := by
  unfold eRow
  rw [List.map_map]
  rfl
theorem g_losses {hs : List Int} {cs : List (List Int)} (ks : List (List Key)) (hl : hs.length = 5) (g : Gr cs) :
    G__losses [eRow hs, eCells cs, eShut ks] = some (eCells (rates hs cs ks)) := by
  unfold G__losses mr__losses
  have hi := g.hi
  have hw := g.wi
  simp (config := { decide := false }) only [runF, initS, sSeq, sIf, sRet, sRetN, sSet, sSetF, sSetO, sDrop, sNext, sNever, sUnp, sUnpF, sApp, sAppF, sLend, sAugI, asgL_nm, asgL_tp, asgL_wt, asgsL_nil, asgsL_cons, asg_nm, asg_tp, asgs_nil, asgs_cons, wipeD, mAnd, mOr, mNot, mB, mTr, m2, m1, mV, mC, mA, mCh, mAndV, mOrV, aCons, aNil, guardN, op, cl, fl, opn, clos, flt, eqD_int, neD_int, gtD, ltD, leD, geD, addD, subD, negD, tupD, lstD, tupF, lstF, outD, notD, tru, isD, isnD, isN, flat_tp, flat_in, flat_bo, flat_no, flats_nl, flats_cn,
  List.map_cons, List.map_nil, List.length_cons, List.length_nil, List.replicate, List.getElem?_cons_zero, List.getElem?_cons_succ, List.getElem?_nil, List.cons_append, List.nil_append, Option.bind_some, Option.bind_none, Option.bind_assoc, Option.map_some, Option.map_none, Nat.reduceAdd, Nat.reduceSub, Nat.reduceLeDiff, List.set_cons_zero, List.set_cons_succ, if_true, if_false, ite_true, ite_false, reduceCtorEq, Bool.false_eq_true, Bool.not_true, Bool.not_false, ↓reduceIte, eq_self]
  rw [mLc_map (fun (r : Nat) => D.int r) (fun (r : Nat) => eRow ((List.range (wide cs)).map fun (c : Nat) => rate hs cs ks r c)) (List.range cs.length) (itR1_at (by simp (config := { decide := false }) only [runF, initS, sSeq, sIf, sRet, sRetN, sSet, sSetF, sSetO, sDrop, sNext, sNever, sUnp, sUnpF, sApp, sAppF, sLend, sAugI, asgL_nm, asgL_tp, asgL_wt, asgsL_nil, asgsL_cons, asg_nm, asg_tp, asgs_nil, asgs_cons, wipeD, mAnd, mOr, mNot, mB, mTr, m2, m1, mV, mC, mA, mCh, mAndV, mOrV, aCons, aNil, guardN, op, cl, fl, opn, clos, flt, eqD_int, neD_int, gtD, ltD, leD, geD, addD, subD, negD, tupD, lstD, tupF, lstF, outD, notD, tru, isD, isnD, isN, flat_tp, flat_in, flat_bo, flat_no, flats_nl, flats_cn,
  List.map_cons, List.map_nil, List.length_cons, List.length_nil, List.replicate, List.getElem?_cons_zero, List.getElem?_cons_succ, List.getElem?_nil, List.cons_append, List.nil_append, Option.bind_some, Option.bind_none, Option.bind_assoc, Option.map_some, Option.map_none, Nat.reduceAdd, Nat.reduceSub, Nat.reduceLeDiff, List.set_cons_zero, List.set_cons_succ, if_true, if_false, ite_true, ite_false, reduceCtorEq, Bool.false_eq_true, Bool.not_true, Bool.not_false, ↓reduceIte, eq_self, len_cells]) (by omega)) (by rw [List.length_range]; omega) (fun r hr => ⟨_, rfl, by
    have hr' := List.mem_range.mp hr
    simp (config := { decide := false }) only [runF, initS, sSeq, sIf, sRet, sRetN, sSet, sSetF, sSetO, sDrop, sNext, sNever, sUnp, sUnpF, sApp, sAppF, sLend, sAugI, asgL_nm, asgL_tp, asgL_wt, asgsL_nil, asgsL_cons, asg_nm, asg_tp, asgs_nil, asgs_cons, wipeD, mAnd, mOr, mNot, mB, mTr, m2, m1, mV, mC, mA, mCh, mAndV, mOrV, aCons, aNil, guardN, op, cl, fl, opn, clos, flt, eqD_int, neD_int, gtD, ltD, leD, geD, addD, subD, negD, tupD, lstD, tupF, lstF, outD, notD, tru, isD, isnD, isN, flat_tp, flat_in, flat_bo, flat_no, flats_nl, flats_cn,
  List.map_cons, List.map_nil, List.length_cons, List.length_nil, List.replicate, List.getElem?_cons_zero, List.getElem?_cons_succ, List.getElem?_nil, List.cons_append, List.nil_append, Option.bind_some, Option.bind_none, Option.bind_assoc, Option.map_some, Option.map_none, Nat.reduceAdd, Nat.reduceSub, Nat.reduceLeDiff, List.set_cons_zero, List.set_cons_succ, if_true, if_false, ite_true, ite_false, reduceCtorEq, Bool.false_eq_true, Bool.not_true, Bool.not_false, ↓reduceIte, eq_self]
    rw [mLc_map (fun (c : Nat) => D.int c) (fun (c : Nat) => D.int (rate hs cs ks r c)) (List.range (wide cs)) (itR1_at (by simp (config := { decide := false }) only [runF, initS, sSeq, sIf, sRet, sRetN, sSet, sSetF, sSetO, sDrop, sNext, sNever, sUnp, sUnpF, sApp, sAppF, sLend, sAugI, asgL_nm, asgL_tp, asgL_wt, asgsL_nil, asgsL_cons, asg_nm, asg_tp, asgs_nil, asgs_cons, wipeD, mAnd, mOr, mNot, mB, mTr, m2, m1, mV, mC, mA, mCh, mAndV, mOrV, aCons, aNil, guardN, op, cl, fl, opn, clos, flt, eqD_int, neD_int, gtD, ltD, leD, geD, addD, subD, negD, tupD, lstD, tupF, lstF, outD, notD, tru, isD, isnD, isN, flat_tp, flat_in, flat_bo, flat_no, flats_nl, flats_cn,
  List.map_cons, List.map_nil, List.length_cons, List.length_nil, List.replicate, List.getElem?_cons_zero, List.getElem?_cons_succ, List.getElem?_nil, List.cons_append, List.nil_append, Option.bind_some, Option.bind_none, Option.bind_assoc, Option.map_some, Option.map_none, Nat.reduceAdd, Nat.reduceSub, Nat.reduceLeDiff, List.set_cons_zero, List.set_cons_succ, if_true, if_false, ite_true, ite_false, reduceCtorEq, Bool.false_eq_true, Bool.not_true, Bool.not_false, ↓reduceIte, eq_self, g.zero, len_row]; rfl) (by omega)) (by rw [List.length_range]; omega) (fun c hc => ⟨_, rfl, by
      have hc' := List.mem_range.mp hc
      simp (config := { decide := false }) only [runF, initS, sSeq, sIf, sRet, sRetN, sSet, sSetF, sSetO, sDrop, sNext, sNever, sUnp, sUnpF, sApp, sAppF, sLend, sAugI, asgL_nm, asgL_tp, asgL_wt, asgsL_nil, asgsL_cons, asg_nm, asg_tp, asgs_nil, asgs_cons, wipeD, mAnd, mOr, mNot, mB, mTr, m2, m1, mV, mC, mA, mCh, mAndV, mOrV, aCons, aNil, guardN, op, cl, fl, opn, clos, flt, eqD_int, neD_int, gtD, ltD, leD, geD, addD, subD, negD, tupD, lstD, tupF, lstF, outD, notD, tru, isD, isnD, isN, flat_tp, flat_in, flat_bo, flat_no, flats_nl, flats_cn,
  List.map_cons, List.map_nil, List.length_cons, List.length_nil, List.replicate, List.getElem?_cons_zero, List.getElem?_cons_succ, List.getElem?_nil, List.cons_append, List.nil_append, Option.bind_some, Option.bind_none, Option.bind_assoc, Option.map_some, Option.map_none, Nat.reduceAdd, Nat.reduceSub, Nat.reduceLeDiff, List.set_cons_zero, List.set_cons_succ, if_true, if_false, ite_true, ite_false, reduceCtorEq, Bool.false_eq_true, Bool.not_true, Bool.not_false, ↓reduceIte, eq_self, g_loss ks hl g (inG_nat hr' hc')]⟩)]
    simp (config := { decide := false }) only [runF, initS, sSeq, sIf, sRet, sRetN, sSet, sSetF, sSetO, sDrop, sNext, sNever, sUnp, sUnpF, sApp, sAppF, sLend, sAugI, asgL_nm, asgL_tp, asgL_wt, asgsL_nil, asgsL_cons, asg_nm, asg_tp, asgs_nil, asgs_cons, wipeD, mAnd, mOr, mNot, mB, mTr, m2, m1, mV, mC, mA, mCh, mAndV, mOrV, aCons, aNil, guardN, op, cl, fl, opn, clos, flt, eqD_int, neD_int, gtD, ltD, leD, geD, addD, subD, negD, tupD, lstD, tupF, lstF, outD, notD, tru, isD, isnD, isN, flat_tp, flat_in, flat_bo, flat_no, flats_nl, flats_cn,
  List.map_cons, List.map_nil, List.length_cons, List.length_nil, List.replicate, List.getElem?_cons_zero, List.getElem?_cons_succ, List.getElem?_nil, List.cons_append, List.nil_append, Option.bind_some, Option.bind_none, Option.bind_assoc, Option.map_some, Option.map_none, Nat.reduceAdd, Nat.reduceSub, Nat.reduceLeDiff, List.set_cons_zero, List.set_cons_succ, if_true, if_false, ite_true, ite_false, reduceCtorEq, Bool.false_eq_true, Bool.not_true, Bool.not_false, ↓reduceIte, eq_self]
    rw [map_row (fun c => rate hs cs ks r c)]⟩)]
  simp (config := { decide := false }) only [runF, initS, sSeq, sIf, sRet, sRetN, sSet, sSetF, sSetO, sDrop, sNext, sNever, sUnp, sUnpF, sApp, sAppF, sLend, sAugI, asgL_nm, asgL_tp, asgL_wt, asgsL_nil, asgsL_cons, asg_nm, asg_tp, asgs_nil, asgs_cons, wipeD, mAnd, mOr, mNot, mB, mTr, m2, m1, mV, mC, mA, mCh, mAndV, mOrV, aCons, aNil, guardN, op, cl, fl, opn, clos, flt, eqD_int, neD_int, gtD, ltD, leD, geD, addD, subD, negD, tupD, lstD, tupF, lstF, outD, notD, tru, isD, isnD, isN, flat_tp, flat_in, flat_bo, flat_no, flats_nl, flats_cn,
  List.map_cons, List.map_nil, List.length_cons, List.length_nil, List.replicate, List.getElem?_cons_zero, List.getElem?_cons_succ, List.getElem?_nil, List.cons_append, List.nil_append, Option.bind_some, Option.bind_none, Option.bind_assoc, Option.map_some, Option.map_none, Nat.reduceAdd, Nat.reduceSub, Nat.reduceLeDiff, List.set_cons_zero, List.set_cons_succ, if_true, if_false, ite_true, ite_false, reduceCtorEq, Bool.false_eq_true, Bool.not_true, Bool.not_false, ↓reduceIte, eq_self]
  unfold eCells rates
  rw [List.map_map]
  rfl
theorem pairUp_zip {α β : Type} (e : α → D) (f : β → D) : ∀ (xs : List α) (ys : List β), pairUp (xs.map e) (ys.map f) = (xs.zip ys).map fun p => .tup [e p.1, f p.2]
  | [], _ => by unfold pairUp; rfl
  | x :: xs, [] => rfl
  | x :: xs, y :: ys => by
    show D.tup [e x, f y] :: pairUp (xs.map e) (ys.map f) = _
    rw [pairUp_zip e f xs ys]
    rfl
theorem compM2_map {α : Type} {vs vs1 : List Nat} {t t1 : Tg} {tt tt1 : Mt} {mi1 : Ma} {me : Mi} {S : Sd} (e : α → D) (L : α → List D) : ∀ (xs : List α),
    (∀ x ∈ xs, ∃ S1 ds1, asg t (e x) (wipeD S vs) = some S1 ∧ tt S1 = some true ∧ mi1 S1 = some ds1 ∧ compM vs1 t1 tt1 me S1 ds1 = some (L x)) → compM2 vs t tt mi1 vs1 t1 tt1 me S (xs.map e) = some ((xs.map L).flatten)
  | [], _ => rfl
  | x :: xs, h => by
    obtain ⟨S1, ds1, h1, h2, h3, h4⟩ := h x List.mem_cons_self
    have ih := compM2_map e L xs fun y hy => h y (List.mem_cons_of_mem _ hy)
    rw [List.map_cons]
    unfold compM2
    simp only [h1, h2, h3, h4, ih, Option.bind_some, Option.map_some, if_true, List.map_cons, List.flatten_cons]
def cap (q : Int × Int) : Int := (q.1 + q.2 - 1) / q.2
def stepsRow (p : List Int × List Int) : List Int := ((p.1.zip p.2).filter fun q => decide (0 < q.2)).map cap
def steps (cs ls : List (List Int)) : List Int := ((cs.zip ls).map stepsRow).flatten
def eOpt : Option Int → D
  | some m => .int m
  | none => .non
theorem map_flatten_int (L : List (List Int)) : (L.map fun l => l.map D.int).flatten = L.flatten.map D.int := by
  induction L with
  | nil => rfl
  | cons l L ih => rw [List.map_cons, List.flatten_cons, List.flatten_cons, List.map_append, ih]
theorem flatten_len {n m : Nat} {L : List (List Int)} (h : ∀ l ∈ L, l.length ≤ m) (hn : L.length ≤ n) : L.flatten.length ≤ n * m := by
  induction L generalizing n with
  | nil => exact Nat.zero_le _
  | cons l L ih =>
    cases n with
    | zero => cases hn
    | succ n =>
      rw [List.flatten_cons, List.length_append, Nat.succ_mul]
      have a := h l List.mem_cons_self
      have b := ih (n := n) (fun l hl => h l (List.mem_cons_of_mem _ hl)) (Nat.le_of_succ_le_succ hn)
      omega
theorem g_hours {cs ls : List (List Int)} (g : Gr cs) (hb : ∀ l ∈ ls, ∀ x ∈ l, x < 1073741824) : G__hours_to_empty [eCells cs, eCells ls] = some (eOpt (minL (steps cs ls))) := by
  unfold G__hours_to_empty mr__hours_to_empty
  simp (config := { decide := false }) only [runF, initS, sSeq, sIf, sRet, sRetN, sSet, sSetF, sSetO, sDrop, sNext, sNever, sUnp, sUnpF, sApp, sAppF, sLend, sAugI, asgL_nm, asgL_tp, asgL_wt, asgsL_nil, asgsL_cons, asg_nm, asg_tp, asgs_nil, asgs_cons, wipeD, mAnd, mOr, mNot, mB, mTr, m2, m1, mV, mC, mA, mCh, mAndV, mOrV, aCons, aNil, guardN, op, cl, fl, opn, clos, flt, eqD_int, neD_int, gtD, ltD, leD, geD, addD, subD, negD, tupD, lstD, tupF, lstF, outD, notD, tru, isD, isnD, isN, flat_tp, flat_in, flat_bo, flat_no, flats_nl, flats_cn,
  List.map_cons, List.map_nil, List.length_cons, List.length_nil, List.replicate, List.getElem?_cons_zero, List.getElem?_cons_succ, List.getElem?_nil, List.cons_append, List.nil_append, Option.bind_some, Option.bind_none, Option.bind_assoc, Option.map_some, Option.map_none, Nat.reduceAdd, Nat.reduceSub, Nat.reduceLeDiff, List.set_cons_zero, List.set_cons_succ, if_true, if_false, ite_true, ite_false, reduceCtorEq, Bool.false_eq_true, Bool.not_true, Bool.not_false, ↓reduceIte, eq_self]
  have e : mLc2 (itZ (aCons (mV 0) (aCons (mV 1) aNil))) [2, 3, 4, 5] (.tp [(.nm 2), (.nm 3)]) mYes (itZ (aCons (mV 2) (aCons (mV 3) aNil))) [4, 5] (.tp [(.nm 4), (.nm 5)]) (mB (m2 gtD (mV 5) (mC (.int 0)))) (m2 divD (m2 subD (m2 addD (mV 4) (mV 5)) (mC (.int 1))) (mV 5)) [some (eCells cs), some (eCells ls), none, none, none, none] = some (.lst ((steps cs ls).map .int)) := by
    unfold mLc2
    have hi : itZ (aCons (mV 0) (aCons (mV 1) aNil)) [some (eCells cs), some (eCells ls), none, none, none, none] = some ((cs.zip ls).map fun p => .tup [eRow p.1, eRow p.2]) := by
      show some (pairUp (cs.map eRow) (ls.map eRow)) = _
      rw [pairUp_zip]
    rw [hi]
    simp only [Option.bind_some]
    rw [compM2_map (fun p : List Int × List Int => D.tup [eRow p.1, eRow p.2]) (fun p => (stepsRow p).map D.int) (cs.zip ls) fun p hp => ⟨_, (p.1.zip p.2).map fun q => .tup [.int q.1, .int q.2], rfl, rfl, by
        show some (pairUp (p.1.map D.int) (p.2.map D.int)) = _
        rw [pairUp_zip], by
        have hp2 := (List.of_mem_zip hp).2
        rw [compM_map (fun q : Int × Int => D.tup [.int q.1, .int q.2]) (fun q => D.int (cap q)) (fun q => decide (0 < q.2)) (p.1.zip p.2) fun q hq => ⟨_, rfl, rfl, fun hpos => by
          have h0 : 0 < q.2 := of_decide_eq_true hpos
          have h1 := hb _ hp2 _ (List.of_mem_zip hq).2
          simp (config := { decide := false }) only [runF, initS, sSeq, sIf, sRet, sRetN, sSet, sSetF, sSetO, sDrop, sNext, sNever, sUnp, sUnpF, sApp, sAppF, sLend, sAugI, asgL_nm, asgL_tp, asgL_wt, asgsL_nil, asgsL_cons, asg_nm, asg_tp, asgs_nil, asgs_cons, wipeD, mAnd, mOr, mNot, mB, mTr, m2, m1, mV, mC, mA, mCh, mAndV, mOrV, aCons, aNil, guardN, op, cl, fl, opn, clos, flt, eqD_int, neD_int, gtD, ltD, leD, geD, addD, subD, negD, tupD, lstD, tupF, lstF, outD, notD, tru, isD, isnD, isN, flat_tp, flat_in, flat_bo, flat_no, flats_nl, flats_cn,
  List.map_cons, List.map_nil, List.length_cons, List.length_nil, List.replicate, List.getElem?_cons_zero, List.getElem?_cons_succ, List.getElem?_nil, List.cons_append, List.nil_append, Option.bind_some, Option.bind_none, Option.bind_assoc, Option.map_some, Option.map_none, Nat.reduceAdd, Nat.reduceSub, Nat.reduceLeDiff, List.set_cons_zero, List.set_cons_succ, if_true, if_false, ite_true, ite_false, reduceCtorEq, Bool.false_eq_true, Bool.not_true, Bool.not_false, ↓reduceIte, eq_self, divD]
          rw [if_pos ⟨h0, h1⟩]
          rfl⟩]
        unfold stepsRow
        rw [List.map_map]
        rfl⟩]
    have e2 : ((cs.zip ls).map fun p => (stepsRow p).map D.int).flatten = (steps cs ls).map D.int := by
      unfold steps
      rw [← map_flatten_int, List.map_map]
      rfl
    rw [e2]
    simp only [Option.bind_some]
    rw [if_pos]
    rw [List.length_map]
    unfold steps
    refine Nat.le_trans (flatten_len (n := 4) (m := 4) (fun l hl => ?_) ?_) (by decide)
    · obtain ⟨p, hp, rfl⟩ := List.mem_map.mp hl
      unfold stepsRow
      rw [List.length_map]
      refine Nat.le_trans (List.length_filter_le _ _) ?_
      rw [List.length_zip]
      have := g.all _ (List.of_mem_zip hp).1
      have := g.wi
      omega
    · rw [List.length_map, List.length_zip]
      have := g.hi
      omega
  rw [e]
  simp (config := { decide := false }) only [runF, initS, sSeq, sIf, sRet, sRetN, sSet, sSetF, sSetO, sDrop, sNext, sNever, sUnp, sUnpF, sApp, sAppF, sLend, sAugI, asgL_nm, asgL_tp, asgL_wt, asgsL_nil, asgsL_cons, asg_nm, asg_tp, asgs_nil, asgs_cons, wipeD, mAnd, mOr, mNot, mB, mTr, m2, m1, mV, mC, mA, mCh, mAndV, mOrV, aCons, aNil, guardN, op, cl, fl, opn, clos, flt, eqD_int, neD_int, gtD, ltD, leD, geD, addD, subD, negD, tupD, lstD, tupF, lstF, outD, notD, tru, isD, isnD, isN, flat_tp, flat_in, flat_bo, flat_no, flats_nl, flats_cn,
  List.map_cons, List.map_nil, List.length_cons, List.length_nil, List.replicate, List.getElem?_cons_zero, List.getElem?_cons_succ, List.getElem?_nil, List.cons_append, List.nil_append, Option.bind_some, Option.bind_none, Option.bind_assoc, Option.map_some, Option.map_none, Nat.reduceAdd, Nat.reduceSub, Nat.reduceLeDiff, List.set_cons_zero, List.set_cons_succ, if_true, if_false, ite_true, ite_false, reduceCtorEq, Bool.false_eq_true, Bool.not_true, Bool.not_false, ↓reduceIte, eq_self, minDF, intsOf_map]
  unfold eOpt
  rfl
def mx (j : Int) : Int := if j > 0 then j else 0
def melt (cs ls : List (List Int)) (n : Int) : List (List Int) := (cs.zip ls).map fun p => (p.1.zip p.2).map fun q => mx (q.1 - q.2 * n)
theorem g_melt {cs ls : List (List Int)} (g : Gr cs) (hb : ∀ l ∈ ls, ∀ x ∈ l, -18446744073709551616 < x ∧ x < 18446744073709551616) (n : Int) : G__melt [eCells cs, eCells ls, .int n] = some (eCells (melt cs ls n)) := by
  unfold G__melt mr__melt
  simp (config := { decide := false }) only [runF, initS, sSeq, sIf, sRet, sRetN, sSet, sSetF, sSetO, sDrop, sNext, sNever, sUnp, sUnpF, sApp, sAppF, sLend, sAugI, asgL_nm, asgL_tp, asgL_wt, asgsL_nil, asgsL_cons, asg_nm, asg_tp, asgs_nil, asgs_cons, wipeD, mAnd, mOr, mNot, mB, mTr, m2, m1, mV, mC, mA, mCh, mAndV, mOrV, aCons, aNil, guardN, op, cl, fl, opn, clos, flt, eqD_int, neD_int, gtD, ltD, leD, geD, addD, subD, negD, tupD, lstD, tupF, lstF, outD, notD, tru, isD, isnD, isN, flat_tp, flat_in, flat_bo, flat_no, flats_nl, flats_cn,
  List.map_cons, List.map_nil, List.length_cons, List.length_nil, List.replicate, List.getElem?_cons_zero, List.getElem?_cons_succ, List.getElem?_nil, List.cons_append, List.nil_append, Option.bind_some, Option.bind_none, Option.bind_assoc, Option.map_some, Option.map_none, Nat.reduceAdd, Nat.reduceSub, Nat.reduceLeDiff, List.set_cons_zero, List.set_cons_succ, if_true, if_false, ite_true, ite_false, reduceCtorEq, Bool.false_eq_true, Bool.not_true, Bool.not_false, ↓reduceIte, eq_self]
  have hi := g.hi
  have hw := g.wi
  rw [mLc_map (fun p : List Int × List Int => D.tup [eRow p.1, eRow p.2]) (fun p => eRow ((p.1.zip p.2).map fun q => mx (q.1 - q.2 * n))) (cs.zip ls) (by
      show some (pairUp (cs.map eRow) (ls.map eRow)) = _
      rw [pairUp_zip]) (by rw [List.length_zip]; omega) (fun p hp => ⟨_, rfl, by
    have hp2 := (List.of_mem_zip hp).2
    have hp1 := g.all _ (List.of_mem_zip hp).1
    simp (config := { decide := false }) only [runF, initS, sSeq, sIf, sRet, sRetN, sSet, sSetF, sSetO, sDrop, sNext, sNever, sUnp, sUnpF, sApp, sAppF, sLend, sAugI, asgL_nm, asgL_tp, asgL_wt, asgsL_nil, asgsL_cons, asg_nm, asg_tp, asgs_nil, asgs_cons, wipeD, mAnd, mOr, mNot, mB, mTr, m2, m1, mV, mC, mA, mCh, mAndV, mOrV, aCons, aNil, guardN, op, cl, fl, opn, clos, flt, eqD_int, neD_int, gtD, ltD, leD, geD, addD, subD, negD, tupD, lstD, tupF, lstF, outD, notD, tru, isD, isnD, isN, flat_tp, flat_in, flat_bo, flat_no, flats_nl, flats_cn,
  List.map_cons, List.map_nil, List.length_cons, List.length_nil, List.replicate, List.getElem?_cons_zero, List.getElem?_cons_succ, List.getElem?_nil, List.cons_append, List.nil_append, Option.bind_some, Option.bind_none, Option.bind_assoc, Option.map_some, Option.map_none, Nat.reduceAdd, Nat.reduceSub, Nat.reduceLeDiff, List.set_cons_zero, List.set_cons_succ, if_true, if_false, ite_true, ite_false, reduceCtorEq, Bool.false_eq_true, Bool.not_true, Bool.not_false, ↓reduceIte, eq_self]
    rw [mLc_map (fun q : Int × Int => D.tup [.int q.1, .int q.2]) (fun q => D.int (mx (q.1 - q.2 * n))) (p.1.zip p.2) (by
        show some (pairUp (p.1.map D.int) (p.2.map D.int)) = _
        rw [pairUp_zip]) (by rw [List.length_zip]; omega) (fun q hq => ⟨_, rfl, by
      have h1 := hb _ hp2 _ (List.of_mem_zip hq).2
      simp (config := { decide := false }) only [runF, initS, sSeq, sIf, sRet, sRetN, sSet, sSetF, sSetO, sDrop, sNext, sNever, sUnp, sUnpF, sApp, sAppF, sLend, sAugI, asgL_nm, asgL_tp, asgL_wt, asgsL_nil, asgsL_cons, asg_nm, asg_tp, asgs_nil, asgs_cons, wipeD, mAnd, mOr, mNot, mB, mTr, m2, m1, mV, mC, mA, mCh, mAndV, mOrV, aCons, aNil, guardN, op, cl, fl, opn, clos, flt, eqD_int, neD_int, gtD, ltD, leD, geD, addD, subD, negD, tupD, lstD, tupF, lstF, outD, notD, tru, isD, isnD, isN, flat_tp, flat_in, flat_bo, flat_no, flats_nl, flats_cn,
  List.map_cons, List.map_nil, List.length_cons, List.length_nil, List.replicate, List.getElem?_cons_zero, List.getElem?_cons_succ, List.getElem?_nil, List.cons_append, List.nil_append, Option.bind_some, Option.bind_none, Option.bind_assoc, Option.map_some, Option.map_none, Nat.reduceAdd, Nat.reduceSub, Nat.reduceLeDiff, List.set_cons_zero, List.set_cons_succ, if_true, if_false, ite_true, ite_false, reduceCtorEq, Bool.false_eq_true, Bool.not_true, Bool.not_false, ↓reduceIte, eq_self, mulD]
      rw [if_pos (.inl h1)]
      simp (config := { decide := false }) only [runF, initS, sSeq, sIf, sRet, sRetN, sSet, sSetF, sSetO, sDrop, sNext, sNever, sUnp, sUnpF, sApp, sAppF, sLend, sAugI, asgL_nm, asgL_tp, asgL_wt, asgsL_nil, asgsL_cons, asg_nm, asg_tp, asgs_nil, asgs_cons, wipeD, mAnd, mOr, mNot, mB, mTr, m2, m1, mV, mC, mA, mCh, mAndV, mOrV, aCons, aNil, guardN, op, cl, fl, opn, clos, flt, eqD_int, neD_int, gtD, ltD, leD, geD, addD, subD, negD, tupD, lstD, tupF, lstF, outD, notD, tru, isD, isnD, isN, flat_tp, flat_in, flat_bo, flat_no, flats_nl, flats_cn,
  List.map_cons, List.map_nil, List.length_cons, List.length_nil, List.replicate, List.getElem?_cons_zero, List.getElem?_cons_succ, List.getElem?_nil, List.cons_append, List.nil_append, Option.bind_some, Option.bind_none, Option.bind_assoc, Option.map_some, Option.map_none, Nat.reduceAdd, Nat.reduceSub, Nat.reduceLeDiff, List.set_cons_zero, List.set_cons_succ, if_true, if_false, ite_true, ite_false, reduceCtorEq, Bool.false_eq_true, Bool.not_true, Bool.not_false, ↓reduceIte, eq_self, maxF]
      rfl⟩)]
    simp (config := { decide := false }) only [runF, initS, sSeq, sIf, sRet, sRetN, sSet, sSetF, sSetO, sDrop, sNext, sNever, sUnp, sUnpF, sApp, sAppF, sLend, sAugI, asgL_nm, asgL_tp, asgL_wt, asgsL_nil, asgsL_cons, asg_nm, asg_tp, asgs_nil, asgs_cons, wipeD, mAnd, mOr, mNot, mB, mTr, m2, m1, mV, mC, mA, mCh, mAndV, mOrV, aCons, aNil, guardN, op, cl, fl, opn, clos, flt, eqD_int, neD_int, gtD, ltD, leD, geD, addD, subD, negD, tupD, lstD, tupF, lstF, outD, notD, tru, isD, isnD, isN, flat_tp, flat_in, flat_bo, flat_no, flats_nl, flats_cn,
  List.map_cons, List.map_nil, List.length_cons, List.length_nil, List.replicate, List.getElem?_cons_zero, List.getElem?_cons_succ, List.getElem?_nil, List.cons_append, List.nil_append, Option.bind_some, Option.bind_none, Option.bind_assoc, Option.map_some, Option.map_none, Nat.reduceAdd, Nat.reduceSub, Nat.reduceLeDiff, List.set_cons_zero, List.set_cons_succ, if_true, if_false, ite_true, ite_false, reduceCtorEq, Bool.false_eq_true, Bool.not_true, Bool.not_false, ↓reduceIte, eq_self]
    unfold eRow
    rw [List.map_map]
    rfl⟩)]
  simp (config := { decide := false }) only [runF, initS, sSeq, sIf, sRet, sRetN, sSet, sSetF, sSetO, sDrop, sNext, sNever, sUnp, sUnpF, sApp, sAppF, sLend, sAugI, asgL_nm, asgL_tp, asgL_wt, asgsL_nil, asgsL_cons, asg_nm, asg_tp, asgs_nil, asgs_cons, wipeD, mAnd, mOr, mNot, mB, mTr, m2, m1, mV, mC, mA, mCh, mAndV, mOrV, aCons, aNil, guardN, op, cl, fl, opn, clos, flt, eqD_int, neD_int, gtD, ltD, leD, geD, addD, subD, negD, tupD, lstD, tupF, lstF, outD, notD, tru, isD, isnD, isN, flat_tp, flat_in, flat_bo, flat_no, flats_nl, flats_cn,
  List.map_cons, List.map_nil, List.length_cons, List.length_nil, List.replicate, List.getElem?_cons_zero, List.getElem?_cons_succ, List.getElem?_nil, List.cons_append, List.nil_append, Option.bind_some, Option.bind_none, Option.bind_assoc, Option.map_some, Option.map_none, Nat.reduceAdd, Nat.reduceSub, Nat.reduceLeDiff, List.set_cons_zero, List.set_cons_succ, if_true, if_false, ite_true, ite_false, reduceCtorEq, Bool.false_eq_true, Bool.not_true, Bool.not_false, ↓reduceIte, eq_self]
  unfold eCells melt
  rw [List.map_map]
  rfl
end Ice

namespace Ice
open PySem PySem.Spec PyProof.Rows L2
/-! ### bounds of rates -/
structure Heats (hs : List Int) : Prop where
  len : hs.length = 5
  all : ∀ x ∈ hs, 0 ≤ x ∧ x ≤ 9
theorem getD_mem {xs : List Int} {i : Nat} : xs.getD i 0 ∈ xs ∨ xs.getD i 0 = 0 := by
  rw [List.getD_eq_getElem?_getD]
  cases h : xs[i]? with
  | none => exact .inr rfl
  | some x => exact .inl (List.mem_of_getElem? h)
theorem Heats.at {hs : List Int} (h : Heats hs) (s : Int) : 0 ≤ heatAt hs s ∧ heatAt hs s ≤ 9 := by
  unfold heatAt
  rcases getD_mem (xs := hs) (i := s.toNat) with m | e
  · exact h.all _ m
  · rw [e]; decide
theorem sum_bound : ∀ (l : List Int) (b : Int), (∀ x ∈ l, 0 ≤ x ∧ x ≤ b) → 0 ≤ l.sum ∧ l.sum ≤ l.length * b
  | [], b, _ => by simp
  | x :: l, b, h => by
    have a := h x List.mem_cons_self
    have c := sum_bound l b fun y hy => h y (List.mem_cons_of_mem _ hy)
    rw [List.sum_cons, List.length_cons]
    have : ((l.length + 1 : Nat) : Int) * b = l.length * b + b := by
      rw [Int.natCast_add, Int.add_mul]
      simp
    omega
theorem faceAt_heat {hs : List Int} (h : Heats hs) (cs : List (List Int)) (ks : List (List Key)) (r c : Int) (x : Int × Int × Int) : ∀ y ∈ faceAt hs cs ks r c x, 0 ≤ y.2 ∧ y.2 ≤ 9 := fun y hy => by
  unfold faceAt at hy
  split at hy
  · cases hy
  · split at hy
    · split at hy
      · rw [List.mem_singleton] at hy; rw [hy]; exact h.at 4
      · cases hy
    · rw [List.mem_singleton] at hy; rw [hy]; exact h.at x.1
theorem faces_heat {hs : List Int} (h : Heats hs) (cs : List (List Int)) (ks : List (List Key)) (r c : Int) : ∀ y ∈ faces hs cs ks r c, 0 ≤ y.2 ∧ y.2 ≤ 9 := fun y hy => by
  unfold faces at hy
  split at hy
  · cases hy
  · simp only [sides, List.foldl_cons, List.foldl_nil, List.nil_append, List.mem_append] at hy
    rcases hy with ((hy | hy) | hy) | hy <;> exact faceAt_heat h cs ks r c _ y hy
theorem rate_bound {hs : List Int} (h : Heats hs) (cs : List (List Int)) (ks : List (List Key)) (r c : Int) : 0 ≤ rate hs cs ks r c ∧ rate hs cs ks r c ≤ 36 := by
  unfold rate
  have a := sum_bound ((faces hs cs ks r c).map fun x => x.2) 9 fun x hx => by
    obtain ⟨y, hy, rfl⟩ := List.mem_map.mp hx
    exact faces_heat h cs ks r c y hy
  rw [List.length_map] at a
  have b := faces_len hs cs ks r c
  have : ((faces hs cs ks r c).length : Int) * 9 ≤ 36 := by omega
  omega
theorem rate_empty {hs : List Int} {cs : List (List Int)} {ks : List (List Key)} {r c : Int} (h : cellAt cs r c = 0) : rate hs cs ks r c = 0 := by
  unfold rate faces
  rw [if_pos h]
  rfl
theorem rates_mem {hs : List Int} (h : Heats hs) (cs : List (List Int)) (ks : List (List Key)) : ∀ l ∈ rates hs cs ks, ∀ x ∈ l, 0 ≤ x ∧ x ≤ 36 := fun l hl x hx => by
  unfold rates at hl
  obtain ⟨r, _, rfl⟩ := List.mem_map.mp hl
  obtain ⟨c, _, rfl⟩ := List.mem_map.mp hx
  exact rate_bound h cs ks r c
/-- what stands side by side -/
theorem zip_at {hs : List Int} {cs : List (List Int)} {ks : List (List Key)} (g : Gr cs) : ∀ p ∈ cs.zip (rates hs cs ks), p.2.length = p.1.length ∧ p.1 ∈ cs ∧ ∀ q ∈ p.1.zip p.2, ∃ r c : Nat, r < cs.length ∧ c < wide cs ∧ q.1 = cellAt cs r c ∧ q.2 = rate hs cs ks r c := fun p hp => by
  obtain ⟨r, hr⟩ := List.getElem?_of_mem hp
  rw [List.getElem?_zip_eq_some] at hr
  obtain ⟨h1, h2⟩ := hr
  have hr' : r < cs.length := (List.getElem?_eq_some_iff.mp h1).1
  unfold rates at h2
  rw [List.getElem?_map, List.getElem?_range hr'] at h2
  have h2' : (List.range (wide cs)).map (fun (c : Nat) => rate hs cs ks r c) = p.2 := Option.some.inj h2
  have hm : p.1 ∈ cs := List.mem_of_getElem? h1
  refine ⟨by rw [← h2', List.length_map, List.length_range, g.all _ hm], hm, fun q hq => ?_⟩
  obtain ⟨c, hc⟩ := List.getElem?_of_mem hq
  rw [List.getElem?_zip_eq_some] at hc
  obtain ⟨h3, h4⟩ := hc
  have hc' : c < wide cs := by rw [← g.all _ hm]; exact (List.getElem?_eq_some_iff.mp h3).1
  rw [← h2', List.getElem?_map, List.getElem?_range hc'] at h4
  refine ⟨r, c, hr', hc', ?_, (Option.some.inj h4).symm⟩
  unfold cellAt
  rw [Int.toNat_natCast, Int.toNat_natCast, List.getD_eq_getElem?_getD (l := cs), h1]
  show q.1 = (p.1).getD c 0
  rw [List.getD_eq_getElem?_getD, h3]
  rfl
def Nn (cs : List (List Int)) : Prop := ∀ r ∈ cs, ∀ x ∈ r, 0 ≤ x
theorem rates_len {hs : List Int} {cs : List (List Int)} {ks : List (List Key)} : (rates hs cs ks).length = cs.length := by
  unfold rates
  rw [List.length_map, List.length_range]

/-! ### the next emptied cell -/
theorem minL_mem {ns : List Int} {m : Int} (h : minL ns = some m) : m ∈ ns := by
  cases ns with
  | nil => cases h
  | cons i r =>
    have e : r.foldl (fun a b => if b < a then b else a) i = m := Option.some.inj h
    rcases (min_fold r i).1 with a | a
    · rw [← e, a]; exact List.mem_cons_self
    · rw [← e]; exact List.mem_cons_of_mem _ a
theorem cap_le {a b : Int} (hb : 0 < b) : a ≤ b * cap (a, b) := by
  unfold cap
  have h := Int.lt_mul_ediv_self_add (x := a + b - 1) (k := b) hb
  show a ≤ b * ((a + b - 1) / b)
  omega
theorem cap_pos {a b : Int} (ha : 0 < a) (hb : 0 < b) : 1 ≤ cap (a, b) := by
  unfold cap
  exact Int.le_ediv_of_mul_le hb (by show 1 * b ≤ a + b - 1; omega)
theorem steps_mem {cs ls : List (List Int)} {k : Int} (h : k ∈ steps cs ls) : ∃ p ∈ cs.zip ls, ∃ q ∈ p.1.zip p.2, 0 < q.2 ∧ cap q = k := by
  unfold steps at h
  obtain ⟨l, hl, hk⟩ := List.mem_flatten.mp h
  obtain ⟨p, hp, rfl⟩ := List.mem_map.mp hl
  unfold stepsRow at hk
  obtain ⟨q, hq, rfl⟩ := List.mem_map.mp hk
  obtain ⟨hq, h0⟩ := List.mem_filter.mp hq
  exact ⟨p, hp, q, hq, of_decide_eq_true h0, rfl⟩
def nxt (hs : List Int) (cs : List (List Int)) (ks : List (List Key)) : Option Int := minL (steps cs (rates hs cs ks))
def thaw (hs : List Int) (cs : List (List Int)) (ks : List (List Key)) (n : Int) : List (List Int) := melt cs (rates hs cs ks) n
theorem mx_le {a : Int} : 0 ≤ mx a ∧ (mx a = a ∨ mx a = 0) ∧ (0 < mx a → 0 < a) ∧ (a ≤ 0 → mx a = 0) := by
  unfold mx
  split <;> refine ⟨by omega, by omega, by omega, by omega⟩
theorem melt_len {cs ls : List (List Int)} {n : Int} (h : ls.length = cs.length) : (melt cs ls n).length = cs.length := by
  unfold melt
  rw [List.length_map, List.length_zip, h, Nat.min_self]
theorem thaw_gr {hs : List Int} {cs : List (List Int)} {ks : List (List Key)} (g : Gr cs) (n : Int) : Gr (thaw hs cs ks n) ∧ wide (thaw hs cs ks n) = wide cs ∧ (thaw hs cs ks n).length = cs.length := by
  have hl : (thaw hs cs ks n).length = cs.length := melt_len rates_len
  have all : ∀ r ∈ thaw hs cs ks n, r.length = wide cs := fun r hr => by
    unfold thaw melt at hr
    obtain ⟨p, hp, rfl⟩ := List.mem_map.mp hr
    obtain ⟨h1, h2, _⟩ := zip_at g p hp
    rw [List.length_map, List.length_zip, h1, Nat.min_self]
    exact g.all _ h2
  have hw : wide (thaw hs cs ks n) = wide cs := by
    have := g.hi
    cases h : thaw hs cs ks n with
    | nil => rw [h] at hl; simp at hl; omega
    | cons r rs => exact all r (by rw [h]; exact List.mem_cons_self)
  exact ⟨⟨by rw [hl]; exact g.hi, by rw [hw]; exact g.wi, fun r hr => by rw [hw]; exact all r hr⟩, hw, hl⟩
theorem thaw_nn {hs : List Int} {cs : List (List Int)} {ks : List (List Key)} (n : Int) : Nn (thaw hs cs ks n) := fun r hr x hx => by
  unfold thaw melt at hr
  obtain ⟨p, hp, rfl⟩ := List.mem_map.mp hr
  obtain ⟨q, hq, rfl⟩ := List.mem_map.mp hx
  exact mx_le.1
/-! how many have ice -/
def cnt (r : List Int) : Nat := r.countP fun x => decide (0 < x)
def live (cs : List (List Int)) : Nat := (cs.map cnt).sum
theorem countP_lt {α : Type} {P P' : α → Bool} : ∀ (l : List α), (∀ x ∈ l, P' x = true → P x = true) → l.countP P' ≤ l.countP P ∧ ((∃ x ∈ l, P x = true ∧ P' x = false) → l.countP P' < l.countP P)
  | [], _ => ⟨Nat.le_refl _, fun ⟨x, hx, _⟩ => nomatch hx⟩
  | x :: l, h => by
    obtain ⟨a, b⟩ := countP_lt l fun y hy => h y (List.mem_cons_of_mem _ hy)
    have c := h x List.mem_cons_self
    rw [List.countP_cons, List.countP_cons]
    refine ⟨?_, fun ⟨y, hy, h1, h2⟩ => ?_⟩
    · cases e : P' x with
      | true => rw [c e]; simp; exact a
      | false => simp; omega
    · rcases List.mem_cons.mp hy with rfl | hy
      · rw [h1, h2]; simp; omega
      · have := b ⟨y, hy, h1, h2⟩
        cases e : P' x with
        | true => rw [c e]; simp; exact this
        | false => simp; omega
theorem sum_lt {α : Type} {f f' : α → Nat} : ∀ (l : List α), (∀ x ∈ l, f' x ≤ f x) → (l.map f').sum ≤ (l.map f).sum ∧ ((∃ x ∈ l, f' x < f x) → (l.map f').sum < (l.map f).sum)
  | [], _ => ⟨Nat.le_refl _, fun ⟨x, hx, _⟩ => nomatch hx⟩
  | x :: l, h => by
    obtain ⟨a, b⟩ := sum_lt l fun y hy => h y (List.mem_cons_of_mem _ hy)
    have c := h x List.mem_cons_self
    rw [List.map_cons, List.map_cons, List.sum_cons, List.sum_cons]
    refine ⟨by omega, fun ⟨y, hy, h1⟩ => ?_⟩
    rcases List.mem_cons.mp hy with rfl | hy
    · omega
    · have := b ⟨y, hy, h1⟩
      omega
theorem zip_fst {α β γ : Type} (f : α → γ) : ∀ (xs : List α) (ys : List β), ys.length = xs.length → (xs.zip ys).map (fun p => f p.1) = xs.map f
  | [], _, _ => rfl
  | x :: xs, y :: ys, h => by
    rw [List.zip_cons_cons, List.map_cons, List.map_cons, zip_fst f xs ys (Nat.succ.inj h)]
theorem cnt_zip (xs ys : List Int) (h : ys.length = xs.length) : cnt xs = (xs.zip ys).countP fun q => decide (0 < q.1) := by
  unfold cnt
  have : xs = (xs.zip ys).map fun q => q.1 := by
    have := zip_fst (fun x : Int => x) xs ys h
    rw [List.map_id'] at this
    exact this.symm
  conv => lhs; rw [this]
  rw [List.countP_map]
  rfl
theorem live_lt {hs : List Int} {cs : List (List Int)} {ks : List (List Key)} (hh : Heats hs) (g : Gr cs) (nn : Nn cs) {k : Int} (h : nxt hs cs ks = some k) : 1 ≤ k ∧ live (thaw hs cs ks k) < live cs := by
  obtain ⟨p, hp, q, hq, hq0, rfl⟩ := steps_mem (minL_mem h)
  have good : ∀ p ∈ cs.zip (rates hs cs ks), p.2.length = p.1.length ∧ ∀ q ∈ p.1.zip p.2, 0 ≤ q.1 ∧ 0 ≤ q.2 ∧ (0 < q.2 → 0 < q.1) := fun p hp => by
    obtain ⟨h1, h2, h3⟩ := zip_at g p hp
    refine ⟨h1, fun q hq => ?_⟩
    obtain ⟨r, c, _, _, e1, e2⟩ := h3 q hq
    have a := nn _ h2 _ (List.of_mem_zip hq).1
    have b := rate_bound hh cs ks r c
    refine ⟨a, by rw [e2]; exact b.1, fun h => ?_⟩
    by_cases z : q.1 = 0
    · rw [e2, rate_empty (by rw [← e1]; exact z)] at h
      cases h
    · omega
  have hq1 := ((good p hp).2 q hq).2.2 hq0
  have hk : 1 ≤ cap q := cap_pos hq1 hq0
  refine ⟨hk, ?_⟩
  have rows : ∀ p ∈ cs.zip (rates hs cs ks), cnt ((p.1.zip p.2).map fun z => mx (z.1 - z.2 * cap q)) ≤ cnt p.1 ∧ ((∃ z ∈ p.1.zip p.2, 0 < z.1 ∧ z.1 - z.2 * cap q ≤ 0) → cnt ((p.1.zip p.2).map fun z => mx (z.1 - z.2 * cap q)) < cnt p.1) := fun p hp => by
    obtain ⟨h1, h2⟩ := good p hp
    rw [cnt_zip p.1 p.2 h1]
    have e : cnt ((p.1.zip p.2).map fun z => mx (z.1 - z.2 * cap q)) = (p.1.zip p.2).countP fun z => decide (0 < mx (z.1 - z.2 * cap q)) := by
      unfold cnt
      rw [List.countP_map]
      rfl
    rw [e]
    obtain ⟨a, b⟩ := countP_lt (P := fun z : Int × Int => decide (0 < z.1)) (P' := fun z => decide (0 < mx (z.1 - z.2 * cap q))) (p.1.zip p.2) fun z hz hh => by
      have h0 := mx_le.2.2.1 (of_decide_eq_true hh)
      have := (h2 z hz).2.1
      have := Int.mul_nonneg this (Int.le_trans (by decide) hk)
      exact decide_eq_true (by omega)
    exact ⟨a, fun ⟨z, hz, z1, z2⟩ => b ⟨z, hz, decide_eq_true z1, decide_eq_false (by rw [mx_le.2.2.2 z2]; decide)⟩⟩
  have e1 : live cs = ((cs.zip (rates hs cs ks)).map fun p => cnt p.1).sum := by
    unfold live
    rw [zip_fst cnt cs _ rates_len]
  have e2 : live (thaw hs cs ks (cap q)) = ((cs.zip (rates hs cs ks)).map fun p => cnt ((p.1.zip p.2).map fun z => mx (z.1 - z.2 * cap q))).sum := by
    unfold live thaw melt
    rw [List.map_map]
    rfl
  rw [e1, e2]
  refine (sum_lt _ fun p hp => (rows p hp).1).2 ⟨p, hp, (rows p hp).2 ⟨q, hq, hq1, ?_⟩⟩
  have := cap_le (a := q.1) hq0
  show q.1 - q.2 * cap (q.1, q.2) ≤ 0
  omega
theorem cnt_le (r : List Int) : cnt r ≤ r.length := List.countP_le_length
theorem live_le {cs : List (List Int)} (g : Gr cs) : live cs ≤ 16 := by
  have : ∀ l : List (List Int), (∀ r ∈ l, r.length ≤ 4) → (l.map cnt).sum ≤ l.length * 4 := fun l => by
    induction l with
    | nil => intro _; exact Nat.zero_le _
    | cons r l ih =>
      intro h
      rw [List.map_cons, List.sum_cons, List.length_cons, Nat.succ_mul]
      have a := ih fun x hx => h x (List.mem_cons_of_mem _ hx)
      have b := h r List.mem_cons_self
      have c := cnt_le r
      omega
  have a := this cs fun r hr => by rw [g.all r hr]; exact g.wi.2
  have b := g.hi
  unfold live
  omega
end Ice

namespace Ice
open PySem PySem.Spec PyProof.Rows L2
/-! ### the course: what stands at each hour at which a cell is empty anew -/
def run (hs : List Int) (ks : List (List Key)) : Nat → Int → List (List Int) → List (Int × List (List Int))
  | 0, _, _ => []
  | n + 1, b, cs => match nxt hs cs ks with
    | none => []
    | some k => (b + k, thaw hs cs ks k) :: run hs ks n (b + k) (thaw hs cs ks k)
def eStage (hs : List Int) (ks : List (List Key)) (x : Int × List (List Int)) : D := .tup [.int x.1, eCells x.2, eCells (rates hs x.2 ks)]
theorem rates_lo {hs : List Int} (h : Heats hs) (cs : List (List Int)) (ks : List (List Key)) : ∀ l ∈ rates hs cs ks, ∀ x ∈ l, -18446744073709551616 < x ∧ x < 18446744073709551616 := fun l hl x hx => by
  have := rates_mem h cs ks l hl x hx
  omega
theorem rates_hi {hs : List Int} (h : Heats hs) (cs : List (List Int)) (ks : List (List Key)) : ∀ l ∈ rates hs cs ks, ∀ x ∈ l, x < 1073741824 := fun l hl x hx => by
  have := rates_mem h cs ks l hl x hx
  omega
theorem flat_row (r : List Int) : flat (eRow r) = true := flats_map fun _ _ => rfl
theorem flat_cells (cs : List (List Int)) : flat (eCells cs) = true := flats_map fun r _ => flat_row r
theorem flat_walls (ws : List (Int × Int × Int)) : flat (eWalls ws) = true := flats_map fun r _ => rfl
theorem flat_house (h : Hs) : flat (eH h) = true := by
  unfold eH
  simp only [flat, flats, flat_row, flat_cells, flat_walls, Bool.and_true]
theorem flat_stage {hs : List Int} {ks : List (List Key)} (x : Int × List (List Int)) : flat (eStage hs ks x) = true := by
  unfold eStage
  simp only [flat, flats, flat_row, flat_cells, flat_walls, Bool.and_true]
def stSt (hs : List Int) (ks : List (List Key)) (hd wd : D) (b : Int) (cs : List (List Int)) (out : List D) : Sl :=
  [.dat hd, .dat (eRow hs), .dat (eCells cs), .dat wd, .dat (eShut ks), .dat (.int b), .dat (eCells (rates hs cs ks)), .own out, .dat (eOpt (nxt hs cs ks))]
theorem eOpt_some (k : Int) : eOpt (some k) = .int k := rfl
theorem eOpt_none : eOpt none = .non := rfl
theorem body_eval {hd H C W SH L C' L' HO' : D} {b k : Int} {out : List D} (hm : G__melt [C, L, .int k] = some C') (hls : G__losses [H, C', SH] = some L') (hhr : G__hours_to_empty [C', L'] = some HO') (hol : out.length < 1000000) :
  (sSeq (sAugI 5 (mV 8))
      (sSeq (sSet 2 (mA (guardN 3 G__melt) (aCons (mV 2) (aCons (mV 6) (aCons (mV 8) aNil)))))
      (sSeq (sSet 6 (mA (guardN 3 G__losses) (aCons (mV 1) (aCons (mV 2) (aCons (mV 4) aNil)))))
      (sSeq (sApp 7 (mA tupD (aCons (mV 5) (aCons (mV 2) (aCons (mV 6) aNil)))))
      (sSet 8 (mA (guardN 2 G__hours_to_empty) (aCons (mV 2) (aCons (mV 6) aNil)))))))) [.dat hd, .dat H, .dat C, .dat W, .dat SH, .dat (.int b), .dat L, .own out, .dat (.int k)] =
   some (.nx [.dat hd, .dat H, .dat C', .dat W, .dat SH, .dat (.int (b + k)), .dat L', .own (out ++ [.tup [.int (b + k), C', L']]), .dat HO']) := by
  (apply Eq.trans; (· apply sSeq_nx; (· simp (config := { decide := false }) only [runF, initS, sSeq, sIf, sRet, sRetN, sSet, sSetF, sSetO, sDrop, sNext, sNever, sUnp, sUnpF, sApp, sAppF, sLend, sAugI, asgL_nm, asgL_tp, asgL_wt, asgsL_nil, asgsL_cons, asg_nm, asg_tp, asgs_nil, asgs_cons, wipeD, mAnd, mOr, mNot, mB, mTr, m2, m1, mV, mC, mA, mCh, mAndV, mOrV, aCons, aNil, guardN, op, cl, fl, opn, clos, flt, eqD_int, neD_int, gtD, ltD, leD, geD, addD, subD, negD, tupD, lstD, tupF, lstF, outD, notD, tru, isD, isnD, isN, flat_tp, flat_in, flat_bo, flat_no, flats_nl, flats_cn,
  List.map_cons, List.map_nil, List.length_cons, List.length_nil, List.replicate, List.getElem?_cons_zero, List.getElem?_cons_succ, List.getElem?_nil, List.cons_append, List.nil_append, Option.bind_some, Option.bind_none, Option.bind_assoc, Option.map_some, Option.map_none, Nat.reduceAdd, Nat.reduceSub, Nat.reduceLeDiff, List.set_cons_zero, List.set_cons_succ, if_true, if_false, ite_true, ite_false, reduceCtorEq, Bool.false_eq_true, Bool.not_true, Bool.not_false, ↓reduceIte, eq_self]; try rfl)))
  (apply Eq.trans; (· apply sSeq_nx; (· simp (config := { decide := false }) only [runF, initS, sSeq, sIf, sRet, sRetN, sSet, sSetF, sSetO, sDrop, sNext, sNever, sUnp, sUnpF, sApp, sAppF, sLend, sAugI, asgL_nm, asgL_tp, asgL_wt, asgsL_nil, asgsL_cons, asg_nm, asg_tp, asgs_nil, asgs_cons, wipeD, mAnd, mOr, mNot, mB, mTr, m2, m1, mV, mC, mA, mCh, mAndV, mOrV, aCons, aNil, guardN, op, cl, fl, opn, clos, flt, eqD_int, neD_int, gtD, ltD, leD, geD, addD, subD, negD, tupD, lstD, tupF, lstF, outD, notD, tru, isD, isnD, isN, flat_tp, flat_in, flat_bo, flat_no, flats_nl, flats_cn,
  List.map_cons, List.map_nil, List.length_cons, List.length_nil, List.replicate, List.getElem?_cons_zero, List.getElem?_cons_succ, List.getElem?_nil, List.cons_append, List.nil_append, Option.bind_some, Option.bind_none, Option.bind_assoc, Option.map_some, Option.map_none, Nat.reduceAdd, Nat.reduceSub, Nat.reduceLeDiff, List.set_cons_zero, List.set_cons_succ, if_true, if_false, ite_true, ite_false, reduceCtorEq, Bool.false_eq_true, Bool.not_true, Bool.not_false, ↓reduceIte, eq_self, hm]; try rfl)))
  (apply Eq.trans; (· apply sSeq_nx; (· simp (config := { decide := false }) only [runF, initS, sSeq, sIf, sRet, sRetN, sSet, sSetF, sSetO, sDrop, sNext, sNever, sUnp, sUnpF, sApp, sAppF, sLend, sAugI, asgL_nm, asgL_tp, asgL_wt, asgsL_nil, asgsL_cons, asg_nm, asg_tp, asgs_nil, asgs_cons, wipeD, mAnd, mOr, mNot, mB, mTr, m2, m1, mV, mC, mA, mCh, mAndV, mOrV, aCons, aNil, guardN, op, cl, fl, opn, clos, flt, eqD_int, neD_int, gtD, ltD, leD, geD, addD, subD, negD, tupD, lstD, tupF, lstF, outD, notD, tru, isD, isnD, isN, flat_tp, flat_in, flat_bo, flat_no, flats_nl, flats_cn,
  List.map_cons, List.map_nil, List.length_cons, List.length_nil, List.replicate, List.getElem?_cons_zero, List.getElem?_cons_succ, List.getElem?_nil, List.cons_append, List.nil_append, Option.bind_some, Option.bind_none, Option.bind_assoc, Option.map_some, Option.map_none, Nat.reduceAdd, Nat.reduceSub, Nat.reduceLeDiff, List.set_cons_zero, List.set_cons_succ, if_true, if_false, ite_true, ite_false, reduceCtorEq, Bool.false_eq_true, Bool.not_true, Bool.not_false, ↓reduceIte, eq_self, hls]; try rfl)))
  (apply Eq.trans; (· apply sSeq_nx; (· simp (config := { decide := false }) only [runF, initS, sSeq, sIf, sRet, sRetN, sSet, sSetF, sSetO, sDrop, sNext, sNever, sUnp, sUnpF, sApp, sAppF, sLend, sAugI, asgL_nm, asgL_tp, asgL_wt, asgsL_nil, asgsL_cons, asg_nm, asg_tp, asgs_nil, asgs_cons, wipeD, mAnd, mOr, mNot, mB, mTr, m2, m1, mV, mC, mA, mCh, mAndV, mOrV, aCons, aNil, guardN, op, cl, fl, opn, clos, flt, eqD_int, neD_int, gtD, ltD, leD, geD, addD, subD, negD, tupD, lstD, tupF, lstF, outD, notD, tru, isD, isnD, isN, flat_tp, flat_in, flat_bo, flat_no, flats_nl, flats_cn,
  List.map_cons, List.map_nil, List.length_cons, List.length_nil, List.replicate, List.getElem?_cons_zero, List.getElem?_cons_succ, List.getElem?_nil, List.cons_append, List.nil_append, Option.bind_some, Option.bind_none, Option.bind_assoc, Option.map_some, Option.map_none, Nat.reduceAdd, Nat.reduceSub, Nat.reduceLeDiff, List.set_cons_zero, List.set_cons_succ, if_true, if_false, ite_true, ite_false, reduceCtorEq, Bool.false_eq_true, Bool.not_true, Bool.not_false, ↓reduceIte, eq_self, hol]; try rfl)))
  simp (config := { decide := false }) only [runF, initS, sSeq, sIf, sRet, sRetN, sSet, sSetF, sSetO, sDrop, sNext, sNever, sUnp, sUnpF, sApp, sAppF, sLend, sAugI, asgL_nm, asgL_tp, asgL_wt, asgsL_nil, asgsL_cons, asg_nm, asg_tp, asgs_nil, asgs_cons, wipeD, mAnd, mOr, mNot, mB, mTr, m2, m1, mV, mC, mA, mCh, mAndV, mOrV, aCons, aNil, guardN, op, cl, fl, opn, clos, flt, eqD_int, neD_int, gtD, ltD, leD, geD, addD, subD, negD, tupD, lstD, tupF, lstF, outD, notD, tru, isD, isnD, isN, flat_tp, flat_in, flat_bo, flat_no, flats_nl, flats_cn,
  List.map_cons, List.map_nil, List.length_cons, List.length_nil, List.replicate, List.getElem?_cons_zero, List.getElem?_cons_succ, List.getElem?_nil, List.cons_append, List.nil_append, Option.bind_some, Option.bind_none, Option.bind_assoc, Option.map_some, Option.map_none, Nat.reduceAdd, Nat.reduceSub, Nat.reduceLeDiff, List.set_cons_zero, List.set_cons_succ, if_true, if_false, ite_true, ite_false, reduceCtorEq, Bool.false_eq_true, Bool.not_true, Bool.not_false, ↓reduceIte, eq_self, hhr]
theorem stages_loop {hs : List Int} {ks : List (List Key)} (hh : Heats hs) (hd wd : D) : ∀ (m : Nat) (b : Int) (cs : List (List Int)) (out : List D) (n : Nat), Gr cs → Nn cs → live cs ≤ m → m < n → out.length + m ≤ 100 →
    ∃ b' cs', whM (mB (m2 isnD (mV 8) (mC .non))) (sSeq (sAugI 5 (mV 8))
      (sSeq (sSet 2 (mA (guardN 3 G__melt) (aCons (mV 2) (aCons (mV 6) (aCons (mV 8) aNil)))))
      (sSeq (sSet 6 (mA (guardN 3 G__losses) (aCons (mV 1) (aCons (mV 2) (aCons (mV 4) aNil)))))
      (sSeq (sApp 7 (mA tupD (aCons (mV 5) (aCons (mV 2) (aCons (mV 6) aNil)))))
      (sSet 8 (mA (guardN 2 G__hours_to_empty) (aCons (mV 2) (aCons (mV 6) aNil)))))))) n (stSt hs ks hd wd b cs out) = some (.nx (stSt hs ks hd wd b' cs' (out ++ (run hs ks m b cs).map (eStage hs ks)))) := by
  intro m
  induction m with
  | zero =>
    intro b cs out n g nn hl hn ho
    cases h : nxt hs cs ks with
    | some k => have := (live_lt hh g nn h).2; omega
    | none =>
      cases n with
      | zero => cases hn
      | succ n =>
        refine ⟨b, cs, ?_⟩
        have e : run hs ks 0 b cs = [] := rfl
        rw [e, List.map_nil, List.append_nil]
        unfold stSt
        rw [h]
        exact whM_end (by simp (config := { decide := false }) only [runF, initS, sSeq, sIf, sRet, sRetN, sSet, sSetF, sSetO, sDrop, sNext, sNever, sUnp, sUnpF, sApp, sAppF, sLend, sAugI, asgL_nm, asgL_tp, asgL_wt, asgsL_nil, asgsL_cons, asg_nm, asg_tp, asgs_nil, asgs_cons, wipeD, mAnd, mOr, mNot, mB, mTr, m2, m1, mV, mC, mA, mCh, mAndV, mOrV, aCons, aNil, guardN, op, cl, fl, opn, clos, flt, eqD_int, neD_int, gtD, ltD, leD, geD, addD, subD, negD, tupD, lstD, tupF, lstF, outD, notD, tru, isD, isnD, isN, flat_tp, flat_in, flat_bo, flat_no, flats_nl, flats_cn,
  List.map_cons, List.map_nil, List.length_cons, List.length_nil, List.replicate, List.getElem?_cons_zero, List.getElem?_cons_succ, List.getElem?_nil, List.cons_append, List.nil_append, Option.bind_some, Option.bind_none, Option.bind_assoc, Option.map_some, Option.map_none, Nat.reduceAdd, Nat.reduceSub, Nat.reduceLeDiff, List.set_cons_zero, List.set_cons_succ, if_true, if_false, ite_true, ite_false, reduceCtorEq, Bool.false_eq_true, Bool.not_true, Bool.not_false, ↓reduceIte, eq_self, eOpt_none])
  | succ m ih =>
    intro b cs out n g nn hl hn ho
    cases n with
    | zero => cases hn
    | succ n =>
      cases h : nxt hs cs ks with
      | none =>
        refine ⟨b, cs, ?_⟩
        have e : run hs ks (m + 1) b cs = [] := by unfold run; rw [h]
        rw [e, List.map_nil, List.append_nil]
        unfold stSt
        rw [h]
        exact whM_end (by simp (config := { decide := false }) only [runF, initS, sSeq, sIf, sRet, sRetN, sSet, sSetF, sSetO, sDrop, sNext, sNever, sUnp, sUnpF, sApp, sAppF, sLend, sAugI, asgL_nm, asgL_tp, asgL_wt, asgsL_nil, asgsL_cons, asg_nm, asg_tp, asgs_nil, asgs_cons, wipeD, mAnd, mOr, mNot, mB, mTr, m2, m1, mV, mC, mA, mCh, mAndV, mOrV, aCons, aNil, guardN, op, cl, fl, opn, clos, flt, eqD_int, neD_int, gtD, ltD, leD, geD, addD, subD, negD, tupD, lstD, tupF, lstF, outD, notD, tru, isD, isnD, isN, flat_tp, flat_in, flat_bo, flat_no, flats_nl, flats_cn,
  List.map_cons, List.map_nil, List.length_cons, List.length_nil, List.replicate, List.getElem?_cons_zero, List.getElem?_cons_succ, List.getElem?_nil, List.cons_append, List.nil_append, Option.bind_some, Option.bind_none, Option.bind_assoc, Option.map_some, Option.map_none, Nat.reduceAdd, Nat.reduceSub, Nat.reduceLeDiff, List.set_cons_zero, List.set_cons_succ, if_true, if_false, ite_true, ite_false, reduceCtorEq, Bool.false_eq_true, Bool.not_true, Bool.not_false, ↓reduceIte, eq_self, eOpt_none])
      | some k =>
        have lt := (live_lt hh g nn h).2
        obtain ⟨g', w', l'⟩ := thaw_gr (hs := hs) (ks := ks) g k
        obtain ⟨b', cs', e⟩ := ih (b + k) (thaw hs cs ks k) (out ++ [eStage hs ks (b + k, thaw hs cs ks k)]) n g' (thaw_nn k) (by omega) (by omega) (by rw [List.length_append]; simp only [List.length_cons, List.length_nil]; omega)
        refine ⟨b', cs', ?_⟩
        rw [List.append_assoc] at e
        unfold run
        rw [h]
        simp only [List.map_cons]
        have hol : out.length < 1000000 := by omega
        have hm := g_melt g (rates_lo hh cs ks) k
        have hls := g_losses ks hh.len g'
        have hhr := g_hours (ls := rates hs (thaw hs cs ks k) ks) g' (rates_hi hh _ ks)
        have hm' : G__melt [eCells cs, eCells (rates hs cs ks), D.int k] = some (eCells (thaw hs cs ks k)) := hm
        unfold stSt at e
        unfold stSt
        rw [h]
        refine (whM_go (by simp (config := { decide := false }) only [runF, initS, sSeq, sIf, sRet, sRetN, sSet, sSetF, sSetO, sDrop, sNext, sNever, sUnp, sUnpF, sApp, sAppF, sLend, sAugI, asgL_nm, asgL_tp, asgL_wt, asgsL_nil, asgsL_cons, asg_nm, asg_tp, asgs_nil, asgs_cons, wipeD, mAnd, mOr, mNot, mB, mTr, m2, m1, mV, mC, mA, mCh, mAndV, mOrV, aCons, aNil, guardN, op, cl, fl, opn, clos, flt, eqD_int, neD_int, gtD, ltD, leD, geD, addD, subD, negD, tupD, lstD, tupF, lstF, outD, notD, tru, isD, isnD, isN, flat_tp, flat_in, flat_bo, flat_no, flats_nl, flats_cn,
  List.map_cons, List.map_nil, List.length_cons, List.length_nil, List.replicate, List.getElem?_cons_zero, List.getElem?_cons_succ, List.getElem?_nil, List.cons_append, List.nil_append, Option.bind_some, Option.bind_none, Option.bind_assoc, Option.map_some, Option.map_none, Nat.reduceAdd, Nat.reduceSub, Nat.reduceLeDiff, List.set_cons_zero, List.set_cons_succ, if_true, if_false, ite_true, ite_false, reduceCtorEq, Bool.false_eq_true, Bool.not_true, Bool.not_false, ↓reduceIte, eq_self, eOpt_some]) ?_).trans e
        have e1 : eStage hs ks (b + k, thaw hs cs ks k) = .tup [.int (b + k), eCells (thaw hs cs ks k), eCells (rates hs (thaw hs cs ks k) ks)] := rfl
        have e2 : nxt hs (thaw hs cs ks k) ks = minL (steps (thaw hs cs ks k) (rates hs (thaw hs cs ks k) ks)) := rfl
        rw [e1, e2, eOpt_some]
        exact body_eval hm' hls hhr hol
theorem stages_eval {R C W SH L z1 z2 z3 z4 : D} {b' : Int} {rr : List D} (hsh : G_shut_faces [W] = some SH) (hls : G__losses [R, C, SH] = some L) (hhr : G__hours_to_empty [C, L] = some z3) (fr : flat C = true) (fr2 : flat L = true)
  (e : whM (mB (m2 isnD (mV 8) (mC .non))) (sSeq (sAugI 5 (mV 8))
      (sSeq (sSet 2 (mA (guardN 3 G__melt) (aCons (mV 2) (aCons (mV 6) (aCons (mV 8) aNil)))))
      (sSeq (sSet 6 (mA (guardN 3 G__losses) (aCons (mV 1) (aCons (mV 2) (aCons (mV 4) aNil)))))
      (sSeq (sApp 7 (mA tupD (aCons (mV 5) (aCons (mV 2) (aCons (mV 6) aNil)))))
      (sSet 8 (mA (guardN 2 G__hours_to_empty) (aCons (mV 2) (aCons (mV 6) aNil)))))))) 100 [.dat (.tup [R, C, W]), .dat R, .dat C, .dat W, .dat SH, .dat (.int 0), .dat L, .own [.tup [.int 0, C, L]], .dat z3] = some (.nx [.dat (.tup [R, C, W]), .dat R, .dat z4, .dat W, .dat SH, .dat (.int b'), .dat z2, .own ([.tup [.int 0, C, L]] ++ rr), .dat z1])) :
  G__stages [.tup [R, C, W]] = some (.lst (D.tup [.int 0, C, L] :: rr)) := by
  unfold G__stages
  refine run_rt (S := [.dat (.tup [R, C, W]), .dat R, .dat z4, .dat W, .dat SH, .dat (.int b'), .dat z2, .own (D.tup [.int 0, C, L] :: rr), .dat z1]) ?_
  unfold mr__stages
  (apply Eq.trans; (· apply sSeq_nx; (· simp (config := { decide := false }) only [runF, initS, sSeq, sIf, sRet, sRetN, sSet, sSetF, sSetO, sDrop, sNext, sNever, sUnp, sUnpF, sApp, sAppF, sLend, sAugI, asgL_nm, asgL_tp, asgL_wt, asgsL_nil, asgsL_cons, asg_nm, asg_tp, asgs_nil, asgs_cons, wipeD, mAnd, mOr, mNot, mB, mTr, m2, m1, mV, mC, mA, mCh, mAndV, mOrV, aCons, aNil, guardN, op, cl, fl, opn, clos, flt, eqD_int, neD_int, gtD, ltD, leD, geD, addD, subD, negD, tupD, lstD, tupF, lstF, outD, notD, tru, isD, isnD, isN, flat_tp, flat_in, flat_bo, flat_no, flats_nl, flats_cn,
  List.map_cons, List.map_nil, List.length_cons, List.length_nil, List.replicate, List.getElem?_cons_zero, List.getElem?_cons_succ, List.getElem?_nil, List.cons_append, List.nil_append, Option.bind_some, Option.bind_none, Option.bind_assoc, Option.map_some, Option.map_none, Nat.reduceAdd, Nat.reduceSub, Nat.reduceLeDiff, List.set_cons_zero, List.set_cons_succ, if_true, if_false, ite_true, ite_false, reduceCtorEq, Bool.false_eq_true, Bool.not_true, Bool.not_false, ↓reduceIte, eq_self]; try rfl)))
  (apply Eq.trans; (· apply sSeq_nx; (· simp (config := { decide := false }) only [runF, initS, sSeq, sIf, sRet, sRetN, sSet, sSetF, sSetO, sDrop, sNext, sNever, sUnp, sUnpF, sApp, sAppF, sLend, sAugI, asgL_nm, asgL_tp, asgL_wt, asgsL_nil, asgsL_cons, asg_nm, asg_tp, asgs_nil, asgs_cons, wipeD, mAnd, mOr, mNot, mB, mTr, m2, m1, mV, mC, mA, mCh, mAndV, mOrV, aCons, aNil, guardN, op, cl, fl, opn, clos, flt, eqD_int, neD_int, gtD, ltD, leD, geD, addD, subD, negD, tupD, lstD, tupF, lstF, outD, notD, tru, isD, isnD, isN, flat_tp, flat_in, flat_bo, flat_no, flats_nl, flats_cn,
  List.map_cons, List.map_nil, List.length_cons, List.length_nil, List.replicate, List.getElem?_cons_zero, List.getElem?_cons_succ, List.getElem?_nil, List.cons_append, List.nil_append, Option.bind_some, Option.bind_none, Option.bind_assoc, Option.map_some, Option.map_none, Nat.reduceAdd, Nat.reduceSub, Nat.reduceLeDiff, List.set_cons_zero, List.set_cons_succ, if_true, if_false, ite_true, ite_false, reduceCtorEq, Bool.false_eq_true, Bool.not_true, Bool.not_false, ↓reduceIte, eq_self, hsh]; try rfl)))
  (apply Eq.trans; (· apply sSeq_nx; (· simp (config := { decide := false }) only [runF, initS, sSeq, sIf, sRet, sRetN, sSet, sSetF, sSetO, sDrop, sNext, sNever, sUnp, sUnpF, sApp, sAppF, sLend, sAugI, asgL_nm, asgL_tp, asgL_wt, asgsL_nil, asgsL_cons, asg_nm, asg_tp, asgs_nil, asgs_cons, wipeD, mAnd, mOr, mNot, mB, mTr, m2, m1, mV, mC, mA, mCh, mAndV, mOrV, aCons, aNil, guardN, op, cl, fl, opn, clos, flt, eqD_int, neD_int, gtD, ltD, leD, geD, addD, subD, negD, tupD, lstD, tupF, lstF, outD, notD, tru, isD, isnD, isN, flat_tp, flat_in, flat_bo, flat_no, flats_nl, flats_cn,
  List.map_cons, List.map_nil, List.length_cons, List.length_nil, List.replicate, List.getElem?_cons_zero, List.getElem?_cons_succ, List.getElem?_nil, List.cons_append, List.nil_append, Option.bind_some, Option.bind_none, Option.bind_assoc, Option.map_some, Option.map_none, Nat.reduceAdd, Nat.reduceSub, Nat.reduceLeDiff, List.set_cons_zero, List.set_cons_succ, if_true, if_false, ite_true, ite_false, reduceCtorEq, Bool.false_eq_true, Bool.not_true, Bool.not_false, ↓reduceIte, eq_self]; try rfl)))
  (apply Eq.trans; (· apply sSeq_nx; (· simp (config := { decide := false }) only [runF, initS, sSeq, sIf, sRet, sRetN, sSet, sSetF, sSetO, sDrop, sNext, sNever, sUnp, sUnpF, sApp, sAppF, sLend, sAugI, asgL_nm, asgL_tp, asgL_wt, asgsL_nil, asgsL_cons, asg_nm, asg_tp, asgs_nil, asgs_cons, wipeD, mAnd, mOr, mNot, mB, mTr, m2, m1, mV, mC, mA, mCh, mAndV, mOrV, aCons, aNil, guardN, op, cl, fl, opn, clos, flt, eqD_int, neD_int, gtD, ltD, leD, geD, addD, subD, negD, tupD, lstD, tupF, lstF, outD, notD, tru, isD, isnD, isN, flat_tp, flat_in, flat_bo, flat_no, flats_nl, flats_cn,
  List.map_cons, List.map_nil, List.length_cons, List.length_nil, List.replicate, List.getElem?_cons_zero, List.getElem?_cons_succ, List.getElem?_nil, List.cons_append, List.nil_append, Option.bind_some, Option.bind_none, Option.bind_assoc, Option.map_some, Option.map_none, Nat.reduceAdd, Nat.reduceSub, Nat.reduceLeDiff, List.set_cons_zero, List.set_cons_succ, if_true, if_false, ite_true, ite_false, reduceCtorEq, Bool.false_eq_true, Bool.not_true, Bool.not_false, ↓reduceIte, eq_self, hls]; try rfl)))
  (apply Eq.trans; (· apply sSeq_nx; (· simp (config := { decide := false }) only [runF, initS, sSeq, sIf, sRet, sRetN, sSet, sSetF, sSetO, sDrop, sNext, sNever, sUnp, sUnpF, sApp, sAppF, sLend, sAugI, asgL_nm, asgL_tp, asgL_wt, asgsL_nil, asgsL_cons, asg_nm, asg_tp, asgs_nil, asgs_cons, wipeD, mAnd, mOr, mNot, mB, mTr, m2, m1, mV, mC, mA, mCh, mAndV, mOrV, aCons, aNil, guardN, op, cl, fl, opn, clos, flt, eqD_int, neD_int, gtD, ltD, leD, geD, addD, subD, negD, tupD, lstD, tupF, lstF, outD, notD, tru, isD, isnD, isN, flat_tp, flat_in, flat_bo, flat_no, flats_nl, flats_cn,
  List.map_cons, List.map_nil, List.length_cons, List.length_nil, List.replicate, List.getElem?_cons_zero, List.getElem?_cons_succ, List.getElem?_nil, List.cons_append, List.nil_append, Option.bind_some, Option.bind_none, Option.bind_assoc, Option.map_some, Option.map_none, Nat.reduceAdd, Nat.reduceSub, Nat.reduceLeDiff, List.set_cons_zero, List.set_cons_succ, if_true, if_false, ite_true, ite_false, reduceCtorEq, Bool.false_eq_true, Bool.not_true, Bool.not_false, ↓reduceIte, eq_self, fr, fr2, Bool.and_self, Bool.and_true, sSetO, flt]; try rfl)))
  (apply Eq.trans; (· apply sSeq_nx; (· simp (config := { decide := false }) only [runF, initS, sSeq, sIf, sRet, sRetN, sSet, sSetF, sSetO, sDrop, sNext, sNever, sUnp, sUnpF, sApp, sAppF, sLend, sAugI, asgL_nm, asgL_tp, asgL_wt, asgsL_nil, asgsL_cons, asg_nm, asg_tp, asgs_nil, asgs_cons, wipeD, mAnd, mOr, mNot, mB, mTr, m2, m1, mV, mC, mA, mCh, mAndV, mOrV, aCons, aNil, guardN, op, cl, fl, opn, clos, flt, eqD_int, neD_int, gtD, ltD, leD, geD, addD, subD, negD, tupD, lstD, tupF, lstF, outD, notD, tru, isD, isnD, isN, flat_tp, flat_in, flat_bo, flat_no, flats_nl, flats_cn,
  List.map_cons, List.map_nil, List.length_cons, List.length_nil, List.replicate, List.getElem?_cons_zero, List.getElem?_cons_succ, List.getElem?_nil, List.cons_append, List.nil_append, Option.bind_some, Option.bind_none, Option.bind_assoc, Option.map_some, Option.map_none, Nat.reduceAdd, Nat.reduceSub, Nat.reduceLeDiff, List.set_cons_zero, List.set_cons_succ, if_true, if_false, ite_true, ite_false, reduceCtorEq, Bool.false_eq_true, Bool.not_true, Bool.not_false, ↓reduceIte, eq_self, hhr]; try rfl)))
  apply Eq.trans
  · apply sSeq_nx
    exact e
  simp (config := { decide := false }) only [runF, initS, sSeq, sIf, sRet, sRetN, sSet, sSetF, sSetO, sDrop, sNext, sNever, sUnp, sUnpF, sApp, sAppF, sLend, sAugI, asgL_nm, asgL_tp, asgL_wt, asgsL_nil, asgsL_cons, asg_nm, asg_tp, asgs_nil, asgs_cons, wipeD, mAnd, mOr, mNot, mB, mTr, m2, m1, mV, mC, mA, mCh, mAndV, mOrV, aCons, aNil, guardN, op, cl, fl, opn, clos, flt, eqD_int, neD_int, gtD, ltD, leD, geD, addD, subD, negD, tupD, lstD, tupF, lstF, outD, notD, tru, isD, isnD, isN, flat_tp, flat_in, flat_bo, flat_no, flats_nl, flats_cn,
  List.map_cons, List.map_nil, List.length_cons, List.length_nil, List.replicate, List.getElem?_cons_zero, List.getElem?_cons_succ, List.getElem?_nil, List.cons_append, List.nil_append, Option.bind_some, Option.bind_none, Option.bind_assoc, Option.map_some, Option.map_none, Nat.reduceAdd, Nat.reduceSub, Nat.reduceLeDiff, List.set_cons_zero, List.set_cons_succ, if_true, if_false, ite_true, ite_false, reduceCtorEq, Bool.false_eq_true, Bool.not_true, Bool.not_false, ↓reduceIte, eq_self]
theorem g_stages {h : Hs} (hh : Heats h.heats) (g : Gr h.cells) (nn : Nn h.cells) (hw : h.walls.length ≤ 40) :
    G__stages [eH h] = some (.lst (((0, h.cells) :: run h.heats (shutK h.walls) 16 0 h.cells).map (eStage h.heats (shutK h.walls)))) := by
  obtain ⟨hs, cs, ws⟩ := h
  obtain ⟨b', cs', e⟩ := stages_loop (ks := shutK ws) hh (.tup [eRow hs, eCells cs, eWalls ws]) (eWalls ws) 16 0 cs [.tup [.int 0, eCells cs, eCells (rates hs cs (shutK ws))]] 100 g nn (live_le g) (by decide) (by simp only [List.length_cons, List.length_nil]; omega)
  exact stages_eval (g_shut ws (Nat.le_trans hw (by decide))) (g_losses (shutK ws) hh.len g) (g_hours (ls := rates hs cs (shutK ws)) g (rates_hi hh _ _)) (flat_cells cs) (flat_cells _) e
end Ice

namespace Ice
open PySem PySem.Spec PyProof.Rows L2
/-! ### a cell's course -/
theorem run_gr {hs : List Int} {ks : List (List Key)} : ∀ (n : Nat) (b : Int) (cs : List (List Int)), Gr cs → ∀ x ∈ run hs ks n b cs, Gr x.2 ∧ wide x.2 = wide cs ∧ x.2.length = cs.length
  | 0, _, _, _, x, h => nomatch h
  | n + 1, b, cs, g, x, h => by
    unfold run at h
    cases e : nxt hs cs ks with
    | none => rw [e] at h; cases h
    | some k =>
      rw [e] at h
      obtain ⟨g', w', l'⟩ := thaw_gr (hs := hs) (ks := ks) g k
      rcases List.mem_cons.mp h with rfl | h
      · exact ⟨g', w', l'⟩
      · obtain ⟨a, c, d⟩ := run_gr n _ _ g' x h
        exact ⟨a, c.trans w', d.trans l'⟩
theorem run_len {hs : List Int} {ks : List (List Key)} : ∀ (n : Nat) (b : Int) (cs : List (List Int)), (run hs ks n b cs).length ≤ n
  | 0, _, _ => Nat.le_refl _
  | n + 1, b, cs => by
    unfold run
    cases nxt hs cs ks with
    | none => exact Nat.zero_le _
    | some k => exact Nat.succ_le_succ (run_len n _ _)
theorem rates_gr {hs : List Int} {cs : List (List Int)} {ks : List (List Key)} (g : Gr cs) : Gr (rates hs cs ks) ∧ wide (rates hs cs ks) = wide cs := by
  have all : ∀ r ∈ rates hs cs ks, r.length = wide cs := fun r hr => by
    unfold rates at hr
    obtain ⟨i, _, rfl⟩ := List.mem_map.mp hr
    rw [List.length_map, List.length_range]
  have hl := rates_len (hs := hs) (cs := cs) (ks := ks)
  have hw : wide (rates hs cs ks) = wide cs := by
    have := g.hi
    cases h : rates hs cs ks with
    | nil => rw [h] at hl; simp at hl; omega
    | cons r rs => exact all r (by rw [h]; exact List.mem_cons_self)
  exact ⟨⟨by rw [hl]; exact g.hi, by rw [hw]; exact g.wi, fun r hr => by rw [hw]; exact all r hr⟩, hw⟩
theorem rates_at {hs : List Int} {cs : List (List Int)} {ks : List (List Key)} {r c : Nat} (h1 : r < cs.length) (h2 : c < wide cs) : cellAt (rates hs cs ks) r c = rate hs cs ks r c := by
  unfold cellAt rates
  rw [Int.toNat_natCast, Int.toNat_natCast]
  have e : ((List.range cs.length).map fun (r : Nat) => (List.range (wide cs)).map fun (c : Nat) => rate hs cs ks r c).getD r [] = (List.range (wide cs)).map fun (c : Nat) => rate hs cs ks r c := by
    rw [List.getD_eq_getElem?_getD, List.getElem?_map, List.getElem?_range h1]
    rfl
  rw [e, List.getD_eq_getElem?_getD, List.getElem?_map, List.getElem?_range h2]
  rfl
/-- told anew when the rate is another one -/
def dueStep (hs : List Int) (ks : List (List Key)) (r c : Nat) (z : List (Int × Int × Int)) (x : Int × List (List Int)) : List (Int × Int × Int) :=
  if (z.getLast?.map fun w => w.2.2) = some (rate hs x.2 ks r c) then z else z ++ [(x.1, cellAt x.2 r c, rate hs x.2 ks r c)]
def due (hs : List Int) (ks : List (List Key)) (r c : Nat) (xs : List (Int × List (List Int))) : List (Int × Int × Int) := xs.foldl (dueStep hs ks r c) []
theorem last_eval {z : List (Int × Int × Int)} {w : Int × Int × Int} : (z ++ [w]).getLast? = some w := List.getLast?_concat
theorem ix_last {z : List (Int × Int × Int)} {w : Int × Int × Int} : ixD (.lst ((z ++ [w]).map eW)) (.int (-1)) = some (eW w) := by
  show atI ((z ++ [w]).map eW) (-1) = _
  rw [List.map_append]
  exact atI_last
theorem ix_eW (w : Int × Int × Int) : ixD (eW w) (.int 2) = some (.int w.2.2) := rfl
theorem tru_own (z : List (Int × Int × Int)) : tru (.lst (z.map eW)) = some (!z.isEmpty) := by
  cases z <;> rfl
end Ice

namespace Ice
open PySem PySem.Spec PyProof.Rows L2
/-! ### good houses are let by -/
structure Ok (h : Hs) : Prop where
  hh : Heats h.heats
  g : Gr h.cells
  nn : ∀ r ∈ h.cells, ∀ x ∈ r, 0 ≤ x ∧ x ≤ 9999
  wl : h.walls.length ≤ 40
  wr : ∀ w ∈ h.walls, inG h.cells w.1 w.2.1 = true ∧ 0 ≤ w.2.2 ∧ w.2.2 ≤ 3
  nd : (h.walls.map face).Nodup
theorem Ok.nneg {h : Hs} (o : Ok h) : Nn h.cells := fun r hr x hx => (o.nn r hr x hx).1
theorem isi_int (i : Int) : isiF [.int i, .raw (.ty "int")] = some (.bl true) := rfl
theorem isi_intb (i : Int) : isiF [.int i, .raw (.ty "bool")] = some (.bl false) := rfl
theorem isi_tup (ds : List D) : isiF [.tup ds, .raw (.ty "tuple")] = some (.bl true) := rfl
theorem isi_lst (ds : List D) : isiF [.lst ds, .raw (.ty "list")] = some (.bl true) := rfl
theorem g_num {i m : Int} (h0 : 0 ≤ i) (h1 : i ≤ m) : G_is_number [.int i, .int m] = some (.bl true) := by
  unfold G_is_number mr_is_number
  simp (config := { decide := false }) only [runF, initS, sSeq, sIf, sRet, sRetN, sSet, sSetF, sSetO, sDrop, sNext, sNever, sUnp, sUnpF, sApp, sAppF, sLend, sAugI, asgL_nm, asgL_tp, asgL_wt, asgsL_nil, asgsL_cons, asg_nm, asg_tp, asgs_nil, asgs_cons, wipeD, mAnd, mOr, mNot, mB, mTr, m2, m1, mV, mC, mA, mCh, mAndV, mOrV, aCons, aNil, guardN, op, cl, fl, opn, clos, flt, eqD_int, neD_int, gtD, ltD, leD, geD, addD, subD, negD, tupD, lstD, tupF, lstF, outD, notD, tru, isD, isnD, isN, flat_tp, flat_in, flat_bo, flat_no, flats_nl, flats_cn,
  List.map_cons, List.map_nil, List.length_cons, List.length_nil, List.replicate, List.getElem?_cons_zero, List.getElem?_cons_succ, List.getElem?_nil, List.cons_append, List.nil_append, Option.bind_some, Option.bind_none, Option.bind_assoc, Option.map_some, Option.map_none, Nat.reduceAdd, Nat.reduceSub, Nat.reduceLeDiff, List.set_cons_zero, List.set_cons_succ, if_true, if_false, ite_true, ite_false, reduceCtorEq, Bool.false_eq_true, Bool.not_true, Bool.not_false, ↓reduceIte, eq_self, isi_int, isi_intb, h0, h1, decide_true]
theorem bools_true {α : Type} : ∀ (xs : List α), boolsOf (xs.map fun _ => D.bl true) = some (xs.map fun _ => true)
  | [] => rfl
  | x :: xs => by
    show (boolsOf (xs.map fun _ => D.bl true)).map (fun k => true :: k) = _
    rw [bools_true xs]
    rfl
theorem all_true {α : Type} : ∀ (xs : List α), ((xs.map fun _ => true).all fun b => b) = true
  | [] => rfl
  | x :: xs => all_true xs
theorem allF_true {α : Type} (xs : List α) : allF [.lst (xs.map fun _ => D.bl true)] = some (.bl true) := by
  show (boolsOf (xs.map fun _ => D.bl true)).map _ = _
  rw [bools_true, Option.map_some, all_true]
theorem g_nums {r : List Int} {m : Int} (hl : r.length ≤ 1000) (h : ∀ x ∈ r, 0 ≤ x ∧ x ≤ m) : G__are_numbers [eRow r, .int m] = some (.bl true) := by
  unfold G__are_numbers mr__are_numbers
  have e : isiF [eRow r, .raw (.ty "tuple")] = some (.bl true) := isi_tup _
  simp (config := { decide := false }) only [runF, initS, sSeq, sIf, sRet, sRetN, sSet, sSetF, sSetO, sDrop, sNext, sNever, sUnp, sUnpF, sApp, sAppF, sLend, sAugI, asgL_nm, asgL_tp, asgL_wt, asgsL_nil, asgsL_cons, asg_nm, asg_tp, asgs_nil, asgs_cons, wipeD, mAnd, mOr, mNot, mB, mTr, m2, m1, mV, mC, mA, mCh, mAndV, mOrV, aCons, aNil, guardN, op, cl, fl, opn, clos, flt, eqD_int, neD_int, gtD, ltD, leD, geD, addD, subD, negD, tupD, lstD, tupF, lstF, outD, notD, tru, isD, isnD, isN, flat_tp, flat_in, flat_bo, flat_no, flats_nl, flats_cn,
  List.map_cons, List.map_nil, List.length_cons, List.length_nil, List.replicate, List.getElem?_cons_zero, List.getElem?_cons_succ, List.getElem?_nil, List.cons_append, List.nil_append, Option.bind_some, Option.bind_none, Option.bind_assoc, Option.map_some, Option.map_none, Nat.reduceAdd, Nat.reduceSub, Nat.reduceLeDiff, List.set_cons_zero, List.set_cons_succ, if_true, if_false, ite_true, ite_false, reduceCtorEq, Bool.false_eq_true, Bool.not_true, Bool.not_false, ↓reduceIte, eq_self, e]
  rw [mLc_map (fun i : Int => D.int i) (fun _ => D.bl true) r rfl (by omega) (fun i hi => ⟨_, rfl, by
    obtain ⟨a, b⟩ := h i hi
    simp (config := { decide := false }) only [runF, initS, sSeq, sIf, sRet, sRetN, sSet, sSetF, sSetO, sDrop, sNext, sNever, sUnp, sUnpF, sApp, sAppF, sLend, sAugI, asgL_nm, asgL_tp, asgL_wt, asgsL_nil, asgsL_cons, asg_nm, asg_tp, asgs_nil, asgs_cons, wipeD, mAnd, mOr, mNot, mB, mTr, m2, m1, mV, mC, mA, mCh, mAndV, mOrV, aCons, aNil, guardN, op, cl, fl, opn, clos, flt, eqD_int, neD_int, gtD, ltD, leD, geD, addD, subD, negD, tupD, lstD, tupF, lstF, outD, notD, tru, isD, isnD, isN, flat_tp, flat_in, flat_bo, flat_no, flats_nl, flats_cn,
  List.map_cons, List.map_nil, List.length_cons, List.length_nil, List.replicate, List.getElem?_cons_zero, List.getElem?_cons_succ, List.getElem?_nil, List.cons_append, List.nil_append, Option.bind_some, Option.bind_none, Option.bind_assoc, Option.map_some, Option.map_none, Nat.reduceAdd, Nat.reduceSub, Nat.reduceLeDiff, List.set_cons_zero, List.set_cons_succ, if_true, if_false, ite_true, ite_false, reduceCtorEq, Bool.false_eq_true, Bool.not_true, Bool.not_false, ↓reduceIte, eq_self, g_num a b]⟩)]
  simp (config := { decide := false }) only [runF, initS, sSeq, sIf, sRet, sRetN, sSet, sSetF, sSetO, sDrop, sNext, sNever, sUnp, sUnpF, sApp, sAppF, sLend, sAugI, asgL_nm, asgL_tp, asgL_wt, asgsL_nil, asgsL_cons, asg_nm, asg_tp, asgs_nil, asgs_cons, wipeD, mAnd, mOr, mNot, mB, mTr, m2, m1, mV, mC, mA, mCh, mAndV, mOrV, aCons, aNil, guardN, op, cl, fl, opn, clos, flt, eqD_int, neD_int, gtD, ltD, leD, geD, addD, subD, negD, tupD, lstD, tupF, lstF, outD, notD, tru, isD, isnD, isN, flat_tp, flat_in, flat_bo, flat_no, flats_nl, flats_cn,
  List.map_cons, List.map_nil, List.length_cons, List.length_nil, List.replicate, List.getElem?_cons_zero, List.getElem?_cons_succ, List.getElem?_nil, List.cons_append, List.nil_append, Option.bind_some, Option.bind_none, Option.bind_assoc, Option.map_some, Option.map_none, Nat.reduceAdd, Nat.reduceSub, Nat.reduceLeDiff, List.set_cons_zero, List.set_cons_succ, if_true, if_false, ite_true, ite_false, reduceCtorEq, Bool.false_eq_true, Bool.not_true, Bool.not_false, ↓reduceIte, eq_self, allF_true]
theorem g_heats {hs : List Int} (h : Heats hs) : G__need_heats [eRow hs] = some .non := by
  unfold G__need_heats mr__need_heats
  simp (config := { decide := false }) only [runF, initS, sSeq, sIf, sRet, sRetN, sSet, sSetF, sSetO, sDrop, sNext, sNever, sUnp, sUnpF, sApp, sAppF, sLend, sAugI, asgL_nm, asgL_tp, asgL_wt, asgsL_nil, asgsL_cons, asg_nm, asg_tp, asgs_nil, asgs_cons, wipeD, mAnd, mOr, mNot, mB, mTr, m2, m1, mV, mC, mA, mCh, mAndV, mOrV, aCons, aNil, guardN, op, cl, fl, opn, clos, flt, eqD_int, neD_int, gtD, ltD, leD, geD, addD, subD, negD, tupD, lstD, tupF, lstF, outD, notD, tru, isD, isnD, isN, flat_tp, flat_in, flat_bo, flat_no, flats_nl, flats_cn,
  List.map_cons, List.map_nil, List.length_cons, List.length_nil, List.replicate, List.getElem?_cons_zero, List.getElem?_cons_succ, List.getElem?_nil, List.cons_append, List.nil_append, Option.bind_some, Option.bind_none, Option.bind_assoc, Option.map_some, Option.map_none, Nat.reduceAdd, Nat.reduceSub, Nat.reduceLeDiff, List.set_cons_zero, List.set_cons_succ, if_true, if_false, ite_true, ite_false, reduceCtorEq, Bool.false_eq_true, Bool.not_true, Bool.not_false, ↓reduceIte, eq_self, g_nums (by rw [h.len]; decide) h.all, len_row, h.len, tru, beq_self_eq_true, Int.reduceBEq, Int.cast_ofNat_Int]
theorem need_cells_eval {C : D} {xs : List D} {u : SL} {n : Int} (h1 : isiF [C, .raw (.ty "tuple")] = some (.bl true)) (h2 : lenA [C] = some (.int n)) (h3 : 1 ≤ n) (h4 : n ≤ 4) (h5 : itT (mV 0) [some C, none] = some xs)
    (e : forM (.nm 1) (sSeq (sIf (mOr (mNot (mTr (mA (guardN 2 G__are_numbers) (aCons (mV 1) (aCons (mC (.int 9999)) aNil))))) (mNot (mB (mCh leD leD (mC (.int 1)) (mA lenA (aCons (mV 1) aNil)) (mC (.int 4)))))) sNever sNext)
      (sIf (mB (m2 neD (mA lenA (aCons (mV 1) aNil)) (mA lenA (aCons (m2 ixD (mV 0) (mC (.int 0))) aNil)))) sNever sNext)) xs [.dat C, .un] = some (.nx [.dat C, u])) : G__need_cells [C] = some .non := by
  unfold G__need_cells
  refine run_nx (S := [.dat C, u]) ?_
  unfold mr__need_cells
  (apply Eq.trans; (· apply sSeq_nx; (· simp (config := { decide := false }) only [runF, initS, sSeq, sIf, sRet, sRetN, sSet, sSetF, sSetO, sDrop, sNext, sNever, sUnp, sUnpF, sApp, sAppF, sLend, sAugI, asgL_nm, asgL_tp, asgL_wt, asgsL_nil, asgsL_cons, asg_nm, asg_tp, asgs_nil, asgs_cons, wipeD, mAnd, mOr, mNot, mB, mTr, m2, m1, mV, mC, mA, mCh, mAndV, mOrV, aCons, aNil, guardN, op, cl, fl, opn, clos, flt, eqD_int, neD_int, gtD, ltD, leD, geD, addD, subD, negD, tupD, lstD, tupF, lstF, outD, notD, tru, isD, isnD, isN, flat_tp, flat_in, flat_bo, flat_no, flats_nl, flats_cn,
  List.map_cons, List.map_nil, List.length_cons, List.length_nil, List.replicate, List.getElem?_cons_zero, List.getElem?_cons_succ, List.getElem?_nil, List.cons_append, List.nil_append, Option.bind_some, Option.bind_none, Option.bind_assoc, Option.map_some, Option.map_none, Nat.reduceAdd, Nat.reduceSub, Nat.reduceLeDiff, List.set_cons_zero, List.set_cons_succ, if_true, if_false, ite_true, ite_false, reduceCtorEq, Bool.false_eq_true, Bool.not_true, Bool.not_false, ↓reduceIte, eq_self, h1, h2, h3, h4, decide_true]; try rfl)))
  unfold sFor
  have h5' : itT (mV 0) (cl [.dat C, .un]) = some xs := h5
  rw [h5']
  exact e
theorem need_row_turn {C R R0 : D} {u : SL} {n : Int} (h1 : G__are_numbers [R, .int 9999] = some (.bl true)) (h2 : lenA [R] = some (.int n)) (h3 : 1 ≤ n) (h4 : n ≤ 4) (h5 : ixD C (.int 0) = some R0) (h6 : lenA [R0] = some (.int n)) :
    ((asgL (.nm 1) R [.dat C, u]).bind (sSeq (sIf (mOr (mNot (mTr (mA (guardN 2 G__are_numbers) (aCons (mV 1) (aCons (mC (.int 9999)) aNil))))) (mNot (mB (mCh leD leD (mC (.int 1)) (mA lenA (aCons (mV 1) aNil)) (mC (.int 4)))))) sNever sNext)
      (sIf (mB (m2 neD (mA lenA (aCons (mV 1) aNil)) (mA lenA (aCons (m2 ixD (mV 0) (mC (.int 0))) aNil)))) sNever sNext))) = some (.nx [.dat C, .dat R]) := by
  have e1 : asgL (.nm 1) R [.dat C, u] = some [.dat C, .dat R] := rfl
  rw [e1]
  simp only [Option.bind_some]
  (apply Eq.trans; (· apply sSeq_nx; (· simp (config := { decide := false }) only [runF, initS, sSeq, sIf, sRet, sRetN, sSet, sSetF, sSetO, sDrop, sNext, sNever, sUnp, sUnpF, sApp, sAppF, sLend, sAugI, asgL_nm, asgL_tp, asgL_wt, asgsL_nil, asgsL_cons, asg_nm, asg_tp, asgs_nil, asgs_cons, wipeD, mAnd, mOr, mNot, mB, mTr, m2, m1, mV, mC, mA, mCh, mAndV, mOrV, aCons, aNil, guardN, op, cl, fl, opn, clos, flt, eqD_int, neD_int, gtD, ltD, leD, geD, addD, subD, negD, tupD, lstD, tupF, lstF, outD, notD, tru, isD, isnD, isN, flat_tp, flat_in, flat_bo, flat_no, flats_nl, flats_cn,
  List.map_cons, List.map_nil, List.length_cons, List.length_nil, List.replicate, List.getElem?_cons_zero, List.getElem?_cons_succ, List.getElem?_nil, List.cons_append, List.nil_append, Option.bind_some, Option.bind_none, Option.bind_assoc, Option.map_some, Option.map_none, Nat.reduceAdd, Nat.reduceSub, Nat.reduceLeDiff, List.set_cons_zero, List.set_cons_succ, if_true, if_false, ite_true, ite_false, reduceCtorEq, Bool.false_eq_true, Bool.not_true, Bool.not_false, ↓reduceIte, eq_self, h1, h2, h3, h4, decide_true]; try rfl)))
  simp (config := { decide := false }) only [runF, initS, sSeq, sIf, sRet, sRetN, sSet, sSetF, sSetO, sDrop, sNext, sNever, sUnp, sUnpF, sApp, sAppF, sLend, sAugI, asgL_nm, asgL_tp, asgL_wt, asgsL_nil, asgsL_cons, asg_nm, asg_tp, asgs_nil, asgs_cons, wipeD, mAnd, mOr, mNot, mB, mTr, m2, m1, mV, mC, mA, mCh, mAndV, mOrV, aCons, aNil, guardN, op, cl, fl, opn, clos, flt, eqD_int, neD_int, gtD, ltD, leD, geD, addD, subD, negD, tupD, lstD, tupF, lstF, outD, notD, tru, isD, isnD, isN, flat_tp, flat_in, flat_bo, flat_no, flats_nl, flats_cn,
  List.map_cons, List.map_nil, List.length_cons, List.length_nil, List.replicate, List.getElem?_cons_zero, List.getElem?_cons_succ, List.getElem?_nil, List.cons_append, List.nil_append, Option.bind_some, Option.bind_none, Option.bind_assoc, Option.map_some, Option.map_none, Nat.reduceAdd, Nat.reduceSub, Nat.reduceLeDiff, List.set_cons_zero, List.set_cons_succ, if_true, if_false, ite_true, ite_false, reduceCtorEq, Bool.false_eq_true, Bool.not_true, Bool.not_false, ↓reduceIte, eq_self, h2, h5, h6, beq_self_eq_true]
theorem g_cells {cs : List (List Int)} (g : Gr cs) (h : ∀ r ∈ cs, ∀ x ∈ r, 0 ≤ x ∧ x ≤ 9999) : G__need_cells [eCells cs] = some .non := by
  have hi := g.hi
  have wi := g.wi
  obtain ⟨S', e, u, rfl⟩ := forM_rel (t := .nm 1) (b := sSeq (sIf (mOr (mNot (mTr (mA (guardN 2 G__are_numbers) (aCons (mV 1) (aCons (mC (.int 9999)) aNil))))) (mNot (mB (mCh leD leD (mC (.int 1)) (mA lenA (aCons (mV 1) aNil)) (mC (.int 4)))))) sNever sNext)
      (sIf (mB (m2 neD (mA lenA (aCons (mV 1) aNil)) (mA lenA (aCons (m2 ixD (mV 0) (mC (.int 0))) aNil)))) sNever sNext)) eRow (fun _ (_ : Unit) S => ∃ u, S = [.dat (eCells cs), u]) (fun z _ => z) cs () [.dat (eCells cs), .un] ⟨.un, rfl⟩ (by
    rintro n z S ⟨u, rfl⟩ r hr
    have hl := g.all r hr
    exact turn_nx (need_row_turn (n := r.length) (g_nums (by omega) (h r hr)) (len_row r) (by omega) (by omega) g.zero (by rw [len_row, hl]; rfl)) ⟨_, rfl⟩)
  exact need_cells_eval (n := cs.length) (isi_tup _) (len_cells cs) (by omega) (by omega) rfl e
end Ice

namespace Ice
open PySem PySem.Spec PyProof.Rows L2
theorem isface_eval {C R0 W : D} {a b s n m : Int} (hw : W = .tup [.int a, .int b, .int s]) (h1 : lenA [C] = some (.int n)) (h2 : ixD C (.int 0) = some R0) (h3 : lenA [R0] = some (.int m)) (ha : 0 ≤ a ∧ a ≤ n - 1) (hb : 0 ≤ b ∧ b ≤ m - 1) (hs : 0 ≤ s ∧ s ≤ 3) :
    G__is_face [W, C] = some (.bl true) := by
  subst hw
  unfold G__is_face
  refine run_rt (S := [.dat (.tup [.int a, .int b, .int s]), .dat C, .dat (.int a), .dat (.int b), .dat (.int s)]) ?_
  unfold mr__is_face
  have e1 : isiF [.tup [.int a, .int b, .int s], .raw (.ty "tuple")] = some (.bl true) := isi_tup _
  have e2 : lenA [.tup [.int a, .int b, .int s]] = some (.int 3) := rfl
  (apply Eq.trans; (· apply sSeq_nx; (· simp (config := { decide := false }) only [runF, initS, sSeq, sIf, sRet, sRetN, sSet, sSetF, sSetO, sDrop, sNext, sNever, sUnp, sUnpF, sApp, sAppF, sLend, sAugI, asgL_nm, asgL_tp, asgL_wt, asgsL_nil, asgsL_cons, asg_nm, asg_tp, asgs_nil, asgs_cons, wipeD, mAnd, mOr, mNot, mB, mTr, m2, m1, mV, mC, mA, mCh, mAndV, mOrV, aCons, aNil, guardN, op, cl, fl, opn, clos, flt, eqD_int, neD_int, gtD, ltD, leD, geD, addD, subD, negD, tupD, lstD, tupF, lstF, outD, notD, tru, isD, isnD, isN, flat_tp, flat_in, flat_bo, flat_no, flats_nl, flats_cn,
  List.map_cons, List.map_nil, List.length_cons, List.length_nil, List.replicate, List.getElem?_cons_zero, List.getElem?_cons_succ, List.getElem?_nil, List.cons_append, List.nil_append, Option.bind_some, Option.bind_none, Option.bind_assoc, Option.map_some, Option.map_none, Nat.reduceAdd, Nat.reduceSub, Nat.reduceLeDiff, List.set_cons_zero, List.set_cons_succ, if_true, if_false, ite_true, ite_false, reduceCtorEq, Bool.false_eq_true, Bool.not_true, Bool.not_false, ↓reduceIte, eq_self, e1, e2, beq_self_eq_true]; try rfl)))
  (apply Eq.trans; (· apply sSeq_nx; (· simp (config := { decide := false }) only [runF, initS, sSeq, sIf, sRet, sRetN, sSet, sSetF, sSetO, sDrop, sNext, sNever, sUnp, sUnpF, sApp, sAppF, sLend, sAugI, asgL_nm, asgL_tp, asgL_wt, asgsL_nil, asgsL_cons, asg_nm, asg_tp, asgs_nil, asgs_cons, wipeD, mAnd, mOr, mNot, mB, mTr, m2, m1, mV, mC, mA, mCh, mAndV, mOrV, aCons, aNil, guardN, op, cl, fl, opn, clos, flt, eqD_int, neD_int, gtD, ltD, leD, geD, addD, subD, negD, tupD, lstD, tupF, lstF, outD, notD, tru, isD, isnD, isN, flat_tp, flat_in, flat_bo, flat_no, flats_nl, flats_cn,
  List.map_cons, List.map_nil, List.length_cons, List.length_nil, List.replicate, List.getElem?_cons_zero, List.getElem?_cons_succ, List.getElem?_nil, List.cons_append, List.nil_append, Option.bind_some, Option.bind_none, Option.bind_assoc, Option.map_some, Option.map_none, Nat.reduceAdd, Nat.reduceSub, Nat.reduceLeDiff, List.set_cons_zero, List.set_cons_succ, if_true, if_false, ite_true, ite_false, reduceCtorEq, Bool.false_eq_true, Bool.not_true, Bool.not_false, ↓reduceIte, eq_self]; try rfl)))
  simp (config := { decide := false }) only [runF, initS, sSeq, sIf, sRet, sRetN, sSet, sSetF, sSetO, sDrop, sNext, sNever, sUnp, sUnpF, sApp, sAppF, sLend, sAugI, asgL_nm, asgL_tp, asgL_wt, asgsL_nil, asgsL_cons, asg_nm, asg_tp, asgs_nil, asgs_cons, wipeD, mAnd, mOr, mNot, mB, mTr, m2, m1, mV, mC, mA, mCh, mAndV, mOrV, aCons, aNil, guardN, op, cl, fl, opn, clos, flt, eqD_int, neD_int, gtD, ltD, leD, geD, addD, subD, negD, tupD, lstD, tupF, lstF, outD, notD, tru, isD, isnD, isN, flat_tp, flat_in, flat_bo, flat_no, flats_nl, flats_cn,
  List.map_cons, List.map_nil, List.length_cons, List.length_nil, List.replicate, List.getElem?_cons_zero, List.getElem?_cons_succ, List.getElem?_nil, List.cons_append, List.nil_append, Option.bind_some, Option.bind_none, Option.bind_assoc, Option.map_some, Option.map_none, Nat.reduceAdd, Nat.reduceSub, Nat.reduceLeDiff, List.set_cons_zero, List.set_cons_succ, if_true, if_false, ite_true, ite_false, reduceCtorEq, Bool.false_eq_true, Bool.not_true, Bool.not_false, ↓reduceIte, eq_self, h1, h2, h3, g_num ha.1 ha.2, g_num hb.1 hb.2, g_num hs.1 hs.2]
theorem g_isface {cs : List (List Int)} (g : Gr cs) {w : Int × Int × Int} (hc : inG cs w.1 w.2.1 = true) (h0 : 0 ≤ w.2.2) (h3 : w.2.2 ≤ 3) : G__is_face [eW w, eCells cs] = some (.bl true) := by
  unfold inG at hc
  rw [Bool.and_eq_true, decide_eq_true_iff, decide_eq_true_iff] at hc
  have hw : (cs.headD []).length = wide cs := rfl
  exact isface_eval (n := cs.length) (m := wide cs) rfl (len_cells cs) g.zero (by rw [len_row, hw]) (by omega) (by omega) ⟨h0, h3⟩
theorem kKey_inj {v w : Int × Int × Int} (h : kKey v = kKey w) : v = w := by
  unfold kKey at h
  injection h with h1 h
  injection h with h2 h
  injection h with h3 h
  injection h1 with h1
  injection h2 with h2
  injection h3 with h3
  exact Prod.ext h1 (Prod.ext h2 h3)
theorem shut_len : ∀ (ws : List (Int × Int × Int)) (ks : List (List Key)), (ws.map face).Nodup → (∀ w ∈ ws, kKey (face w) ∉ ks) → (ws.foldl (fun ks w => putKs ks (kKey (face w))) ks).length = ks.length + ws.length
  | [], _, _, _ => rfl
  | w :: ws, ks, nd, h => by
    rw [List.map_cons, List.nodup_cons] at nd
    have e : putKs ks (kKey (face w)) = ks ++ [kKey (face w)] := by
      unfold putKs
      rw [if_neg]
      intro c
      obtain ⟨j, hj, e⟩ := List.any_eq_true.mp c
      rw [of_decide_eq_true e] at hj
      exact h w List.mem_cons_self hj
    rw [List.foldl_cons, e, shut_len ws _ nd.2 fun v hv hm => ?_, List.length_append, List.length_cons]
    · simp only [List.length_cons, List.length_nil]
      omega
    · rcases List.mem_append.mp hm with hm | hm
      · exact h v (List.mem_cons_of_mem _ hv) hm
      · rw [List.mem_singleton] at hm
        refine nd.1 ?_
        rw [← kKey_inj hm]
        exact List.mem_map_of_mem hv
theorem len_walls (ws : List (Int × Int × Int)) : lenA [eWalls ws] = some (.int ws.length) := by
  show some (D.int ((ws.map eW).length : Nat)) = _
  rw [List.length_map]
theorem need_faces_eval {C W SH : D} {xs : List D} {u : SL} {n : Int} (h1 : isiF [W, .raw (.ty "tuple")] = some (.bl true)) (h2 : lenA [W] = some (.int n)) (h3 : ¬ 40 < n) (h5 : itT (mV 0) [some W, some C, none] = some xs) (h6 : G_shut_faces [W] = some SH) (h7 : lenA [SH] = some (.int n))
    (e : forM (.nm 2) (sIf (mNot (mTr (mA (guardN 2 G__is_face) (aCons (mV 2) (aCons (mV 1) aNil))))) sNever sNext) xs [.dat W, .dat C, .un] = some (.nx [.dat W, .dat C, u])) : G__need_faces [W, C] = some .non := by
  unfold G__need_faces
  refine run_nx (S := [.dat W, .dat C, u]) ?_
  unfold mr__need_faces
  (apply Eq.trans; (· apply sSeq_nx; (· simp (config := { decide := false }) only [runF, initS, sSeq, sIf, sRet, sRetN, sSet, sSetF, sSetO, sDrop, sNext, sNever, sUnp, sUnpF, sApp, sAppF, sLend, sAugI, asgL_nm, asgL_tp, asgL_wt, asgsL_nil, asgsL_cons, asg_nm, asg_tp, asgs_nil, asgs_cons, wipeD, mAnd, mOr, mNot, mB, mTr, m2, m1, mV, mC, mA, mCh, mAndV, mOrV, aCons, aNil, guardN, op, cl, fl, opn, clos, flt, eqD_int, neD_int, gtD, ltD, leD, geD, addD, subD, negD, tupD, lstD, tupF, lstF, outD, notD, tru, isD, isnD, isN, flat_tp, flat_in, flat_bo, flat_no, flats_nl, flats_cn,
  List.map_cons, List.map_nil, List.length_cons, List.length_nil, List.replicate, List.getElem?_cons_zero, List.getElem?_cons_succ, List.getElem?_nil, List.cons_append, List.nil_append, Option.bind_some, Option.bind_none, Option.bind_assoc, Option.map_some, Option.map_none, Nat.reduceAdd, Nat.reduceSub, Nat.reduceLeDiff, List.set_cons_zero, List.set_cons_succ, if_true, if_false, ite_true, ite_false, reduceCtorEq, Bool.false_eq_true, Bool.not_true, Bool.not_false, ↓reduceIte, eq_self, h1, h2, h3, decide_false]; try rfl)))
  apply Eq.trans
  · apply sSeq_nx (S1 := [.dat W, .dat C, u])
    unfold sFor
    have h5' : itT (mV 0) (cl [.dat W, .dat C, .un]) = some xs := h5
    rw [h5']
    exact e
  simp (config := { decide := false }) only [runF, initS, sSeq, sIf, sRet, sRetN, sSet, sSetF, sSetO, sDrop, sNext, sNever, sUnp, sUnpF, sApp, sAppF, sLend, sAugI, asgL_nm, asgL_tp, asgL_wt, asgsL_nil, asgsL_cons, asg_nm, asg_tp, asgs_nil, asgs_cons, wipeD, mAnd, mOr, mNot, mB, mTr, m2, m1, mV, mC, mA, mCh, mAndV, mOrV, aCons, aNil, guardN, op, cl, fl, opn, clos, flt, eqD_int, neD_int, gtD, ltD, leD, geD, addD, subD, negD, tupD, lstD, tupF, lstF, outD, notD, tru, isD, isnD, isN, flat_tp, flat_in, flat_bo, flat_no, flats_nl, flats_cn,
  List.map_cons, List.map_nil, List.length_cons, List.length_nil, List.replicate, List.getElem?_cons_zero, List.getElem?_cons_succ, List.getElem?_nil, List.cons_append, List.nil_append, Option.bind_some, Option.bind_none, Option.bind_assoc, Option.map_some, Option.map_none, Nat.reduceAdd, Nat.reduceSub, Nat.reduceLeDiff, List.set_cons_zero, List.set_cons_succ, if_true, if_false, ite_true, ite_false, reduceCtorEq, Bool.false_eq_true, Bool.not_true, Bool.not_false, ↓reduceIte, eq_self, h2, h6, h7, Int.lt_irrefl, decide_false]
theorem g_walls {h : Hs} (o : Ok h) : G__need_faces [eWalls h.walls, eCells h.cells] = some .non := by
  obtain ⟨S', e, u, rfl⟩ := forM_rel (t := .nm 2) (b := sIf (mNot (mTr (mA (guardN 2 G__is_face) (aCons (mV 2) (aCons (mV 1) aNil))))) sNever sNext) eW (fun _ (_ : Unit) S => ∃ u, S = [.dat (eWalls h.walls), .dat (eCells h.cells), u]) (fun z _ => z) h.walls () [.dat (eWalls h.walls), .dat (eCells h.cells), .un] ⟨.un, rfl⟩ (by
    rintro n z S ⟨u, rfl⟩ w hw
    obtain ⟨a, b, c⟩ := o.wr w hw
    have hf := g_isface o.g a b c
    generalize eW w = W at *
    generalize eCells h.cells = C at *
    apply turn_nx
    case h =>
      simp (config := { decide := false }) only [runF, initS, sSeq, sIf, sRet, sRetN, sSet, sSetF, sSetO, sDrop, sNext, sNever, sUnp, sUnpF, sApp, sAppF, sLend, sAugI, asgL_nm, asgL_tp, asgL_wt, asgsL_nil, asgsL_cons, asg_nm, asg_tp, asgs_nil, asgs_cons, wipeD, mAnd, mOr, mNot, mB, mTr, m2, m1, mV, mC, mA, mCh, mAndV, mOrV, aCons, aNil, guardN, op, cl, fl, opn, clos, flt, eqD_int, neD_int, gtD, ltD, leD, geD, addD, subD, negD, tupD, lstD, tupF, lstF, outD, notD, tru, isD, isnD, isN, flat_tp, flat_in, flat_bo, flat_no, flats_nl, flats_cn,
  List.map_cons, List.map_nil, List.length_cons, List.length_nil, List.replicate, List.getElem?_cons_zero, List.getElem?_cons_succ, List.getElem?_nil, List.cons_append, List.nil_append, Option.bind_some, Option.bind_none, Option.bind_assoc, Option.map_some, Option.map_none, Nat.reduceAdd, Nat.reduceSub, Nat.reduceLeDiff, List.set_cons_zero, List.set_cons_succ, if_true, if_false, ite_true, ite_false, reduceCtorEq, Bool.false_eq_true, Bool.not_true, Bool.not_false, ↓reduceIte, eq_self, hf]
      rfl
    case p => exact ⟨_, rfl⟩)
  refine need_faces_eval (n := h.walls.length) (isi_tup _) (len_walls _) (by have := o.wl; omega) rfl (g_shut _ (Nat.le_trans o.wl (by decide))) ?_ e
  show some (D.int ((shutK h.walls).length : Nat)) = _
  unfold shutK
  rw [shut_len h.walls [] o.nd (fun _ _ hm => nomatch hm)]
  simp only [List.length_nil, Nat.zero_add]
theorem need_house_eval {R C W : D} (h1 : G__need_heats [R] = some .non) (h2 : G__need_cells [C] = some .non) (h3 : G__need_faces [W, C] = some .non) : G_need_house [.tup [R, C, W]] = some .non := by
  unfold G_need_house
  refine run_nx (S := [.dat (.tup [R, C, W]), .dat R, .dat C, .dat W]) ?_
  unfold mr_need_house
  have e1 : isiF [.tup [R, C, W], .raw (.ty "tuple")] = some (.bl true) := isi_tup _
  have e2 : lenA [.tup [R, C, W]] = some (.int 3) := rfl
  (apply Eq.trans; (· apply sSeq_nx; (· simp (config := { decide := false }) only [runF, initS, sSeq, sIf, sRet, sRetN, sSet, sSetF, sSetO, sDrop, sNext, sNever, sUnp, sUnpF, sApp, sAppF, sLend, sAugI, asgL_nm, asgL_tp, asgL_wt, asgsL_nil, asgsL_cons, asg_nm, asg_tp, asgs_nil, asgs_cons, wipeD, mAnd, mOr, mNot, mB, mTr, m2, m1, mV, mC, mA, mCh, mAndV, mOrV, aCons, aNil, guardN, op, cl, fl, opn, clos, flt, eqD_int, neD_int, gtD, ltD, leD, geD, addD, subD, negD, tupD, lstD, tupF, lstF, outD, notD, tru, isD, isnD, isN, flat_tp, flat_in, flat_bo, flat_no, flats_nl, flats_cn,
  List.map_cons, List.map_nil, List.length_cons, List.length_nil, List.replicate, List.getElem?_cons_zero, List.getElem?_cons_succ, List.getElem?_nil, List.cons_append, List.nil_append, Option.bind_some, Option.bind_none, Option.bind_assoc, Option.map_some, Option.map_none, Nat.reduceAdd, Nat.reduceSub, Nat.reduceLeDiff, List.set_cons_zero, List.set_cons_succ, if_true, if_false, ite_true, ite_false, reduceCtorEq, Bool.false_eq_true, Bool.not_true, Bool.not_false, ↓reduceIte, eq_self, e1, e2, beq_self_eq_true]; try rfl)))
  (apply Eq.trans; (· apply sSeq_nx; (· simp (config := { decide := false }) only [runF, initS, sSeq, sIf, sRet, sRetN, sSet, sSetF, sSetO, sDrop, sNext, sNever, sUnp, sUnpF, sApp, sAppF, sLend, sAugI, asgL_nm, asgL_tp, asgL_wt, asgsL_nil, asgsL_cons, asg_nm, asg_tp, asgs_nil, asgs_cons, wipeD, mAnd, mOr, mNot, mB, mTr, m2, m1, mV, mC, mA, mCh, mAndV, mOrV, aCons, aNil, guardN, op, cl, fl, opn, clos, flt, eqD_int, neD_int, gtD, ltD, leD, geD, addD, subD, negD, tupD, lstD, tupF, lstF, outD, notD, tru, isD, isnD, isN, flat_tp, flat_in, flat_bo, flat_no, flats_nl, flats_cn,
  List.map_cons, List.map_nil, List.length_cons, List.length_nil, List.replicate, List.getElem?_cons_zero, List.getElem?_cons_succ, List.getElem?_nil, List.cons_append, List.nil_append, Option.bind_some, Option.bind_none, Option.bind_assoc, Option.map_some, Option.map_none, Nat.reduceAdd, Nat.reduceSub, Nat.reduceLeDiff, List.set_cons_zero, List.set_cons_succ, if_true, if_false, ite_true, ite_false, reduceCtorEq, Bool.false_eq_true, Bool.not_true, Bool.not_false, ↓reduceIte, eq_self]; try rfl)))
  (apply Eq.trans; (· apply sSeq_nx; (· simp (config := { decide := false }) only [runF, initS, sSeq, sIf, sRet, sRetN, sSet, sSetF, sSetO, sDrop, sNext, sNever, sUnp, sUnpF, sApp, sAppF, sLend, sAugI, asgL_nm, asgL_tp, asgL_wt, asgsL_nil, asgsL_cons, asg_nm, asg_tp, asgs_nil, asgs_cons, wipeD, mAnd, mOr, mNot, mB, mTr, m2, m1, mV, mC, mA, mCh, mAndV, mOrV, aCons, aNil, guardN, op, cl, fl, opn, clos, flt, eqD_int, neD_int, gtD, ltD, leD, geD, addD, subD, negD, tupD, lstD, tupF, lstF, outD, notD, tru, isD, isnD, isN, flat_tp, flat_in, flat_bo, flat_no, flats_nl, flats_cn,
  List.map_cons, List.map_nil, List.length_cons, List.length_nil, List.replicate, List.getElem?_cons_zero, List.getElem?_cons_succ, List.getElem?_nil, List.cons_append, List.nil_append, Option.bind_some, Option.bind_none, Option.bind_assoc, Option.map_some, Option.map_none, Nat.reduceAdd, Nat.reduceSub, Nat.reduceLeDiff, List.set_cons_zero, List.set_cons_succ, if_true, if_false, ite_true, ite_false, reduceCtorEq, Bool.false_eq_true, Bool.not_true, Bool.not_false, ↓reduceIte, eq_self, h1]; try rfl)))
  (apply Eq.trans; (· apply sSeq_nx; (· simp (config := { decide := false }) only [runF, initS, sSeq, sIf, sRet, sRetN, sSet, sSetF, sSetO, sDrop, sNext, sNever, sUnp, sUnpF, sApp, sAppF, sLend, sAugI, asgL_nm, asgL_tp, asgL_wt, asgsL_nil, asgsL_cons, asg_nm, asg_tp, asgs_nil, asgs_cons, wipeD, mAnd, mOr, mNot, mB, mTr, m2, m1, mV, mC, mA, mCh, mAndV, mOrV, aCons, aNil, guardN, op, cl, fl, opn, clos, flt, eqD_int, neD_int, gtD, ltD, leD, geD, addD, subD, negD, tupD, lstD, tupF, lstF, outD, notD, tru, isD, isnD, isN, flat_tp, flat_in, flat_bo, flat_no, flats_nl, flats_cn,
  List.map_cons, List.map_nil, List.length_cons, List.length_nil, List.replicate, List.getElem?_cons_zero, List.getElem?_cons_succ, List.getElem?_nil, List.cons_append, List.nil_append, Option.bind_some, Option.bind_none, Option.bind_assoc, Option.map_some, Option.map_none, Nat.reduceAdd, Nat.reduceSub, Nat.reduceLeDiff, List.set_cons_zero, List.set_cons_succ, if_true, if_false, ite_true, ite_false, reduceCtorEq, Bool.false_eq_true, Bool.not_true, Bool.not_false, ↓reduceIte, eq_self, h2]; try rfl)))
  simp (config := { decide := false }) only [runF, initS, sSeq, sIf, sRet, sRetN, sSet, sSetF, sSetO, sDrop, sNext, sNever, sUnp, sUnpF, sApp, sAppF, sLend, sAugI, asgL_nm, asgL_tp, asgL_wt, asgsL_nil, asgsL_cons, asg_nm, asg_tp, asgs_nil, asgs_cons, wipeD, mAnd, mOr, mNot, mB, mTr, m2, m1, mV, mC, mA, mCh, mAndV, mOrV, aCons, aNil, guardN, op, cl, fl, opn, clos, flt, eqD_int, neD_int, gtD, ltD, leD, geD, addD, subD, negD, tupD, lstD, tupF, lstF, outD, notD, tru, isD, isnD, isN, flat_tp, flat_in, flat_bo, flat_no, flats_nl, flats_cn,
  List.map_cons, List.map_nil, List.length_cons, List.length_nil, List.replicate, List.getElem?_cons_zero, List.getElem?_cons_succ, List.getElem?_nil, List.cons_append, List.nil_append, Option.bind_some, Option.bind_none, Option.bind_assoc, Option.map_some, Option.map_none, Nat.reduceAdd, Nat.reduceSub, Nat.reduceLeDiff, List.set_cons_zero, List.set_cons_succ, if_true, if_false, ite_true, ite_false, reduceCtorEq, Bool.false_eq_true, Bool.not_true, Bool.not_false, ↓reduceIte, eq_self, h3]
theorem g_house {h : Hs} (o : Ok h) : G_need_house [eH h] = some .non := need_house_eval (g_heats o.hh) (g_cells o.g o.nn) (g_walls o)
end Ice

/-! what a mirror tells that can't raise, the one that may raise tells too -/
namespace Ice
open PySem PySem.Spec PyProof.Rows L2
def LfS (m : Ms) (e : Me) : Prop := ∀ S x, m S = some x → e S = some (.o x)
def LfG (g : List D → Option D) (k : List D → Option Re) : Prop := ∀ ds d, g ds = some d → k ds = some (.val d)
theorem le_p {m : Ms} : LfS m (eP m) := fun S x h => by
  unfold eP
  rw [h]
  rfl
theorem le_never {e : Me} : LfS sNever e := fun S x h => by cases h
theorem le_next : LfS sNext eNext := fun S x h => by
  cases h
  rfl
theorem le_seq {a b : Ms} {a' b' : Me} (h1 : LfS a a') (h2 : LfS b b') : LfS (sSeq a b) (eSeq a' b') := fun S x h => by
  obtain ⟨o, e1, h⟩ := bind_some (show (a S).bind _ = some x from h)
  unfold eSeq
  rw [h1 S o e1]
  cases o with
  | nx S1 => exact h2 S1 x h
  | rt d S1 => cases h; rfl
  | bk S1 => cases h; rfl
  | ct S1 => cases h; rfl
theorem le_if {t : Mt} {a b : Ms} {a' b' : Me} (h1 : LfS a a') (h2 : LfS b b') : LfS (sIf t a b) (eIf t a' b') := fun S x h => by
  obtain ⟨c, e1, h⟩ := bind_some (show (t (op S)).bind _ = some x from h)
  unfold eIf
  rw [e1]
  cases c with
  | true => exact h1 S x h
  | false => exact h2 S x h
theorem le_guard {n : Nat} {g : List D → Option D} {k : List D → Option Re} (h : LfG g k) : LfG (guardN n g) (guardE n k) := fun ds d e => by
  unfold guardN at e
  split at e
  · next hl =>
    unfold guardE
    rw [if_pos hl]
    exact h ds d e
  · cases e
theorem le_drop {ma : Ma} {g : List D → Option D} {k : List D → Option Re} (h : LfG g k) : LfS (sDrop (mA g ma)) (eDrop k ma) := fun S x e => by
  obtain ⟨d, e1, rfl⟩ := map_some (show (mA g ma (op S)).map _ = some x from e)
  obtain ⟨ds, e2, e3⟩ := bind_some (show (ma (op S)).bind g = some d from e1)
  unfold eDrop
  rw [e2]
  show ((k ds).map _) = _
  rw [h ds d e3]
  rfl
theorem le_ret {ma : Ma} {g : List D → Option D} {k : List D → Option Re} (h : LfG g k) : LfS (sRet (mA g ma)) (eRet k ma) := fun S x e => by
  obtain ⟨d, e1, rfl⟩ := map_some (show (mA g ma (op S)).map _ = some x from e)
  obtain ⟨ds, e2, e3⟩ := bind_some (show (ma (op S)).bind g = some d from e1)
  unfold eRet
  rw [e2]
  show ((k ds).map _) = _
  rw [h ds d e3]
  rfl
theorem le_set {i : Nat} {ma : Ma} {g : List D → Option D} {k : List D → Option Re} (h : LfG g k) : LfS (sSet i (mA g ma)) (eSet i k ma) := fun S x e => by
  obtain ⟨d, e1, rfl⟩ := map_some (show (mA g ma (cl S)).map _ = some x from e)
  obtain ⟨ds, e2, e3⟩ := bind_some (show (ma (cl S)).bind g = some d from e1)
  unfold eSet
  rw [e2]
  show ((k ds).map _) = _
  rw [h ds d e3]
  rfl
theorem le_unp {t : Tg} {ma : Ma} {g : List D → Option D} {k : List D → Option Re} (h : LfG g k) : LfS (sUnp t (mA g ma)) (eUnp t k ma) := fun S x e => by
  obtain ⟨d, e1, e⟩ := bind_some (show (mA g ma (cl S)).bind _ = some x from e)
  obtain ⟨S1, e4, rfl⟩ := map_some e
  obtain ⟨ds, e2, e3⟩ := bind_some (show (ma (cl S)).bind g = some d from e1)
  unfold eUnp
  rw [e2]
  show ((k ds).bind _) = _
  rw [h ds d e3]
  show ((asgL t d S).map _) = _
  rw [e4]
  rfl
theorem le_forM {t : Tg} {b : Ms} {b' : Me} (h : LfS b b') : ∀ (ds : List D) (S : Sl) (x : Out), forM t b ds S = some x → forE t b' ds S = some (.o x)
  | [], S, x, e => by cases e; rfl
  | d :: r, S, x, e => by
    obtain ⟨S1, e1, e⟩ := bind_some (show (asgL t d S).bind _ = some x from e)
    obtain ⟨o, e2, e⟩ := bind_some e
    show ((asgL t d S).bind _) = _
    rw [e1]
    show ((b' S1).bind _) = _
    rw [h S1 o e2]
    cases o with
    | nx S2 => exact le_forM h r S2 x e
    | ct S2 => exact le_forM h r S2 x e
    | bk S2 => cases e; rfl
    | rt d S2 => cases e; rfl
theorem le_for {mi : Ma} {t : Tg} {b : Ms} {b' : Me} (h : LfS b b') : LfS (sFor mi t b) (eFor mi t b') := fun S x e => by
  obtain ⟨ds, e1, e⟩ := bind_some (show (mi (cl S)).bind _ = some x from e)
  unfold eFor
  rw [e1]
  exact le_forM h ds S x e
theorem le_comp {vs : List Nat} {t : Tg} {ma : Ma} {g : List D → Option D} {k : List D → Option Re} {S : Sd} (h : LfG g k) : ∀ (ds ys : List D), compM vs t mYes (mA g ma) S ds = some ys → compE vs t k ma S ds = some (.inr ys)
  | [], ys, e => by cases e; rfl
  | d :: r, ys, e => by
    obtain ⟨S1, e1, e⟩ := bind_some (show (asg t d (wipeD S vs)).bind _ = some ys from e)
    obtain ⟨y, e2, e⟩ := bind_some (show ((mA g ma S1).bind fun y => (compM vs t mYes (mA g ma) S r).map fun ys => y :: ys) = some ys from e)
    obtain ⟨zs, e3, rfl⟩ := map_some e
    obtain ⟨es, e4, e5⟩ := bind_some (show (ma S1).bind g = some y from e2)
    show ((asg t d (wipeD S vs)).bind _) = _
    rw [e1]
    show ((ma S1).bind _) = _
    rw [e4]
    show ((k es).bind _) = _
    rw [h es y e5]
    show ((compE vs t k ma S r).map _) = _
    rw [le_comp h r zs e3]
    rfl
theorem le_lc {i : Nat} {mi : Ma} {vs : List Nat} {t : Tg} {ma : Ma} {g : List D → Option D} {k : List D → Option Re} (h : LfG g k) : LfS (sSet i (mLc mi vs t mYes (mA g ma))) (eSetLc i mi vs t k ma) := fun S x e => by
  obtain ⟨d, e1, rfl⟩ := map_some (show (mLc mi vs t mYes (mA g ma) (cl S)).map _ = some x from e)
  obtain ⟨ds, e2, e3⟩ := bind_some (show (mi (cl S)).bind _ = some d from e1)
  split at e3
  case isFalse => cases e3
  case isTrue hl =>
  obtain ⟨ys, e4, rfl⟩ := map_some e3
  unfold eSetLc
  rw [e2]
  show (if ds.length ≤ 1000000 then _ else none) = _
  rw [if_pos hl, le_comp h ds ys e4]
  rfl
theorem le_run {n : Nat} {m : Ms} {e : Me} (h : LfS m e) : LfG (runF n m) (runE n e) := fun ds d hd => by
  obtain ⟨o, e1, e2⟩ := bind_some (show (m (initS n ds)).bind outD = some d from hd)
  unfold runE
  rw [h _ _ e1]
  cases o with
  | rt d' S' => cases e2; rfl
  | nx S' => cases e2; rfl
  | bk S' => cases e2
  | ct S' => cases e2
end Ice

namespace Ice
open PySem PySem.Spec PyProof.Rows L2
/-! ### good houses are let by (the words that may raise) -/
theorem le_heats : LfG G__need_heats GE__need_heats := le_run (le_if le_never le_next)
theorem le_cells : LfG G__need_cells GE__need_cells := le_run (le_seq (le_if le_never le_next) (le_for (le_seq (le_if le_never le_next) (le_if le_never le_next))))
theorem le_faces : LfG G__need_faces GE__need_faces := le_run (le_seq (le_if le_never le_next) (le_seq (le_for (le_if le_never le_next)) (le_if le_never le_next)))
theorem le_house : LfG G_need_house GE_need_house := le_run (le_seq (le_if le_never le_next) (le_seq le_p (le_seq (le_drop (le_guard le_heats)) (le_seq (le_drop (le_guard le_cells)) (le_drop (le_guard le_faces))))))
theorem ge_house {h : Hs} (o : Ok h) : GE_need_house [eH h] = some (.val .non) := le_house _ _ (g_house o)
end Ice

namespace Ice
open PySem PySem.Spec PyProof.Rows L2
/-! ### mirrors of what may raise -/
theorem eSeq_nx {a b : Me} {S S1 : Sl} (h : a S = some (.o (.nx S1))) : eSeq a b S = b S1 := by
  unfold eSeq
  rw [h]
  rfl
theorem eSeq_rx {a b : Me} {S S1 : Sl} {c : Str} (h : a S = some (.rx c S1)) : eSeq a b S = some (.rx c S1) := by
  unfold eSeq
  rw [h]
  rfl
theorem eSeq_rt {a b : Me} {S S1 : Sl} {d : D} (h : a S = some (.o (.rt d S1))) : eSeq a b S = some (.o (.rt d S1)) := by
  unfold eSeq
  rw [h]
  rfl
theorem eP_of {m : Ms} {S : Sl} {x : Out} (h : m S = some x) : eP m S = some (.o x) := by
  unfold eP
  rw [h]
  rfl
theorem eIf_of {t : Mt} {a b : Me} {S : Sl} {x : Bool} (h : t (op S) = some x) : eIf t a b S = if x = true then a S else b S := by
  unfold eIf
  rw [h]
  rfl
theorem runE_of {n : Nat} {m : Me} {ds : List D} {o : Oe} {r : Re} (h : m (initS n ds) = some o) (g : outE o = some r) : runE n m ds = some r := by
  unfold runE
  rw [h]
  exact g
theorem raise_of {c : Str} {ms : List Mi} {S : Sl} (h : ms.all (fun m => (m (op S)).isSome) = true) : eRaise c ms S = some (.rx c S) := by
  unfold eRaise
  rw [if_pos h]
theorem small_log {i : Int} (h : i.natAbs < 2 ^ 64) : i.natAbs.log2 < 1920 := by
  by_cases z : i.natAbs = 0
  · rw [z]; decide
  · have : i.natAbs.log2 < 64 := (Nat.log2_lt z).mpr h
    omega
theorem mInt_of {m : Mi} {S : Sd} {i : Int} (h : m S = some (.int i)) (hi : i.natAbs < 2 ^ 64) : (mInt m S).isSome = true := by
  unfold mInt
  rw [h]
  show (if i.natAbs.log2 < 1920 then some (D.int i) else none).isSome = true
  rw [if_pos (small_log hi)]
  rfl
theorem mA_3 {f : List D → Option D} {m k j : Mi} {S : Sd} {d e g z : D} (h : m S = some d) (h2 : k S = some e) (h3 : j S = some g) (w : f [d, e, g] = some z) : mA f (aCons m (aCons k (aCons j aNil))) S = some z := by
  unfold mA aCons
  rw [h]
  simp only [Option.bind_some, h2, h3]
  exact w
theorem aC1 {m : Mi} {S : Sd} {d : D} (h : m S = some d) : aCons m aNil S = some [d] := by
  unfold aCons
  rw [h]
  rfl
theorem mA_2' {f : List D → Option D} {m k : Mi} {S : Sd} {d e z : D} (h : m S = some d) (h2 : k S = some e) (g : f [d, e] = some z) : mA f (aCons m (aCons k aNil)) S = some z := by
  unfold mA aCons
  rw [h]
  simp only [Option.bind_some, h2]
  exact g
theorem eDrop_val {g : List D → Option Re} {ma : Ma} {S : Sl} {ds : List D} {d : D} (h : ma (op S) = some ds) (h2 : g ds = some (.val d)) : eDrop g ma S = some (.o (.nx S)) := by
  unfold eDrop
  rw [h]
  simp only [Option.bind_some, h2, Option.map_some]
theorem eDrop_exc {g : List D → Option Re} {ma : Ma} {S : Sl} {ds : List D} {c : Str} (h : ma (op S) = some ds) (h2 : g ds = some (.exc c)) : eDrop g ma S = some (.rx c S) := by
  unfold eDrop
  rw [h]
  simp only [Option.bind_some, h2, Option.map_some]
theorem m2_of {f : D → D → Option D} {m k : Mi} {S : Sd} {x y z : D} (h1 : m S = some x) (h2 : k S = some y) (g : f x y = some z) : m2 f m k S = some z := by
  unfold m2
  rw [h1]
  simp only [Option.bind_some, h2]
  exact g
theorem mB_of {m : Mi} {S : Sd} {b : Bool} (h : m S = some (.bl b)) : mB m S = some b := by
  unfold mB
  rw [h]
  rfl
theorem sSet_of {i : Nat} {m : Mi} {S : Sl} {d : D} (h : m (cl S) = some d) : sSet i m S = some (.nx (S.set i (.dat d))) := by
  unfold sSet
  rw [h]
  rfl
theorem sIf_of {t : Mt} {a b : Ms} {S : Sl} {x : Bool} (h : t (op S) = some x) : sIf t a b S = if x = true then a S else b S := by
  unfold sIf
  rw [h]
  rfl
/-- a loop that keeps what it finds -/
theorem forM_keep {t : Tg} {b : Ms} (P : Sl → Prop) : ∀ (ds : List D) (S : Sl), P S → (∀ d ∈ ds, ∀ S, P S → ∃ S1 S2, asgL t d S = some S1 ∧ b S1 = some (.nx S2) ∧ P S2) → ∃ S', forM t b ds S = some (.nx S') ∧ P S'
  | [], S, p, _ => ⟨S, rfl, p⟩
  | d :: ds, S, p, h => by
    obtain ⟨S1, S2, e1, e2, p2⟩ := h d List.mem_cons_self S p
    obtain ⟨S', e3, p3⟩ := forM_keep P ds S2 p2 fun d hd => h d (List.mem_cons_of_mem _ hd)
    refine ⟨S', ?_, p3⟩
    show ((asgL t d S).bind fun S1 => (b S1).bind fun o => match o with
      | .nx S2 => forM t b ds S2
      | .ct S2 => forM t b ds S2
      | .bk S2 => some (.nx S2)
      | .rt d S2 => some (.rt d S2)) = _
    rw [e1]
    simp only [Option.bind_some, e2]
    exact e3
end Ice

namespace Ice
open PySem PySem.Spec PyProof.Rows L2
/-! ### the law's own words -/
def off1 (s : Int) : Int × Int := if s = 0 then (-1, 0) else if s = 1 then (0, 1) else if s = 2 then (1, 0) else (0, -1)
theorem side4 {s : Int} (h0 : 0 ≤ s) (h3 : s ≤ 3) : s = 0 ∨ s = 1 ∨ s = 2 ∨ s = 3 := by omega
theorem l_beside {r c s : Int} (h0 : 0 ≤ s) (h3 : s ≤ 3) : G__law_beside [.int r, .int c, .int s] = some (.tup [.int (r + (off1 s).1), .int (c + (off1 s).2)]) := by
  rcases side4 h0 h3 with rfl | rfl | rfl | rfl <;> rfl
theorem l_is_cell {cs : List (List Int)} (g : Gr cs) (r c : Int) : G__law_is_cell [eCells cs, .int r, .int c] = some (.bl (inG cs r c)) := by
  unfold G__law_is_cell mr__law_is_cell inG
  have hz := g.zero
  by_cases h1 : 0 ≤ r <;> by_cases h2 : r < cs.length <;> by_cases h3 : 0 ≤ c <;> by_cases h4 : c < wide cs <;>
    simp (config := { decide := false }) only [runF, initS, sSeq, sIf, sRet, sRetN, sSet, sSetF, sSetO, sDrop, sNext, sNever, sUnp, sUnpF, sApp, sAppF, sLend, sAugI, asgL_nm, asgL_tp, asgL_wt, asgsL_nil, asgsL_cons, asg_nm, asg_tp, asgs_nil, asgs_cons, wipeD, mAnd, mOr, mNot, mB, mTr, m2, m1, mV, mC, mA, mCh, mAndV, mOrV, aCons, aNil, guardN, op, cl, fl, opn, clos, flt, eqD_int, neD_int, gtD, ltD, leD, geD, addD, subD, negD, tupD, lstD, tupF, lstF, outD, notD, tru, isD, isnD, isN, flat_tp, flat_in, flat_bo, flat_no, flats_nl, flats_cn,
  List.map_cons, List.map_nil, List.length_cons, List.length_nil, List.replicate, List.getElem?_cons_zero, List.getElem?_cons_succ, List.getElem?_nil, List.cons_append, List.nil_append, Option.bind_some, Option.bind_none, Option.bind_assoc, Option.map_some, Option.map_none, Nat.reduceAdd, Nat.reduceSub, Nat.reduceLeDiff, List.set_cons_zero, List.set_cons_succ, if_true, if_false, ite_true, ite_false, reduceCtorEq, Bool.false_eq_true, Bool.not_true, Bool.not_false, ↓reduceIte, eq_self, len_cells, len_row, hz, h1, h2, h3, h4, decide_true, decide_false, Bool.and_true, Bool.and_false, Bool.true_and, Bool.false_and, and_true, and_false, true_and, false_and] <;> (try (unfold wide at h4; simp only [h4, decide_true, decide_false]))
theorem face_eval {C : D} {a b s x y : Int} {t : Bool} (hb : G__law_beside [.int a, .int b, .int s] = some (.tup [.int x, .int y])) (hc : G__law_is_cell [C, .int x, .int y] = some (.bl t)) :
    G__law_face [C, .tup [.int a, .int b, .int s]] = some (if s % 3 = 0 ∧ t = true then .tup [.int x, .int y, .int ((s + 2) % 4)] else .tup [.int a, .int b, .int s]) := by
  have i0 : ixD (.tup [.int x, .int y]) (.int 0) = some (.int x) := rfl
  have i1 : ixD (.tup [.int x, .int y]) (.int 1) = some (.int y) := rfl
  unfold G__law_face mr__law_face
  unfold runF
  have e : ∀ (S1 : Sl) (o : Out), outD o = some (if s % 3 = 0 ∧ t = true then .tup [.int x, .int y, .int ((s + 2) % 4)] else .tup [.int a, .int b, .int s]) → (some o : Option Out).bind outD = some (if s % 3 = 0 ∧ t = true then .tup [.int x, .int y, .int ((s + 2) % 4)] else .tup [.int a, .int b, .int s]) := fun _ o h => h
  by_cases h1 : s % 3 = 0
  · cases t with
    | true =>
      rw [if_pos ⟨h1, rfl⟩]
      refine run_rt (n := 6) (S := [.dat C, .dat (.tup [.int a, .int b, .int s]), .dat (.int a), .dat (.int b), .dat (.int s), .dat (.tup [.int x, .int y])]) ?_
      (apply Eq.trans; (· apply sSeq_nx; (· simp (config := { decide := false }) only [runF, initS, sSeq, sIf, sRet, sRetN, sSet, sSetF, sSetO, sDrop, sNext, sNever, sUnp, sUnpF, sApp, sAppF, sLend, sAugI, asgL_nm, asgL_tp, asgL_wt, asgsL_nil, asgsL_cons, asg_nm, asg_tp, asgs_nil, asgs_cons, wipeD, mAnd, mOr, mNot, mB, mTr, m2, m1, mV, mC, mA, mCh, mAndV, mOrV, aCons, aNil, guardN, op, cl, fl, opn, clos, flt, eqD_int, neD_int, gtD, ltD, leD, geD, addD, subD, negD, tupD, lstD, tupF, lstF, outD, notD, tru, isD, isnD, isN, flat_tp, flat_in, flat_bo, flat_no, flats_nl, flats_cn,
  List.map_cons, List.map_nil, List.length_cons, List.length_nil, List.replicate, List.getElem?_cons_zero, List.getElem?_cons_succ, List.getElem?_nil, List.cons_append, List.nil_append, Option.bind_some, Option.bind_none, Option.bind_assoc, Option.map_some, Option.map_none, Nat.reduceAdd, Nat.reduceSub, Nat.reduceLeDiff, List.set_cons_zero, List.set_cons_succ, if_true, if_false, ite_true, ite_false, reduceCtorEq, Bool.false_eq_true, Bool.not_true, Bool.not_false, ↓reduceIte, eq_self]; try rfl)))
      (apply Eq.trans; (· apply sSeq_nx; (· simp (config := { decide := false }) only [runF, initS, sSeq, sIf, sRet, sRetN, sSet, sSetF, sSetO, sDrop, sNext, sNever, sUnp, sUnpF, sApp, sAppF, sLend, sAugI, asgL_nm, asgL_tp, asgL_wt, asgsL_nil, asgsL_cons, asg_nm, asg_tp, asgs_nil, asgs_cons, wipeD, mAnd, mOr, mNot, mB, mTr, m2, m1, mV, mC, mA, mCh, mAndV, mOrV, aCons, aNil, guardN, op, cl, fl, opn, clos, flt, eqD_int, neD_int, gtD, ltD, leD, geD, addD, subD, negD, tupD, lstD, tupF, lstF, outD, notD, tru, isD, isnD, isN, flat_tp, flat_in, flat_bo, flat_no, flats_nl, flats_cn,
  List.map_cons, List.map_nil, List.length_cons, List.length_nil, List.replicate, List.getElem?_cons_zero, List.getElem?_cons_succ, List.getElem?_nil, List.cons_append, List.nil_append, Option.bind_some, Option.bind_none, Option.bind_assoc, Option.map_some, Option.map_none, Nat.reduceAdd, Nat.reduceSub, Nat.reduceLeDiff, List.set_cons_zero, List.set_cons_succ, if_true, if_false, ite_true, ite_false, reduceCtorEq, Bool.false_eq_true, Bool.not_true, Bool.not_false, ↓reduceIte, eq_self, hb]; try rfl)))
      apply sSeq_rt
      simp (config := { decide := false }) only [runF, initS, sSeq, sIf, sRet, sRetN, sSet, sSetF, sSetO, sDrop, sNext, sNever, sUnp, sUnpF, sApp, sAppF, sLend, sAugI, asgL_nm, asgL_tp, asgL_wt, asgsL_nil, asgsL_cons, asg_nm, asg_tp, asgs_nil, asgs_cons, wipeD, mAnd, mOr, mNot, mB, mTr, m2, m1, mV, mC, mA, mCh, mAndV, mOrV, aCons, aNil, guardN, op, cl, fl, opn, clos, flt, eqD_int, neD_int, gtD, ltD, leD, geD, addD, subD, negD, tupD, lstD, tupF, lstF, outD, notD, tru, isD, isnD, isN, flat_tp, flat_in, flat_bo, flat_no, flats_nl, flats_cn,
  List.map_cons, List.map_nil, List.length_cons, List.length_nil, List.replicate, List.getElem?_cons_zero, List.getElem?_cons_succ, List.getElem?_nil, List.cons_append, List.nil_append, Option.bind_some, Option.bind_none, Option.bind_assoc, Option.map_some, Option.map_none, Nat.reduceAdd, Nat.reduceSub, Nat.reduceLeDiff, List.set_cons_zero, List.set_cons_succ, if_true, if_false, ite_true, ite_false, reduceCtorEq, Bool.false_eq_true, Bool.not_true, Bool.not_false, ↓reduceIte, eq_self, modD, h1, Int.reduceLT, beq_self_eq_true, i0, i1, hc]
    | false =>
      rw [if_neg (fun h => Bool.false_ne_true h.2)]
      refine run_rt (n := 6) (S := [.dat C, .dat (.tup [.int a, .int b, .int s]), .dat (.int a), .dat (.int b), .dat (.int s), .dat (.tup [.int x, .int y])]) ?_
      (apply Eq.trans; (· apply sSeq_nx; (· simp (config := { decide := false }) only [runF, initS, sSeq, sIf, sRet, sRetN, sSet, sSetF, sSetO, sDrop, sNext, sNever, sUnp, sUnpF, sApp, sAppF, sLend, sAugI, asgL_nm, asgL_tp, asgL_wt, asgsL_nil, asgsL_cons, asg_nm, asg_tp, asgs_nil, asgs_cons, wipeD, mAnd, mOr, mNot, mB, mTr, m2, m1, mV, mC, mA, mCh, mAndV, mOrV, aCons, aNil, guardN, op, cl, fl, opn, clos, flt, eqD_int, neD_int, gtD, ltD, leD, geD, addD, subD, negD, tupD, lstD, tupF, lstF, outD, notD, tru, isD, isnD, isN, flat_tp, flat_in, flat_bo, flat_no, flats_nl, flats_cn,
  List.map_cons, List.map_nil, List.length_cons, List.length_nil, List.replicate, List.getElem?_cons_zero, List.getElem?_cons_succ, List.getElem?_nil, List.cons_append, List.nil_append, Option.bind_some, Option.bind_none, Option.bind_assoc, Option.map_some, Option.map_none, Nat.reduceAdd, Nat.reduceSub, Nat.reduceLeDiff, List.set_cons_zero, List.set_cons_succ, if_true, if_false, ite_true, ite_false, reduceCtorEq, Bool.false_eq_true, Bool.not_true, Bool.not_false, ↓reduceIte, eq_self]; try rfl)))
      (apply Eq.trans; (· apply sSeq_nx; (· simp (config := { decide := false }) only [runF, initS, sSeq, sIf, sRet, sRetN, sSet, sSetF, sSetO, sDrop, sNext, sNever, sUnp, sUnpF, sApp, sAppF, sLend, sAugI, asgL_nm, asgL_tp, asgL_wt, asgsL_nil, asgsL_cons, asg_nm, asg_tp, asgs_nil, asgs_cons, wipeD, mAnd, mOr, mNot, mB, mTr, m2, m1, mV, mC, mA, mCh, mAndV, mOrV, aCons, aNil, guardN, op, cl, fl, opn, clos, flt, eqD_int, neD_int, gtD, ltD, leD, geD, addD, subD, negD, tupD, lstD, tupF, lstF, outD, notD, tru, isD, isnD, isN, flat_tp, flat_in, flat_bo, flat_no, flats_nl, flats_cn,
  List.map_cons, List.map_nil, List.length_cons, List.length_nil, List.replicate, List.getElem?_cons_zero, List.getElem?_cons_succ, List.getElem?_nil, List.cons_append, List.nil_append, Option.bind_some, Option.bind_none, Option.bind_assoc, Option.map_some, Option.map_none, Nat.reduceAdd, Nat.reduceSub, Nat.reduceLeDiff, List.set_cons_zero, List.set_cons_succ, if_true, if_false, ite_true, ite_false, reduceCtorEq, Bool.false_eq_true, Bool.not_true, Bool.not_false, ↓reduceIte, eq_self, hb]; try rfl)))
      (apply Eq.trans; (· apply sSeq_nx; (· simp (config := { decide := false }) only [runF, initS, sSeq, sIf, sRet, sRetN, sSet, sSetF, sSetO, sDrop, sNext, sNever, sUnp, sUnpF, sApp, sAppF, sLend, sAugI, asgL_nm, asgL_tp, asgL_wt, asgsL_nil, asgsL_cons, asg_nm, asg_tp, asgs_nil, asgs_cons, wipeD, mAnd, mOr, mNot, mB, mTr, m2, m1, mV, mC, mA, mCh, mAndV, mOrV, aCons, aNil, guardN, op, cl, fl, opn, clos, flt, eqD_int, neD_int, gtD, ltD, leD, geD, addD, subD, negD, tupD, lstD, tupF, lstF, outD, notD, tru, isD, isnD, isN, flat_tp, flat_in, flat_bo, flat_no, flats_nl, flats_cn,
  List.map_cons, List.map_nil, List.length_cons, List.length_nil, List.replicate, List.getElem?_cons_zero, List.getElem?_cons_succ, List.getElem?_nil, List.cons_append, List.nil_append, Option.bind_some, Option.bind_none, Option.bind_assoc, Option.map_some, Option.map_none, Nat.reduceAdd, Nat.reduceSub, Nat.reduceLeDiff, List.set_cons_zero, List.set_cons_succ, if_true, if_false, ite_true, ite_false, reduceCtorEq, Bool.false_eq_true, Bool.not_true, Bool.not_false, ↓reduceIte, eq_self, modD, h1, Int.reduceLT, beq_self_eq_true, i0, i1, hc]; try rfl)))
      simp (config := { decide := false }) only [runF, initS, sSeq, sIf, sRet, sRetN, sSet, sSetF, sSetO, sDrop, sNext, sNever, sUnp, sUnpF, sApp, sAppF, sLend, sAugI, asgL_nm, asgL_tp, asgL_wt, asgsL_nil, asgsL_cons, asg_nm, asg_tp, asgs_nil, asgs_cons, wipeD, mAnd, mOr, mNot, mB, mTr, m2, m1, mV, mC, mA, mCh, mAndV, mOrV, aCons, aNil, guardN, op, cl, fl, opn, clos, flt, eqD_int, neD_int, gtD, ltD, leD, geD, addD, subD, negD, tupD, lstD, tupF, lstF, outD, notD, tru, isD, isnD, isN, flat_tp, flat_in, flat_bo, flat_no, flats_nl, flats_cn,
  List.map_cons, List.map_nil, List.length_cons, List.length_nil, List.replicate, List.getElem?_cons_zero, List.getElem?_cons_succ, List.getElem?_nil, List.cons_append, List.nil_append, Option.bind_some, Option.bind_none, Option.bind_assoc, Option.map_some, Option.map_none, Nat.reduceAdd, Nat.reduceSub, Nat.reduceLeDiff, List.set_cons_zero, List.set_cons_succ, if_true, if_false, ite_true, ite_false, reduceCtorEq, Bool.false_eq_true, Bool.not_true, Bool.not_false, ↓reduceIte, eq_self]
  · rw [if_neg (fun h => h1 h.1)]
    refine run_rt (n := 6) (S := [.dat C, .dat (.tup [.int a, .int b, .int s]), .dat (.int a), .dat (.int b), .dat (.int s), .dat (.tup [.int x, .int y])]) ?_
    have hb1 : (s % 3 == 0) = false := beq_eq_false_iff_ne.mpr h1
    (apply Eq.trans; (· apply sSeq_nx; (· simp (config := { decide := false }) only [runF, initS, sSeq, sIf, sRet, sRetN, sSet, sSetF, sSetO, sDrop, sNext, sNever, sUnp, sUnpF, sApp, sAppF, sLend, sAugI, asgL_nm, asgL_tp, asgL_wt, asgsL_nil, asgsL_cons, asg_nm, asg_tp, asgs_nil, asgs_cons, wipeD, mAnd, mOr, mNot, mB, mTr, m2, m1, mV, mC, mA, mCh, mAndV, mOrV, aCons, aNil, guardN, op, cl, fl, opn, clos, flt, eqD_int, neD_int, gtD, ltD, leD, geD, addD, subD, negD, tupD, lstD, tupF, lstF, outD, notD, tru, isD, isnD, isN, flat_tp, flat_in, flat_bo, flat_no, flats_nl, flats_cn,
  List.map_cons, List.map_nil, List.length_cons, List.length_nil, List.replicate, List.getElem?_cons_zero, List.getElem?_cons_succ, List.getElem?_nil, List.cons_append, List.nil_append, Option.bind_some, Option.bind_none, Option.bind_assoc, Option.map_some, Option.map_none, Nat.reduceAdd, Nat.reduceSub, Nat.reduceLeDiff, List.set_cons_zero, List.set_cons_succ, if_true, if_false, ite_true, ite_false, reduceCtorEq, Bool.false_eq_true, Bool.not_true, Bool.not_false, ↓reduceIte, eq_self]; try rfl)))
    (apply Eq.trans; (· apply sSeq_nx; (· simp (config := { decide := false }) only [runF, initS, sSeq, sIf, sRet, sRetN, sSet, sSetF, sSetO, sDrop, sNext, sNever, sUnp, sUnpF, sApp, sAppF, sLend, sAugI, asgL_nm, asgL_tp, asgL_wt, asgsL_nil, asgsL_cons, asg_nm, asg_tp, asgs_nil, asgs_cons, wipeD, mAnd, mOr, mNot, mB, mTr, m2, m1, mV, mC, mA, mCh, mAndV, mOrV, aCons, aNil, guardN, op, cl, fl, opn, clos, flt, eqD_int, neD_int, gtD, ltD, leD, geD, addD, subD, negD, tupD, lstD, tupF, lstF, outD, notD, tru, isD, isnD, isN, flat_tp, flat_in, flat_bo, flat_no, flats_nl, flats_cn,
  List.map_cons, List.map_nil, List.length_cons, List.length_nil, List.replicate, List.getElem?_cons_zero, List.getElem?_cons_succ, List.getElem?_nil, List.cons_append, List.nil_append, Option.bind_some, Option.bind_none, Option.bind_assoc, Option.map_some, Option.map_none, Nat.reduceAdd, Nat.reduceSub, Nat.reduceLeDiff, List.set_cons_zero, List.set_cons_succ, if_true, if_false, ite_true, ite_false, reduceCtorEq, Bool.false_eq_true, Bool.not_true, Bool.not_false, ↓reduceIte, eq_self, hb]; try rfl)))
    (apply Eq.trans; (· apply sSeq_nx; (· simp (config := { decide := false }) only [runF, initS, sSeq, sIf, sRet, sRetN, sSet, sSetF, sSetO, sDrop, sNext, sNever, sUnp, sUnpF, sApp, sAppF, sLend, sAugI, asgL_nm, asgL_tp, asgL_wt, asgsL_nil, asgsL_cons, asg_nm, asg_tp, asgs_nil, asgs_cons, wipeD, mAnd, mOr, mNot, mB, mTr, m2, m1, mV, mC, mA, mCh, mAndV, mOrV, aCons, aNil, guardN, op, cl, fl, opn, clos, flt, eqD_int, neD_int, gtD, ltD, leD, geD, addD, subD, negD, tupD, lstD, tupF, lstF, outD, notD, tru, isD, isnD, isN, flat_tp, flat_in, flat_bo, flat_no, flats_nl, flats_cn,
  List.map_cons, List.map_nil, List.length_cons, List.length_nil, List.replicate, List.getElem?_cons_zero, List.getElem?_cons_succ, List.getElem?_nil, List.cons_append, List.nil_append, Option.bind_some, Option.bind_none, Option.bind_assoc, Option.map_some, Option.map_none, Nat.reduceAdd, Nat.reduceSub, Nat.reduceLeDiff, List.set_cons_zero, List.set_cons_succ, if_true, if_false, ite_true, ite_false, reduceCtorEq, Bool.false_eq_true, Bool.not_true, Bool.not_false, ↓reduceIte, eq_self, modD, hb1, Int.reduceLT]; try rfl)))
    simp (config := { decide := false }) only [runF, initS, sSeq, sIf, sRet, sRetN, sSet, sSetF, sSetO, sDrop, sNext, sNever, sUnp, sUnpF, sApp, sAppF, sLend, sAugI, asgL_nm, asgL_tp, asgL_wt, asgsL_nil, asgsL_cons, asg_nm, asg_tp, asgs_nil, asgs_cons, wipeD, mAnd, mOr, mNot, mB, mTr, m2, m1, mV, mC, mA, mCh, mAndV, mOrV, aCons, aNil, guardN, op, cl, fl, opn, clos, flt, eqD_int, neD_int, gtD, ltD, leD, geD, addD, subD, negD, tupD, lstD, tupF, lstF, outD, notD, tru, isD, isnD, isN, flat_tp, flat_in, flat_bo, flat_no, flats_nl, flats_cn,
  List.map_cons, List.map_nil, List.length_cons, List.length_nil, List.replicate, List.getElem?_cons_zero, List.getElem?_cons_succ, List.getElem?_nil, List.cons_append, List.nil_append, Option.bind_some, Option.bind_none, Option.bind_assoc, Option.map_some, Option.map_none, Nat.reduceAdd, Nat.reduceSub, Nat.reduceLeDiff, List.set_cons_zero, List.set_cons_succ, if_true, if_false, ite_true, ite_false, reduceCtorEq, Bool.false_eq_true, Bool.not_true, Bool.not_false, ↓reduceIte, eq_self]
theorem inG_iff {cs : List (List Int)} {r c : Int} : inG cs r c = true ↔ (0 ≤ r ∧ r < cs.length) ∧ (0 ≤ c ∧ c < wide cs) := by
  unfold inG
  rw [Bool.and_eq_true, decide_eq_true_iff, decide_eq_true_iff]
theorem l_face {cs : List (List Int)} (g : Gr cs) {w : Int × Int × Int} (hc : inG cs w.1 w.2.1 = true) (h0 : 0 ≤ w.2.2) (h3 : w.2.2 ≤ 3) : G__law_face [eCells cs, eW w] = some (eW (face w)) := by
  obtain ⟨r, c, s⟩ := w
  have hc : inG cs r c = true := hc
  have h0 : 0 ≤ s := h0
  have h3 : s ≤ 3 := h3
  refine (face_eval (l_beside h0 h3) (l_is_cell g _ _)).trans ?_
  rw [inG_iff] at hc
  unfold face eW
  simp only [inG_iff]
  rcases side4 h0 h3 with rfl | rfl | rfl | rfl
  · by_cases hr : 0 < r
    · rw [if_pos ⟨by decide, by show (0 ≤ r + -1 ∧ r + -1 < cs.length) ∧ (0 ≤ c + 0 ∧ c + 0 < wide cs); omega⟩, if_pos ⟨rfl, hr⟩]
      show some (D.tup [.int (r + -1), .int (c + 0), .int 2]) = some (D.tup [.int (r - 1), .int c, .int 2])
      rw [Int.add_zero]
      rfl
    · rw [if_neg (fun h => by have : (0 ≤ r + -1 ∧ r + -1 < cs.length) ∧ (0 ≤ c + 0 ∧ c + 0 < wide cs) := h.2; omega), if_neg (fun h => hr h.2), if_neg (fun h => absurd h.1 (by decide))]
  · rw [if_neg (fun h => absurd h.1 (by decide)), if_neg (fun h => absurd h.1 (by decide)), if_neg (fun h => absurd h.1 (by decide))]
  · rw [if_neg (fun h => absurd h.1 (by decide)), if_neg (fun h => absurd h.1 (by decide)), if_neg (fun h => absurd h.1 (by decide))]
  · by_cases hr : 0 < c
    · rw [if_pos ⟨by decide, by show (0 ≤ r + 0 ∧ r + 0 < cs.length) ∧ (0 ≤ c + -1 ∧ c + -1 < wide cs); omega⟩, if_neg (fun h => absurd h.1 (by decide)), if_pos ⟨rfl, hr⟩]
      show some (D.tup [.int (r + 0), .int (c + -1), .int 1]) = some (D.tup [.int r, .int (c - 1), .int 1])
      rw [Int.add_zero]
      rfl
    · rw [if_neg (fun h => by have : (0 ≤ r + 0 ∧ r + 0 < cs.length) ∧ (0 ≤ c + -1 ∧ c + -1 < wide cs) := h.2; omega), if_neg (fun h => absurd h.1 (by decide)), if_neg (fun h => hr h.2)]
end Ice

namespace Ice
open PySem PySem.Spec PyProof.Rows L2
/-! ### dice -/
theorem runX_rt {n : Nat} {m : Ms} {ds as es : List D} {d : D} {S : Sl} (h : m (initX n ds as) = some (.rt d (.din es :: S))) (f1 : flat d = true) (f2 : flats es = true) : runX n m ds as = some (d, es) := by
  unfold runX
  rw [h]
  show endX d (.din es :: S) = _
  unfold endX
  simp only [List.head?_cons, f1, f2, and_self, if_true]
theorem roll_hi {a b m : Int} (hb : 0 < b) (h0 : 0 < m) (h1 : m < 1073741824) : G__law_roll [.int a, .int b] [.int m] = some (.int (b % m), [.int a, .int (b / m)]) := by
  unfold G__law_roll
  refine runX_rt (S := [.dat (.int m), .dat (.int (b % m))]) ?_ rfl rfl
  unfold mr__law_roll
  have i1 : ixD (.lst [.int a, .int b]) (.int 1) = some (.int b) := rfl
  apply sSeq_rt
  have c : mB (m2 gtD (m2 ixD (mV 0) (mC (.int 1))) (mC (.int 0))) (op (initX 3 [.int a, .int b] [.int m])) = some true := by
    unfold initX
    simp (config := { decide := false }) only [runF, initS, sSeq, sIf, sRet, sRetN, sSet, sSetF, sSetO, sDrop, sNext, sNever, sUnp, sUnpF, sApp, sAppF, sLend, sAugI, asgL_nm, asgL_tp, asgL_wt, asgsL_nil, asgsL_cons, asg_nm, asg_tp, asgs_nil, asgs_cons, wipeD, mAnd, mOr, mNot, mB, mTr, m2, m1, mV, mC, mA, mCh, mAndV, mOrV, aCons, aNil, guardN, op, cl, fl, opn, clos, flt, eqD_int, neD_int, gtD, ltD, leD, geD, addD, subD, negD, tupD, lstD, tupF, lstF, outD, notD, tru, isD, isnD, isN, flat_tp, flat_in, flat_bo, flat_no, flats_nl, flats_cn,
  List.map_cons, List.map_nil, List.length_cons, List.length_nil, List.replicate, List.getElem?_cons_zero, List.getElem?_cons_succ, List.getElem?_nil, List.cons_append, List.nil_append, Option.bind_some, Option.bind_none, Option.bind_assoc, Option.map_some, Option.map_none, Nat.reduceAdd, Nat.reduceSub, Nat.reduceLeDiff, List.set_cons_zero, List.set_cons_succ, if_true, if_false, ite_true, ite_false, reduceCtorEq, Bool.false_eq_true, Bool.not_true, Bool.not_false, ↓reduceIte, eq_self, i1, decide_eq_true hb]
  unfold sIf
  rw [c]
  simp only [Option.bind_some, if_true]
  apply Eq.trans
  · apply sSeq_nx (S1 := [.din [.int a, .int b], .dat (.int m), .dat (.int (b % m))])
    unfold initX
    simp (config := { decide := false }) only [runF, initS, sSeq, sIf, sRet, sRetN, sSet, sSetF, sSetO, sDrop, sNext, sNever, sUnp, sUnpF, sApp, sAppF, sLend, sAugI, asgL_nm, asgL_tp, asgL_wt, asgsL_nil, asgsL_cons, asg_nm, asg_tp, asgs_nil, asgs_cons, wipeD, mAnd, mOr, mNot, mB, mTr, m2, m1, mV, mC, mA, mCh, mAndV, mOrV, aCons, aNil, guardN, op, cl, fl, opn, clos, flt, eqD_int, neD_int, gtD, ltD, leD, geD, addD, subD, negD, tupD, lstD, tupF, lstF, outD, notD, tru, isD, isnD, isN, flat_tp, flat_in, flat_bo, flat_no, flats_nl, flats_cn,
  List.map_cons, List.map_nil, List.length_cons, List.length_nil, List.replicate, List.getElem?_cons_zero, List.getElem?_cons_succ, List.getElem?_nil, List.cons_append, List.nil_append, Option.bind_some, Option.bind_none, Option.bind_assoc, Option.map_some, Option.map_none, Nat.reduceAdd, Nat.reduceSub, Nat.reduceLeDiff, List.set_cons_zero, List.set_cons_succ, if_true, if_false, ite_true, ite_false, reduceCtorEq, Bool.false_eq_true, Bool.not_true, Bool.not_false, ↓reduceIte, eq_self, i1, modD, h0]
  apply Eq.trans
  · apply sSeq_nx (S1 := [.din [.int a, .int (b / m)], .dat (.int m), .dat (.int (b % m))])
    have e : m2 divD (m2 ixD (mV 0) (mC (.int 1))) (mV 1) (op [.din [.int a, .int b], .dat (.int m), .dat (.int (b % m))]) = some (.int (b / m)) := by
      simp (config := { decide := false }) only [runF, initS, sSeq, sIf, sRet, sRetN, sSet, sSetF, sSetO, sDrop, sNext, sNever, sUnp, sUnpF, sApp, sAppF, sLend, sAugI, asgL_nm, asgL_tp, asgL_wt, asgsL_nil, asgsL_cons, asg_nm, asg_tp, asgs_nil, asgs_cons, wipeD, mAnd, mOr, mNot, mB, mTr, m2, m1, mV, mC, mA, mCh, mAndV, mOrV, aCons, aNil, guardN, op, cl, fl, opn, clos, flt, eqD_int, neD_int, gtD, ltD, leD, geD, addD, subD, negD, tupD, lstD, tupF, lstF, outD, notD, tru, isD, isnD, isN, flat_tp, flat_in, flat_bo, flat_no, flats_nl, flats_cn,
  List.map_cons, List.map_nil, List.length_cons, List.length_nil, List.replicate, List.getElem?_cons_zero, List.getElem?_cons_succ, List.getElem?_nil, List.cons_append, List.nil_append, Option.bind_some, Option.bind_none, Option.bind_assoc, Option.map_some, Option.map_none, Nat.reduceAdd, Nat.reduceSub, Nat.reduceLeDiff, List.set_cons_zero, List.set_cons_succ, if_true, if_false, ite_true, ite_false, reduceCtorEq, Bool.false_eq_true, Bool.not_true, Bool.not_false, ↓reduceIte, eq_self, i1, divD]
      rw [if_pos ⟨h0, h1⟩]
    unfold ySub
    rw [e]
    rfl
  simp (config := { decide := false }) only [runF, initS, sSeq, sIf, sRet, sRetN, sSet, sSetF, sSetO, sDrop, sNext, sNever, sUnp, sUnpF, sApp, sAppF, sLend, sAugI, asgL_nm, asgL_tp, asgL_wt, asgsL_nil, asgsL_cons, asg_nm, asg_tp, asgs_nil, asgs_cons, wipeD, mAnd, mOr, mNot, mB, mTr, m2, m1, mV, mC, mA, mCh, mAndV, mOrV, aCons, aNil, guardN, op, cl, fl, opn, clos, flt, eqD_int, neD_int, gtD, ltD, leD, geD, addD, subD, negD, tupD, lstD, tupF, lstF, outD, notD, tru, isD, isnD, isN, flat_tp, flat_in, flat_bo, flat_no, flats_nl, flats_cn,
  List.map_cons, List.map_nil, List.length_cons, List.length_nil, List.replicate, List.getElem?_cons_zero, List.getElem?_cons_succ, List.getElem?_nil, List.cons_append, List.nil_append, Option.bind_some, Option.bind_none, Option.bind_assoc, Option.map_some, Option.map_none, Nat.reduceAdd, Nat.reduceSub, Nat.reduceLeDiff, List.set_cons_zero, List.set_cons_succ, if_true, if_false, ite_true, ite_false, reduceCtorEq, Bool.false_eq_true, Bool.not_true, Bool.not_false, ↓reduceIte, eq_self]
theorem roll_lo {a b m : Int} (hb : ¬ 0 < b) (h0 : 0 < m) : G__law_roll [.int a, .int b] [.int m] = some (.int ((a * 48271 + 11) % 2147483647 / 7 % m), [.int ((a * 48271 + 11) % 2147483647), .int b]) := by
  unfold G__law_roll
  refine runX_rt (S := [.dat (.int m), .un]) ?_ rfl rfl
  unfold mr__law_roll
  have i0 : ixD (.lst [.int a, .int b]) (.int 0) = some (.int a) := rfl
  have i1 : ixD (.lst [.int a, .int b]) (.int 1) = some (.int b) := rfl
  have i2 : ∀ x : Int, ixD (.lst [.int x, .int b]) (.int 0) = some (.int x) := fun _ => rfl
  have c : mB (m2 gtD (m2 ixD (mV 0) (mC (.int 1))) (mC (.int 0))) (op (initX 3 [.int a, .int b] [.int m])) = some false := by
    unfold initX
    simp (config := { decide := false }) only [runF, initS, sSeq, sIf, sRet, sRetN, sSet, sSetF, sSetO, sDrop, sNext, sNever, sUnp, sUnpF, sApp, sAppF, sLend, sAugI, asgL_nm, asgL_tp, asgL_wt, asgsL_nil, asgsL_cons, asg_nm, asg_tp, asgs_nil, asgs_cons, wipeD, mAnd, mOr, mNot, mB, mTr, m2, m1, mV, mC, mA, mCh, mAndV, mOrV, aCons, aNil, guardN, op, cl, fl, opn, clos, flt, eqD_int, neD_int, gtD, ltD, leD, geD, addD, subD, negD, tupD, lstD, tupF, lstF, outD, notD, tru, isD, isnD, isN, flat_tp, flat_in, flat_bo, flat_no, flats_nl, flats_cn,
  List.map_cons, List.map_nil, List.length_cons, List.length_nil, List.replicate, List.getElem?_cons_zero, List.getElem?_cons_succ, List.getElem?_nil, List.cons_append, List.nil_append, Option.bind_some, Option.bind_none, Option.bind_assoc, Option.map_some, Option.map_none, Nat.reduceAdd, Nat.reduceSub, Nat.reduceLeDiff, List.set_cons_zero, List.set_cons_succ, if_true, if_false, ite_true, ite_false, reduceCtorEq, Bool.false_eq_true, Bool.not_true, Bool.not_false, ↓reduceIte, eq_self, i1, decide_eq_false hb]
  apply Eq.trans
  · apply sSeq_nx (S1 := [.din [.int a, .int b], .dat (.int m), .un])
    unfold sIf
    rw [c]
    rfl
  apply Eq.trans
  · apply sSeq_nx (S1 := [.din [.int ((a * 48271 + 11) % 2147483647), .int b], .dat (.int m), .un])
    have e : m2 modD (m2 addD (m2 mulD (m2 ixD (mV 0) (mC (.int 0))) (mC (.int 48271))) (mC (.int 11))) (mC (.int 2147483647)) (op [.din [.int a, .int b], .dat (.int m), .un]) = some (.int ((a * 48271 + 11) % 2147483647)) := by
      have em : mulD (.int a) (.int 48271) = some (.int (a * 48271)) := by
        unfold mulD
        exact if_pos (.inr (by omega))
      have eo : ∀ x : Int, modD (.int x) (.int 2147483647) = some (.int (x % 2147483647)) := fun x => by
        unfold modD
        exact if_pos (by omega)
      simp (config := { decide := false }) only [runF, initS, sSeq, sIf, sRet, sRetN, sSet, sSetF, sSetO, sDrop, sNext, sNever, sUnp, sUnpF, sApp, sAppF, sLend, sAugI, asgL_nm, asgL_tp, asgL_wt, asgsL_nil, asgsL_cons, asg_nm, asg_tp, asgs_nil, asgs_cons, wipeD, mAnd, mOr, mNot, mB, mTr, m2, m1, mV, mC, mA, mCh, mAndV, mOrV, aCons, aNil, guardN, op, cl, fl, opn, clos, flt, eqD_int, neD_int, gtD, ltD, leD, geD, addD, subD, negD, tupD, lstD, tupF, lstF, outD, notD, tru, isD, isnD, isN, flat_tp, flat_in, flat_bo, flat_no, flats_nl, flats_cn,
  List.map_cons, List.map_nil, List.length_cons, List.length_nil, List.replicate, List.getElem?_cons_zero, List.getElem?_cons_succ, List.getElem?_nil, List.cons_append, List.nil_append, Option.bind_some, Option.bind_none, Option.bind_assoc, Option.map_some, Option.map_none, Nat.reduceAdd, Nat.reduceSub, Nat.reduceLeDiff, List.set_cons_zero, List.set_cons_succ, if_true, if_false, ite_true, ite_false, reduceCtorEq, Bool.false_eq_true, Bool.not_true, Bool.not_false, ↓reduceIte, eq_self, i0, em, eo]
    unfold ySub
    rw [e]
    rfl
  have ed : ∀ x : Int, divD (.int x) (.int 7) = some (.int (x / 7)) := fun x => by
    unfold divD
    exact if_pos (by omega)
  have eo : ∀ x : Int, modD (.int x) (.int m) = some (.int (x % m)) := fun x => by
    unfold modD
    exact if_pos h0
  simp (config := { decide := false }) only [runF, initS, sSeq, sIf, sRet, sRetN, sSet, sSetF, sSetO, sDrop, sNext, sNever, sUnp, sUnpF, sApp, sAppF, sLend, sAugI, asgL_nm, asgL_tp, asgL_wt, asgsL_nil, asgsL_cons, asg_nm, asg_tp, asgs_nil, asgs_cons, wipeD, mAnd, mOr, mNot, mB, mTr, m2, m1, mV, mC, mA, mCh, mAndV, mOrV, aCons, aNil, guardN, op, cl, fl, opn, clos, flt, eqD_int, neD_int, gtD, ltD, leD, geD, addD, subD, negD, tupD, lstD, tupF, lstF, outD, notD, tru, isD, isnD, isN, flat_tp, flat_in, flat_bo, flat_no, flats_nl, flats_cn,
  List.map_cons, List.map_nil, List.length_cons, List.length_nil, List.replicate, List.getElem?_cons_zero, List.getElem?_cons_succ, List.getElem?_nil, List.cons_append, List.nil_append, Option.bind_some, Option.bind_none, Option.bind_assoc, Option.map_some, Option.map_none, Nat.reduceAdd, Nat.reduceSub, Nat.reduceLeDiff, List.set_cons_zero, List.set_cons_succ, if_true, if_false, ite_true, ite_false, reduceCtorEq, Bool.false_eq_true, Bool.not_true, Bool.not_false, ↓reduceIte, eq_self, i2, ed, eo]
/-- a roll is below its bound, dice stay dice -/
theorem l_roll {a b m : Int} (hb : 0 ≤ b) (h0 : 0 < m) (h1 : m < 1073741824) : ∃ v a' b', G__law_roll [.int a, .int b] [.int m] = some (.int v, [.int a', .int b']) ∧ 0 ≤ v ∧ v < m ∧ 0 ≤ b' := by
  by_cases c : 0 < b
  · exact ⟨_, _, _, roll_hi c h0 h1, Int.emod_nonneg _ (by omega), Int.emod_lt_of_pos _ h0, Int.ediv_nonneg hb (by omega)⟩
  · exact ⟨_, _, _, roll_lo c h0, Int.emod_nonneg _ (by omega), Int.emod_lt_of_pos _ h0, hb⟩
end Ice

namespace Ice
open PySem PySem.Spec PyProof.Rows L2
/-! ### readings with calls that change a list -/
theorem xCall_din {i n : Nat} {g : List D → List D → Option (D × List D)} {mr : Ma} {S : Sl} {ds as es : List D} {v : D} (hS : S[i]? = some (.din ds)) (ha : mr (cl S) = some as) (hg : g ds as = some (v, es)) (f : flats ds = true) (hn : as.length + 1 = n) :
    xCall i n g mr S = some (v, S.set i (.din es)) := by
  unfold xCall
  rw [hS]
  show ((mr (cl S)).bind fun as => xCallG n g ds as .din i S) = _
  rw [ha]
  show xCallG n g ds as .din i S = _
  unfold xCallG
  rw [if_pos ⟨f, hn⟩, hg]
  rfl
theorem xCall_own {i n : Nat} {g : List D → List D → Option (D × List D)} {mr : Ma} {S : Sl} {ds as es : List D} {v : D} (hS : S[i]? = some (.own ds)) (ha : mr (cl S) = some as) (hg : g ds as = some (v, es)) (f : flats ds = true) (hn : as.length + 1 = n) :
    xCall i n g mr S = some (v, S.set i (.own es)) := by
  unfold xCall
  rw [hS]
  show ((mr (cl S)).bind fun as => xCallG n g ds as .own i S) = _
  rw [ha]
  show xCallG n g ds as .own i S = _
  unfold xCallG
  rw [if_pos ⟨f, hn⟩, hg]
  rfl
theorem yApp_at {i : Nat} {m : Mx} {S S1 : Sl} {d : D} {ds es : List D} (h0 : S[i]? = some (.own ds)) (h1 : m S = some (d, S1)) (h2 : S1[i]? = some (.own es)) (hl : es.length < 1000000) : yApp i m S = some (.nx (S1.set i (.own (es ++ [d])))) := by
  unfold yApp
  rw [h0]
  simp only [h1, Option.bind_some, h2, hl, if_true]
theorem turn_go {t : Tg} {b : Ms} {d : D} {S S1 S2 : Sl} {P : Sl → Prop} (h1 : asgL t d S = some S1) (h2 : b S1 = some (.nx S2)) (p : P S2) : Turn t b d S P := ⟨S1, S2, h1, .inl h2, p⟩
abbrev Dn (a b : Int) : SL := .din [.int a, .int b]
theorem xroll {a b m : Int} {mr : Ma} {T : Sl} (ha : mr (cl (Dn a b :: T)) = some [.int m]) (hb : 0 ≤ b) (h0 : 0 < m) (h1 : m < 1073741824) :
    ∃ v a' b', xCall 0 2 G__law_roll mr (Dn a b :: T) = some (.int v, Dn a' b' :: T) ∧ 0 ≤ v ∧ v < m ∧ 0 ≤ b' := by
  obtain ⟨v, a', b', e, h⟩ := l_roll (a := a) hb h0 h1
  exact ⟨v, a', b', xCall_din (S := Dn a b :: T) rfl ha e rfl rfl, h⟩
theorem mul_small {i j : Int} (h0 : 0 ≤ j) (h1 : j ≤ 1000000) : mulD (.int i) (.int j) = some (.int (i * j)) := by
  unfold mulD
  exact if_pos (.inr (by omega))
theorem if01 (k : Bool) : (0 : Int) ≤ (if k then 1 else 0) ∧ (if k then 1 else 0) ≤ (1 : Int) := by cases k <;> decide
theorem mul01 {i m : Int} (h0 : 0 ≤ i) (h1 : i ≤ m) (k : Bool) : 0 ≤ i * (if k then 1 else 0) ∧ i * (if k then 1 else 0) ≤ m := by
  cases k
  · simp only [Bool.false_eq_true, if_false, Int.mul_zero]; omega
  · simp only [if_true, Int.mul_one]; omega
/-! ### heats -/
def htBody : Ms := (sSeq (ySet 4 (x2 ixD (xA lstD (xCons (xCall 0 2 G__law_roll (aCons (mC (.int 4)) aNil)) (xCons (xCall 0 2 G__law_roll (aCons (mC (.int 10)) aNil)) (xCons (xP (mC (.int 0))) (xCons (x2 addD (xP (mC (.int 1))) (xCall 0 2 G__law_roll (aCons (mC (.int 3)) aNil))) xNil))))) (xP (mV 1))))
      (yApp 2 (x2 mulD (xP (mV 4)) (xA intB (xCons (x2 gtD (xCall 0 2 G__law_roll (aCons (mC (.int 6)) aNil)) (xP (mC (.int 0)))) xNil)))))
theorem ix4 {s : Int} {x0 x1 x2 x3 m : Int} (h0 : 0 ≤ s) (h1 : s < 4) (g0 : 0 ≤ x0 ∧ x0 ≤ m) (g1 : 0 ≤ x1 ∧ x1 ≤ m) (g2 : 0 ≤ x2 ∧ x2 ≤ m) (g3 : 0 ≤ x3 ∧ x3 ≤ m) : ∃ w, ixD (.lst [.int x0, .int x1, .int x2, .int x3]) (.int s) = some (.int w) ∧ 0 ≤ w ∧ w ≤ m := by
  have : s = 0 ∨ s = 1 ∨ s = 2 ∨ s = 3 := by omega
  rcases this with rfl | rfl | rfl | rfl
  · exact ⟨_, rfl, g0⟩
  · exact ⟨_, rfl, g1⟩
  · exact ⟨_, rfl, g2⟩
  · exact ⟨_, rfl, g3⟩
theorem heat_turn {a b s : Int} {outs : List D} {u3 u4 : SL} (hb : 0 ≤ b) (h0 : 0 ≤ s) (h1 : s < 4) (hl : outs.length < 1000000) :
    ∃ a' b' w u, 0 ≤ b' ∧ 0 ≤ w ∧ w ≤ 9 ∧ htBody [Dn a b, .dat (.int s), .own outs, u3, u4] = some (.nx [Dn a' b', .dat (.int s), .own (outs ++ [.int w]), u3, u]) := by
  obtain ⟨v1, a1, b1, r1, p1, q1, hb1⟩ := xroll (a := a) (b := b) (mr := aCons (mC (.int 4)) aNil) (m := 4) (T := [.dat (.int s), .own outs, u3, u4]) rfl hb (by decide) (by decide)
  obtain ⟨v2, a2, b2, r2, p2, q2, hb2⟩ := xroll (a := a1) (b := b1) (mr := aCons (mC (.int 10)) aNil) (m := 10) (T := [.dat (.int s), .own outs, u3, u4]) rfl hb1 (by decide) (by decide)
  obtain ⟨v3, a3, b3, r3, p3, q3, hb3⟩ := xroll (a := a2) (b := b2) (mr := aCons (mC (.int 3)) aNil) (m := 3) (T := [.dat (.int s), .own outs, u3, u4]) rfl hb2 (by decide) (by decide)
  obtain ⟨w, e, w0, w9⟩ := ix4 (m := 9) (x0 := v1) (x1 := v2) (x2 := 0) (x3 := 1 + v3) h0 h1 (by omega) (by omega) (by omega) (by omega)
  obtain ⟨v4, a4, b4, r4, p4, q4, hb4⟩ := xroll (a := a3) (b := b3) (mr := aCons (mC (.int 6)) aNil) (m := 6) (T := [.dat (.int s), .own outs, u3, .dat (.int w)]) rfl hb3 (by decide) (by decide)
  obtain ⟨m0, m1⟩ := mul01 w0 w9 (decide (v4 > 0))
  refine ⟨a4, b4, _, .dat (.int w), hb4, m0, m1, ?_⟩
  unfold htBody
  apply Eq.trans
  · apply sSeq_nx (S1 := [Dn a3 b3, .dat (.int s), .own outs, u3, .dat (.int w)])
    simp (config := { decide := false }) only [runF, initS, sSeq, sIf, sRet, sRetN, sSet, sSetF, sSetO, sDrop, sNext, sNever, sUnp, sUnpF, sApp, sAppF, sLend, sAugI, asgL_nm, asgL_tp, asgL_wt, asgsL_nil, asgsL_cons, asg_nm, asg_tp, asgs_nil, asgs_cons, wipeD, mAnd, mOr, mNot, mB, mTr, m2, m1, mV, mC, mA, mCh, mAndV, mOrV, aCons, aNil, guardN, op, cl, fl, opn, clos, flt, eqD_int, neD_int, gtD, ltD, leD, geD, addD, subD, negD, tupD, lstD, tupF, lstF, outD, notD, tru, isD, isnD, isN, flat_tp, flat_in, flat_bo, flat_no, flats_nl, flats_cn,
  List.map_cons, List.map_nil, List.length_cons, List.length_nil, List.replicate, List.getElem?_cons_zero, List.getElem?_cons_succ, List.getElem?_nil, List.cons_append, List.nil_append, Option.bind_some, Option.bind_none, Option.bind_assoc, Option.map_some, Option.map_none, Nat.reduceAdd, Nat.reduceSub, Nat.reduceLeDiff, List.set_cons_zero, List.set_cons_succ, if_true, if_false, ite_true, ite_false, reduceCtorEq, Bool.false_eq_true, Bool.not_true, Bool.not_false, ↓reduceIte, eq_self, ySet, yRet, yIf, x2, x1, xA, xNil, xCons, xP, xT, xB, xAnd, intB, r1, r2, r3, lstD, e]
  refine yApp_at (S := [Dn a3 b3, .dat (.int s), .own outs, u3, .dat (.int w)]) (S1 := [Dn a4 b4, .dat (.int s), .own outs, u3, .dat (.int w)]) (i := 2) rfl ?_ rfl hl
  have mm := mul_small (i := w) (if01 (decide (v4 > 0))).1 (by have := (if01 (decide (v4 > 0))).2; omega)
  simp (config := { decide := false }) only [runF, initS, sSeq, sIf, sRet, sRetN, sSet, sSetF, sSetO, sDrop, sNext, sNever, sUnp, sUnpF, sApp, sAppF, sLend, sAugI, asgL_nm, asgL_tp, asgL_wt, asgsL_nil, asgsL_cons, asg_nm, asg_tp, asgs_nil, asgs_cons, wipeD, mAnd, mOr, mNot, mB, mTr, m2, m1, mV, mC, mA, mCh, mAndV, mOrV, aCons, aNil, guardN, op, cl, fl, opn, clos, flt, eqD_int, neD_int, gtD, ltD, leD, geD, addD, subD, negD, tupD, lstD, tupF, lstF, outD, notD, tru, isD, isnD, isN, flat_tp, flat_in, flat_bo, flat_no, flats_nl, flats_cn,
  List.map_cons, List.map_nil, List.length_cons, List.length_nil, List.replicate, List.getElem?_cons_zero, List.getElem?_cons_succ, List.getElem?_nil, List.cons_append, List.nil_append, Option.bind_some, Option.bind_none, Option.bind_assoc, Option.map_some, Option.map_none, Nat.reduceAdd, Nat.reduceSub, Nat.reduceLeDiff, List.set_cons_zero, List.set_cons_succ, if_true, if_false, ite_true, ite_false, reduceCtorEq, Bool.false_eq_true, Bool.not_true, Bool.not_false, ↓reduceIte, eq_self, ySet, yRet, yIf, x2, x1, xA, xNil, xCons, xP, xT, xB, xAnd, intB, r4, mm]
end Ice

namespace Ice
open PySem PySem.Spec PyProof.Rows L2
/-! ### heats, cells of a house by chance -/
theorem snoc_int (zs : List Int) (w : Int) : zs.map D.int ++ [.int w] = (zs ++ [w]).map D.int := by rw [List.map_append]; rfl
theorem snoc_all {α : Type} {P : α → Prop} {zs : List α} {w : α} (h : ∀ z ∈ zs, P z) (hw : P w) : ∀ z ∈ zs ++ [w], P z := fun z hz => by
  rcases List.mem_append.mp hz with c | c
  · exact h z c
  · rw [List.mem_singleton.mp c]; exact hw
theorem heats_loop (s : Int) (h0 : 0 ≤ s) (h1 : s < 4) {a b : Int} (hb : 0 ≤ b) : ∃ a' b' zs u3 u4, 0 ≤ b' ∧ Heats zs ∧ sFor (itR1 (aCons (mC (.int 5)) aNil)) (.nm 3) htBody [Dn a b, .dat (.int s), .own [], .un, .un] = some (.nx [Dn a' b', .dat (.int s), .own (zs.map .int), u3, u4]) := by
  obtain ⟨S', e, a', b', zs, u3, u4, k1, k2, k3, rfl⟩ := sFor_rel (mi := itR1 (aCons (mC (.int 5)) aNil)) (t := .nm 3) (b := htBody) (fun (i : Nat) => D.int (i : Int))
    (fun n (_ : Unit) S' => ∃ a' b' zs u3 u4, 0 ≤ b' ∧ zs.length + n = 5 ∧ (∀ z ∈ zs, 0 ≤ z ∧ z ≤ 9) ∧ S' = [Dn a' b', .dat (.int s), .own (zs.map .int), u3, u4]) (fun z _ => z) (List.range 5) ()
    (S := [Dn a b, .dat (.int s), .own [], .un, .un]) (itR1_at (n := 5) rfl (by decide)) ⟨a, b, [], .un, .un, hb, rfl, fun _ h => (by cases h), rfl⟩ (by
    rintro n z S' ⟨a', b', zs, u3, u4, k1, k2, k3, rfl⟩ c hc
    obtain ⟨a2, b2, w, u, g1, g2, g3, g⟩ := heat_turn (a := a') (outs := zs.map .int) (u3 := .dat (.int (c : Int))) (u4 := u4) k1 h0 h1 (by rw [List.length_map]; omega)
    rw [snoc_int] at g
    refine turn_go (b := htBody) (d := .int c) rfl g ⟨a2, b2, zs ++ [w], _, u, g1, ?_, snoc_all k3 ⟨g2, g3⟩, rfl⟩
    rw [List.length_append]; simp only [List.length_cons, List.length_nil]; omega)
  exact ⟨a', b', zs, u3, u4, k1, ⟨by omega, k3⟩, e⟩
theorem l_heats {a b : Int} (hb : 0 ≤ b) : ∃ hs a' b', Heats hs ∧ 0 ≤ b' ∧ G__law_heats [.int a, .int b] [] = some (eRow hs, [.int a', .int b']) := by
  obtain ⟨s, a1, b1, r1, p1, q1, hb1⟩ := xroll (a := a) (b := b) (mr := aCons (mC (.int 4)) aNil) (m := 4) (T := [.un, .un, .un, .un]) rfl hb (by decide) (by decide)
  obtain ⟨a2, b2, zs, u3, u4, g1, g2, g⟩ := heats_loop s p1 q1 (a := a1) hb1
  refine ⟨zs, a2, b2, g2, g1, ?_⟩
  unfold G__law_heats
  refine runX_rt (S := [.dat (.int s), .own (zs.map .int), u3, u4]) ?_ (flats_map fun _ _ => rfl) rfl
  unfold mr__law_heats
  apply Eq.trans
  · apply sSeq_nx (S1 := [Dn a1 b1, .dat (.int s), .un, .un, .un])
    have : initX 5 [.int a, .int b] [] = [Dn a b, .un, .un, .un, .un] := rfl
    rw [this]
    simp (config := { decide := false }) only [runF, initS, sSeq, sIf, sRet, sRetN, sSet, sSetF, sSetO, sDrop, sNext, sNever, sUnp, sUnpF, sApp, sAppF, sLend, sAugI, asgL_nm, asgL_tp, asgL_wt, asgsL_nil, asgsL_cons, asg_nm, asg_tp, asgs_nil, asgs_cons, wipeD, mAnd, mOr, mNot, mB, mTr, m2, m1, mV, mC, mA, mCh, mAndV, mOrV, aCons, aNil, guardN, op, cl, fl, opn, clos, flt, eqD_int, neD_int, gtD, ltD, leD, geD, addD, subD, negD, tupD, lstD, tupF, lstF, outD, notD, tru, isD, isnD, isN, flat_tp, flat_in, flat_bo, flat_no, flats_nl, flats_cn,
  List.map_cons, List.map_nil, List.length_cons, List.length_nil, List.replicate, List.getElem?_cons_zero, List.getElem?_cons_succ, List.getElem?_nil, List.cons_append, List.nil_append, Option.bind_some, Option.bind_none, Option.bind_assoc, Option.map_some, Option.map_none, Nat.reduceAdd, Nat.reduceSub, Nat.reduceLeDiff, List.set_cons_zero, List.set_cons_succ, if_true, if_false, ite_true, ite_false, reduceCtorEq, Bool.false_eq_true, Bool.not_true, Bool.not_false, ↓reduceIte, eq_self, ySet, yRet, yIf, x2, x1, xA, xNil, xCons, xP, xT, xB, xAnd, intB, r1]
  apply Eq.trans
  · apply sSeq_nx (S1 := [Dn a1 b1, .dat (.int s), .own [], .un, .un])
    rfl
  exact (sSeq_nx g).trans rfl
/-! cells -/
def clBody : Ms := (sSeq (ySet 8 (x2 ixD (xA lstD (xCons (xCall 0 2 G__law_roll (aCons (mC (.int 6)) aNil)) (xCons (x2 addD (xP (mC (.int 1))) (xCall 0 2 G__law_roll (aCons (mC (.int 40)) aNil))) (xCons (xCall 0 2 G__law_roll (aCons (mC (.int 10000)) aNil)) (xCons (x2 addD (xP (mC (.int 9))) (xCall 0 2 G__law_roll (aCons (mC (.int 2)) aNil))) xNil))))) (xP (mV 3))))
      (yApp 6 (x2 mulD (xP (mV 8)) (xA intB (xCons (x2 gtD (xCall 0 2 G__law_roll (aCons (mC (.int 5)) aNil)) (xP (mC (.int 0)))) xNil)))))
theorem cell_turn {a b s : Int} {outs : List D} {A B C U V W : SL} (hb : 0 ≤ b) (h0 : 0 ≤ s) (h1 : s < 4) (hl : outs.length < 1000000) :
    ∃ a' b' w u, 0 ≤ b' ∧ 0 ≤ w ∧ w ≤ 9999 ∧ clBody [Dn a b, A, B, .dat (.int s), C, U, .own outs, V, W] = some (.nx [Dn a' b', A, B, .dat (.int s), C, U, .own (outs ++ [.int w]), V, u]) := by
  obtain ⟨v1, a1, b1, r1, p1, q1, hb1⟩ := xroll (a := a) (b := b) (mr := aCons (mC (.int 6)) aNil) (m := 6) (T := [A, B, .dat (.int s), C, U, .own outs, V, W]) rfl hb (by decide) (by decide)
  obtain ⟨v2, a2, b2, r2, p2, q2, hb2⟩ := xroll (a := a1) (b := b1) (mr := aCons (mC (.int 40)) aNil) (m := 40) (T := [A, B, .dat (.int s), C, U, .own outs, V, W]) rfl hb1 (by decide) (by decide)
  obtain ⟨v3, a3, b3, r3, p3, q3, hb3⟩ := xroll (a := a2) (b := b2) (mr := aCons (mC (.int 10000)) aNil) (m := 10000) (T := [A, B, .dat (.int s), C, U, .own outs, V, W]) rfl hb2 (by decide) (by decide)
  obtain ⟨v5, a5, b5, r5, p5, q5, hb5⟩ := xroll (a := a3) (b := b3) (mr := aCons (mC (.int 2)) aNil) (m := 2) (T := [A, B, .dat (.int s), C, U, .own outs, V, W]) rfl hb3 (by decide) (by decide)
  obtain ⟨w, e, w0, w9⟩ := ix4 (m := 9999) (x0 := v1) (x1 := 1 + v2) (x2 := v3) (x3 := 9 + v5) h0 h1 (by omega) (by omega) (by omega) (by omega)
  obtain ⟨v4, a4, b4, r4, p4, q4, hb4⟩ := xroll (a := a5) (b := b5) (mr := aCons (mC (.int 5)) aNil) (m := 5) (T := [A, B, .dat (.int s), C, U, .own outs, V, .dat (.int w)]) rfl hb5 (by decide) (by decide)
  obtain ⟨m0, m1⟩ := mul01 w0 w9 (decide (v4 > 0))
  refine ⟨a4, b4, _, .dat (.int w), hb4, m0, m1, ?_⟩
  unfold clBody
  apply Eq.trans
  · apply sSeq_nx (S1 := [Dn a5 b5, A, B, .dat (.int s), C, U, .own outs, V, .dat (.int w)])
    simp (config := { decide := false }) only [runF, initS, sSeq, sIf, sRet, sRetN, sSet, sSetF, sSetO, sDrop, sNext, sNever, sUnp, sUnpF, sApp, sAppF, sLend, sAugI, asgL_nm, asgL_tp, asgL_wt, asgsL_nil, asgsL_cons, asg_nm, asg_tp, asgs_nil, asgs_cons, wipeD, mAnd, mOr, mNot, mB, mTr, m2, m1, mV, mC, mA, mCh, mAndV, mOrV, aCons, aNil, guardN, op, cl, fl, opn, clos, flt, eqD_int, neD_int, gtD, ltD, leD, geD, addD, subD, negD, tupD, lstD, tupF, lstF, outD, notD, tru, isD, isnD, isN, flat_tp, flat_in, flat_bo, flat_no, flats_nl, flats_cn,
  List.map_cons, List.map_nil, List.length_cons, List.length_nil, List.replicate, List.getElem?_cons_zero, List.getElem?_cons_succ, List.getElem?_nil, List.cons_append, List.nil_append, Option.bind_some, Option.bind_none, Option.bind_assoc, Option.map_some, Option.map_none, Nat.reduceAdd, Nat.reduceSub, Nat.reduceLeDiff, List.set_cons_zero, List.set_cons_succ, if_true, if_false, ite_true, ite_false, reduceCtorEq, Bool.false_eq_true, Bool.not_true, Bool.not_false, ↓reduceIte, eq_self, ySet, yRet, yIf, x2, x1, xA, xNil, xCons, xP, xT, xB, xAnd, intB, r1, r2, r3, r5, lstD, e]
  refine yApp_at (S := [Dn a5 b5, A, B, .dat (.int s), C, U, .own outs, V, .dat (.int w)]) (S1 := [Dn a4 b4, A, B, .dat (.int s), C, U, .own outs, V, .dat (.int w)]) (i := 6) rfl ?_ rfl hl
  have mm := mul_small (i := w) (if01 (decide (v4 > 0))).1 (by have := (if01 (decide (v4 > 0))).2; omega)
  simp (config := { decide := false }) only [runF, initS, sSeq, sIf, sRet, sRetN, sSet, sSetF, sSetO, sDrop, sNext, sNever, sUnp, sUnpF, sApp, sAppF, sLend, sAugI, asgL_nm, asgL_tp, asgL_wt, asgsL_nil, asgsL_cons, asg_nm, asg_tp, asgs_nil, asgs_cons, wipeD, mAnd, mOr, mNot, mB, mTr, m2, m1, mV, mC, mA, mCh, mAndV, mOrV, aCons, aNil, guardN, op, cl, fl, opn, clos, flt, eqD_int, neD_int, gtD, ltD, leD, geD, addD, subD, negD, tupD, lstD, tupF, lstF, outD, notD, tru, isD, isnD, isN, flat_tp, flat_in, flat_bo, flat_no, flats_nl, flats_cn,
  List.map_cons, List.map_nil, List.length_cons, List.length_nil, List.replicate, List.getElem?_cons_zero, List.getElem?_cons_succ, List.getElem?_nil, List.cons_append, List.nil_append, Option.bind_some, Option.bind_none, Option.bind_assoc, Option.map_some, Option.map_none, Nat.reduceAdd, Nat.reduceSub, Nat.reduceLeDiff, List.set_cons_zero, List.set_cons_succ, if_true, if_false, ite_true, ite_false, reduceCtorEq, Bool.false_eq_true, Bool.not_true, Bool.not_false, ↓reduceIte, eq_self, ySet, yRet, yIf, x2, x1, xA, xNil, xCons, xP, xT, xB, xAnd, intB, r4, mm]
def clRow : Ms := (sSeq (sSetO 6 (mA lstD aNil))
      (sSeq (sFor (itR1 (aCons (mV 2) aNil)) (.nm 7) clBody)
      (sAppF 4 (mA tupF (aCons (mV 6) aNil)))))
theorem row_loop {a b s : Int} {wd : Nat} (hw : wd ≤ 4) {A C U V W : SL} (hb : 0 ≤ b) (h0 : 0 ≤ s) (h1 : s < 4) :
    ∃ (a' b' : Int) (zs : List Int) (v w : SL), 0 ≤ b' ∧ zs.length = wd ∧ (∀ z ∈ zs, 0 ≤ z ∧ z ≤ 9999) ∧ sFor (itR1 (aCons (mV 2) aNil)) (.nm 7) clBody [Dn a b, A, .dat (.int wd), .dat (.int s), C, U, .own [], V, W] = some (.nx [Dn a' b', A, .dat (.int wd), .dat (.int s), C, U, .own (zs.map .int), v, w]) := by
  obtain ⟨S', e, a', b', zs, v, w, k1, k2, k3, rfl⟩ := sFor_rel (mi := itR1 (aCons (mV 2) aNil)) (t := .nm 7) (b := clBody) (fun (i : Nat) => D.int (i : Int))
    (fun n (_ : Unit) S' => ∃ (a' b' : Int) (zs : List Int) (v w : SL), 0 ≤ b' ∧ zs.length + n = wd ∧ (∀ z ∈ zs, 0 ≤ z ∧ z ≤ 9999) ∧ S' = [Dn a' b', A, .dat (.int wd), .dat (.int s), C, U, .own (zs.map .int), v, w]) (fun z _ => z) (List.range wd) ()
    (S := [Dn a b, A, .dat (.int wd), .dat (.int s), C, U, .own [], V, W]) (itR1_at (n := wd) rfl (by omega)) ⟨a, b, [], V, W, hb, by rw [List.length_range, List.length_nil, Nat.zero_add], fun _ h => (by cases h), rfl⟩ (by
    rintro n z S' ⟨a', b', zs, v, w, k1, k2, k3, rfl⟩ c hc
    obtain ⟨a2, b2, x, u, g1, g2, g3, g⟩ := cell_turn (a := a') (outs := zs.map .int) (A := A) (B := .dat (.int wd)) (C := C) (U := U) (V := .dat (.int (c : Int))) (W := w) k1 h0 h1 (by rw [List.length_map]; omega)
    rw [snoc_int] at g
    refine turn_go (b := clBody) (d := .int c) rfl g ⟨a2, b2, zs ++ [x], _, u, g1, ?_, snoc_all k3 ⟨g2, g3⟩, rfl⟩
    rw [List.length_append]; simp only [List.length_cons, List.length_nil]; omega)
  exact ⟨a', b', zs, v, w, k1, by omega, k3, e⟩
theorem row_turn {a b s : Int} {wd : Nat} (hw : wd ≤ 4) {rows : List D} {A U U6 V W : SL} (hb : 0 ≤ b) (h0 : 0 ≤ s) (h1 : s < 4) (hl : rows.length < 1000000) :
    ∃ (a' b' : Int) (zs : List Int) (u6 v w : SL), 0 ≤ b' ∧ zs.length = wd ∧ (∀ z ∈ zs, 0 ≤ z ∧ z ≤ 9999) ∧ clRow [Dn a b, A, .dat (.int wd), .dat (.int s), .own rows, U, U6, V, W] = some (.nx [Dn a' b', A, .dat (.int wd), .dat (.int s), .own (rows ++ [eRow zs]), U, u6, v, w]) := by
  obtain ⟨a', b', zs, v, w, k1, k2, k3, e⟩ := row_loop (a := a) hw (A := A) (C := .own rows) (U := U) (V := V) (W := W) hb h0 h1
  refine ⟨a', b', zs, .own (zs.map .int), v, w, k1, k2, k3, ?_⟩
  unfold clRow
  apply Eq.trans
  · apply sSeq_nx (S1 := [Dn a b, A, .dat (.int wd), .dat (.int s), .own rows, U, .own [], V, W])
    rfl
  refine (sSeq_nx e).trans ?_
  have f : flats (zs.map D.int) = true := flats_map (e := D.int) fun _ _ => rfl
  simp (config := { decide := false }) only [runF, initS, sSeq, sIf, sRet, sRetN, sSet, sSetF, sSetO, sDrop, sNext, sNever, sUnp, sUnpF, sApp, sAppF, sLend, sAugI, asgL_nm, asgL_tp, asgL_wt, asgsL_nil, asgsL_cons, asg_nm, asg_tp, asgs_nil, asgs_cons, wipeD, mAnd, mOr, mNot, mB, mTr, m2, m1, mV, mC, mA, mCh, mAndV, mOrV, aCons, aNil, guardN, op, cl, fl, opn, clos, flt, eqD_int, neD_int, gtD, ltD, leD, geD, addD, subD, negD, tupD, lstD, tupF, lstF, outD, notD, tru, isD, isnD, isN, flat_tp, flat_in, flat_bo, flat_no, flats_nl, flats_cn,
  List.map_cons, List.map_nil, List.length_cons, List.length_nil, List.replicate, List.getElem?_cons_zero, List.getElem?_cons_succ, List.getElem?_nil, List.cons_append, List.nil_append, Option.bind_some, Option.bind_none, Option.bind_assoc, Option.map_some, Option.map_none, Nat.reduceAdd, Nat.reduceSub, Nat.reduceLeDiff, List.set_cons_zero, List.set_cons_succ, if_true, if_false, ite_true, ite_false, reduceCtorEq, Bool.false_eq_true, Bool.not_true, Bool.not_false, ↓reduceIte, eq_self, hl, f]
  rfl
theorem snoc_row (zs : List (List Int)) (w : List Int) : zs.map eRow ++ [eRow w] = (zs ++ [w]).map eRow := by rw [List.map_append]; rfl
theorem l_cells {a b : Int} {hi wd : Nat} (h1 : 1 ≤ hi ∧ hi ≤ 4) (h2 : 1 ≤ wd ∧ wd ≤ 4) (hb : 0 ≤ b) :
    ∃ cs a' b', Gr cs ∧ cs.length = hi ∧ wide cs = wd ∧ (∀ r ∈ cs, ∀ x ∈ r, 0 ≤ x ∧ x ≤ 9999) ∧ 0 ≤ b' ∧ G__law_cells [.int a, .int b] [.int hi, .int wd] = some (eCells cs, [.int a', .int b']) := by
  obtain ⟨s, a1, b1, r1, p1, q1, hb1⟩ := xroll (a := a) (b := b) (mr := aCons (mC (.int 4)) aNil) (m := 4) (T := [.dat (.int hi), .dat (.int wd), .un, .un, .un, .un, .un, .un]) rfl hb (by decide) (by decide)
  obtain ⟨S', e, a', b', cs, u5, u6, u7, u8, k1, k2, k3, rfl⟩ := sFor_rel (mi := itR1 (aCons (mV 1) aNil)) (t := .nm 5) (b := clRow) (fun (i : Nat) => D.int (i : Int))
    (fun n (_ : Unit) S' => ∃ a' b' cs u5 u6 u7 u8, 0 ≤ b' ∧ cs.length + n = hi ∧ (∀ r ∈ cs, r.length = wd ∧ ∀ x ∈ r, 0 ≤ x ∧ x ≤ 9999) ∧ S' = [Dn a' b', .dat (.int hi), .dat (.int wd), .dat (.int s), .own (cs.map eRow), u5, u6, u7, u8]) (fun z _ => z) (List.range hi) ()
    (S := [Dn a1 b1, .dat (.int hi), .dat (.int wd), .dat (.int s), .own [], .un, .un, .un, .un]) (itR1_at (n := hi) rfl (by omega)) ⟨a1, b1, [], .un, .un, .un, .un, hb1, by rw [List.length_range, List.length_nil, Nat.zero_add], fun _ h => (by cases h), rfl⟩ (by
    rintro n z S' ⟨a', b', cs, u5, u6, u7, u8, k1, k2, k3, rfl⟩ c hc
    obtain ⟨a2, b2, zs, v6, v7, v8, g1, g2, g3, g⟩ := row_turn (a := a') (s := s) h2.2 (rows := cs.map eRow) (A := .dat (.int hi)) (U := .dat (.int (c : Int))) (U6 := u6) (V := u7) (W := u8) k1 p1 q1 (by rw [List.length_map]; omega)
    rw [snoc_row] at g
    refine turn_go (b := clRow) (d := .int c) rfl g ⟨a2, b2, cs ++ [zs], _, v6, v7, v8, g1, ?_, snoc_all k3 ⟨g2, g3⟩, rfl⟩
    rw [List.length_append]; simp only [List.length_cons, List.length_nil]; omega)
  have hlen : cs.length = hi := by omega
  have hwide : wide cs = wd := by
    cases cs with
    | nil => simp only [List.length_nil] at hlen; omega
    | cons r rs => exact (k3 r List.mem_cons_self).1
  refine ⟨cs, a', b', ⟨by omega, by omega, fun r hr => by rw [hwide]; exact (k3 r hr).1⟩, hlen, hwide, fun r hr => (k3 r hr).2, k1, ?_⟩
  unfold G__law_cells
  refine runX_rt (S := [.dat (.int hi), .dat (.int wd), .dat (.int s), .own (cs.map eRow), u5, u6, u7, u8]) ?_ (flats_map fun _ _ => flats_map fun _ _ => rfl) rfl
  unfold mr__law_cells
  apply Eq.trans
  · apply sSeq_nx (S1 := [Dn a1 b1, .dat (.int hi), .dat (.int wd), .dat (.int s), .un, .un, .un, .un, .un])
    have : initX 9 [.int a, .int b] [.int hi, .int wd] = [Dn a b, .dat (.int hi), .dat (.int wd), .un, .un, .un, .un, .un, .un] := rfl
    rw [this]
    simp (config := { decide := false }) only [runF, initS, sSeq, sIf, sRet, sRetN, sSet, sSetF, sSetO, sDrop, sNext, sNever, sUnp, sUnpF, sApp, sAppF, sLend, sAugI, asgL_nm, asgL_tp, asgL_wt, asgsL_nil, asgsL_cons, asg_nm, asg_tp, asgs_nil, asgs_cons, wipeD, mAnd, mOr, mNot, mB, mTr, m2, m1, mV, mC, mA, mCh, mAndV, mOrV, aCons, aNil, guardN, op, cl, fl, opn, clos, flt, eqD_int, neD_int, gtD, ltD, leD, geD, addD, subD, negD, tupD, lstD, tupF, lstF, outD, notD, tru, isD, isnD, isN, flat_tp, flat_in, flat_bo, flat_no, flats_nl, flats_cn,
  List.map_cons, List.map_nil, List.length_cons, List.length_nil, List.replicate, List.getElem?_cons_zero, List.getElem?_cons_succ, List.getElem?_nil, List.cons_append, List.nil_append, Option.bind_some, Option.bind_none, Option.bind_assoc, Option.map_some, Option.map_none, Nat.reduceAdd, Nat.reduceSub, Nat.reduceLeDiff, List.set_cons_zero, List.set_cons_succ, if_true, if_false, ite_true, ite_false, reduceCtorEq, Bool.false_eq_true, Bool.not_true, Bool.not_false, ↓reduceIte, eq_self, ySet, yRet, yIf, x2, x1, xA, xNil, xCons, xP, xT, xB, xAnd, intB, r1]
  apply Eq.trans
  · apply sSeq_nx (S1 := [Dn a1 b1, .dat (.int hi), .dat (.int wd), .dat (.int s), .own [], .un, .un, .un, .un])
    rfl
  exact (sSeq_nx e).trans rfl
end Ice

namespace Ice
open PySem PySem.Spec PyProof.Rows L2
/-! ### walls of a house by chance, the house -/
theorem eW_inj {x y : Int × Int × Int} (h : eW x = eW y) : x = y := by
  obtain ⟨a, b, c⟩ := x
  obtain ⟨d, e, f⟩ := y
  unfold eW at h
  injection h with h
  injection h with h1 h
  injection h with h2 h
  injection h with h3 h
  cases h1
  cases h2
  cases h3
  rfl
theorem any_eW (x : Int × Int × Int) : ∀ (fs : List (Int × Int × Int)), ((pys (fs.map eW)).any fun z => PyData.eqv z (py (eW x))) = decide (x ∈ fs)
  | [] => rfl
  | f :: fs => by
    show (PyData.eqv (py (eW f)) (py (eW x)) || (pys (fs.map eW)).any fun z => PyData.eqv z (py (eW x))) = _
    rw [any_eW x fs, Bool.eq_iff_iff, Bool.or_eq_true, numd_eqv 1 (eW f) 1 (eW x) rfl rfl, decide_eq_true_iff, decide_eq_true_iff, List.mem_cons]
    constructor
    · rintro (h | h)
      · exact .inl (eW_inj h).symm
      · exact .inr h
    · rintro (h | h)
      · rw [h]; exact .inl rfl
      · exact .inr h
theorem nin_list (x : Int × Int × Int) (fs : List (Int × Int × Int)) : ninL (eW x) (.lst (fs.map eW)) = some (.bl (!decide (x ∈ fs))) := by
  show (if SeqAt.shaped (py (eW x)) = true ∧ SeqAt.shaped (py (.lst (fs.map eW))) = true then some (D.bl (!(pys (fs.map eW)).any fun z => PyData.eqv z (py (eW x)))) else none) = _
  rw [if_pos ⟨rfl, numd_sh (n := 2) (by decide) (numds_map (n := 1) fun w _ => rfl)⟩, any_eW]
def scBody : Ms := (sSeq (sSet 8 (mA (guardN 2 G__law_face) (aCons (mV 1) (aCons (mA tupD (aCons (mV 5) (aCons (mV 6) (aCons (mV 7) aNil)))) aNil))))
      (yIf (xAnd (xB (x2 gtD (xCall 0 2 G__law_roll (aCons (mV 4) aNil)) (xP (mC (.int 0))))) (xAnd (xT (mB (m2 ninL (mV 8) (mV 3)))) (xT (mB (m2 ltD (mA lenA (aCons (mV 2) aNil)) (mC (.int 40))))))) (sSeq (sApp 3 (mV 8))
      (sApp 2 (mA tupD (aCons (mV 5) (aCons (mV 6) (aCons (mV 7) aNil)))))) sNext))
/-- walls drawn so far -/
structure Ws (cs : List (List Int)) (ws : List (Int × Int × Int)) : Prop where
  wl : ws.length ≤ 40
  wr : ∀ w ∈ ws, inG cs w.1 w.2.1 = true ∧ 0 ≤ w.2.2 ∧ w.2.2 ≤ 3
  nd : (ws.map face).Nodup
theorem Ws.snoc {cs : List (List Int)} {ws : List (Int × Int × Int)} (h : Ws cs ws) {w : Int × Int × Int} (hl : ws.length < 40) (hw : inG cs w.1 w.2.1 = true ∧ 0 ≤ w.2.2 ∧ w.2.2 ≤ 3) (hn : face w ∉ ws.map face) : Ws cs (ws ++ [w]) := by
  refine ⟨?_, snoc_all h.wr hw, ?_⟩
  · rw [List.length_append]; simp only [List.length_cons, List.length_nil]; omega
  · rw [List.map_append, List.nodup_append]
    refine ⟨h.nd, List.pairwise_singleton _ _, fun x hx y hy e => ?_⟩
    rw [List.mem_singleton.mp hy] at e
    exact hn (e ▸ hx)
theorem snoc_eW (ws : List (Int × Int × Int)) (w : Int × Int × Int) : ws.map eW ++ [eW w] = (ws ++ [w]).map eW := by rw [List.map_append]; rfl
theorem snoc_face (ws : List (Int × Int × Int)) (w : Int × Int × Int) : (ws.map face).map eW ++ [eW (face w)] = ((ws ++ [w]).map face).map eW := by rw [List.map_append, List.map_append]; rfl
/-- a turn, over abstract data -/
theorem sc_go {C F : D} {a b a' b' q r c s v n : Int} {outs seen : List D} {u8 : SL} {k : Bool} (hf : G__law_face [C, .tup [.int r, .int c, .int s]] = some F)
    (hr : xCall 0 2 G__law_roll (aCons (mV 4) aNil) [Dn a b, .dat C, .own outs, .own seen, .dat (.int q), .dat (.int r), .dat (.int c), .dat (.int s), .dat F] = some (.int v, [Dn a' b', .dat C, .own outs, .own seen, .dat (.int q), .dat (.int r), .dat (.int c), .dat (.int s), .dat F]))
    (hn : ninL F (.lst seen) = some (.bl k)) (hl : lenA [.lst outs] = some (.int n)) (h1 : outs.length < 1000000) (h2 : seen.length < 1000000) :
    scBody [Dn a b, .dat C, .own outs, .own seen, .dat (.int q), .dat (.int r), .dat (.int c), .dat (.int s), u8] = some (.nx (if 0 < v ∧ k = true ∧ n < 40 then [Dn a' b', .dat C, .own (outs ++ [.tup [.int r, .int c, .int s]]), .own (seen ++ [F]), .dat (.int q), .dat (.int r), .dat (.int c), .dat (.int s), .dat F] else [Dn a' b', .dat C, .own outs, .own seen, .dat (.int q), .dat (.int r), .dat (.int c), .dat (.int s), .dat F])) := by
  unfold scBody
  apply Eq.trans
  · apply sSeq_nx (S1 := [Dn a b, .dat C, .own outs, .own seen, .dat (.int q), .dat (.int r), .dat (.int c), .dat (.int s), .dat F])
    simp (config := { decide := false }) only [runF, initS, sSeq, sIf, sRet, sRetN, sSet, sSetF, sSetO, sDrop, sNext, sNever, sUnp, sUnpF, sApp, sAppF, sLend, sAugI, asgL_nm, asgL_tp, asgL_wt, asgsL_nil, asgsL_cons, asg_nm, asg_tp, asgs_nil, asgs_cons, wipeD, mAnd, mOr, mNot, mB, mTr, m2, m1, mV, mC, mA, mCh, mAndV, mOrV, aCons, aNil, guardN, op, cl, fl, opn, clos, flt, eqD_int, neD_int, gtD, ltD, leD, geD, addD, subD, negD, tupD, lstD, tupF, lstF, outD, notD, tru, isD, isnD, isN, flat_tp, flat_in, flat_bo, flat_no, flats_nl, flats_cn,
  List.map_cons, List.map_nil, List.length_cons, List.length_nil, List.replicate, List.getElem?_cons_zero, List.getElem?_cons_succ, List.getElem?_nil, List.cons_append, List.nil_append, Option.bind_some, Option.bind_none, Option.bind_assoc, Option.map_some, Option.map_none, Nat.reduceAdd, Nat.reduceSub, Nat.reduceLeDiff, List.set_cons_zero, List.set_cons_succ, if_true, if_false, ite_true, ite_false, reduceCtorEq, Bool.false_eq_true, Bool.not_true, Bool.not_false, ↓reduceIte, eq_self, hf]
  by_cases c1 : 0 < v
  · cases k with
    | true =>
      by_cases c3 : n < 40
      · simp (config := { decide := false }) only [runF, initS, sSeq, sIf, sRet, sRetN, sSet, sSetF, sSetO, sDrop, sNext, sNever, sUnp, sUnpF, sApp, sAppF, sLend, sAugI, asgL_nm, asgL_tp, asgL_wt, asgsL_nil, asgsL_cons, asg_nm, asg_tp, asgs_nil, asgs_cons, wipeD, mAnd, mOr, mNot, mB, mTr, m2, m1, mV, mC, mA, mCh, mAndV, mOrV, aCons, aNil, guardN, op, cl, fl, opn, clos, flt, eqD_int, neD_int, gtD, ltD, leD, geD, addD, subD, negD, tupD, lstD, tupF, lstF, outD, notD, tru, isD, isnD, isN, flat_tp, flat_in, flat_bo, flat_no, flats_nl, flats_cn,
  List.map_cons, List.map_nil, List.length_cons, List.length_nil, List.replicate, List.getElem?_cons_zero, List.getElem?_cons_succ, List.getElem?_nil, List.cons_append, List.nil_append, Option.bind_some, Option.bind_none, Option.bind_assoc, Option.map_some, Option.map_none, Nat.reduceAdd, Nat.reduceSub, Nat.reduceLeDiff, List.set_cons_zero, List.set_cons_succ, if_true, if_false, ite_true, ite_false, reduceCtorEq, Bool.false_eq_true, Bool.not_true, Bool.not_false, ↓reduceIte, eq_self, ySet, yRet, yIf, x2, x1, xA, xNil, xCons, xP, xT, xB, xAnd, intB, hr, hn, hl, c1, c3, decide_true, h1, h2, and_self]
      · simp (config := { decide := false }) only [runF, initS, sSeq, sIf, sRet, sRetN, sSet, sSetF, sSetO, sDrop, sNext, sNever, sUnp, sUnpF, sApp, sAppF, sLend, sAugI, asgL_nm, asgL_tp, asgL_wt, asgsL_nil, asgsL_cons, asg_nm, asg_tp, asgs_nil, asgs_cons, wipeD, mAnd, mOr, mNot, mB, mTr, m2, m1, mV, mC, mA, mCh, mAndV, mOrV, aCons, aNil, guardN, op, cl, fl, opn, clos, flt, eqD_int, neD_int, gtD, ltD, leD, geD, addD, subD, negD, tupD, lstD, tupF, lstF, outD, notD, tru, isD, isnD, isN, flat_tp, flat_in, flat_bo, flat_no, flats_nl, flats_cn,
  List.map_cons, List.map_nil, List.length_cons, List.length_nil, List.replicate, List.getElem?_cons_zero, List.getElem?_cons_succ, List.getElem?_nil, List.cons_append, List.nil_append, Option.bind_some, Option.bind_none, Option.bind_assoc, Option.map_some, Option.map_none, Nat.reduceAdd, Nat.reduceSub, Nat.reduceLeDiff, List.set_cons_zero, List.set_cons_succ, if_true, if_false, ite_true, ite_false, reduceCtorEq, Bool.false_eq_true, Bool.not_true, Bool.not_false, ↓reduceIte, eq_self, ySet, yRet, yIf, x2, x1, xA, xNil, xCons, xP, xT, xB, xAnd, intB, hr, hn, hl, c1, c3, decide_true, decide_false, and_false]
    | false => simp (config := { decide := false }) only [runF, initS, sSeq, sIf, sRet, sRetN, sSet, sSetF, sSetO, sDrop, sNext, sNever, sUnp, sUnpF, sApp, sAppF, sLend, sAugI, asgL_nm, asgL_tp, asgL_wt, asgsL_nil, asgsL_cons, asg_nm, asg_tp, asgs_nil, asgs_cons, wipeD, mAnd, mOr, mNot, mB, mTr, m2, m1, mV, mC, mA, mCh, mAndV, mOrV, aCons, aNil, guardN, op, cl, fl, opn, clos, flt, eqD_int, neD_int, gtD, ltD, leD, geD, addD, subD, negD, tupD, lstD, tupF, lstF, outD, notD, tru, isD, isnD, isN, flat_tp, flat_in, flat_bo, flat_no, flats_nl, flats_cn,
  List.map_cons, List.map_nil, List.length_cons, List.length_nil, List.replicate, List.getElem?_cons_zero, List.getElem?_cons_succ, List.getElem?_nil, List.cons_append, List.nil_append, Option.bind_some, Option.bind_none, Option.bind_assoc, Option.map_some, Option.map_none, Nat.reduceAdd, Nat.reduceSub, Nat.reduceLeDiff, List.set_cons_zero, List.set_cons_succ, if_true, if_false, ite_true, ite_false, reduceCtorEq, Bool.false_eq_true, Bool.not_true, Bool.not_false, ↓reduceIte, eq_self, ySet, yRet, yIf, x2, x1, xA, xNil, xCons, xP, xT, xB, xAnd, intB, hr, hn, hl, c1, decide_true, and_false, false_and]
  · simp (config := { decide := false }) only [runF, initS, sSeq, sIf, sRet, sRetN, sSet, sSetF, sSetO, sDrop, sNext, sNever, sUnp, sUnpF, sApp, sAppF, sLend, sAugI, asgL_nm, asgL_tp, asgL_wt, asgsL_nil, asgsL_cons, asg_nm, asg_tp, asgs_nil, asgs_cons, wipeD, mAnd, mOr, mNot, mB, mTr, m2, m1, mV, mC, mA, mCh, mAndV, mOrV, aCons, aNil, guardN, op, cl, fl, opn, clos, flt, eqD_int, neD_int, gtD, ltD, leD, geD, addD, subD, negD, tupD, lstD, tupF, lstF, outD, notD, tru, isD, isnD, isN, flat_tp, flat_in, flat_bo, flat_no, flats_nl, flats_cn,
  List.map_cons, List.map_nil, List.length_cons, List.length_nil, List.replicate, List.getElem?_cons_zero, List.getElem?_cons_succ, List.getElem?_nil, List.cons_append, List.nil_append, Option.bind_some, Option.bind_none, Option.bind_assoc, Option.map_some, Option.map_none, Nat.reduceAdd, Nat.reduceSub, Nat.reduceLeDiff, List.set_cons_zero, List.set_cons_succ, if_true, if_false, ite_true, ite_false, reduceCtorEq, Bool.false_eq_true, Bool.not_true, Bool.not_false, ↓reduceIte, eq_self, ySet, yRet, yIf, x2, x1, xA, xNil, xCons, xP, xT, xB, xAnd, intB, hr, c1, decide_false, false_and]
theorem sc_turn {cs : List (List Int)} (g : Gr cs) {ws : List (Int × Int × Int)} (hw : Ws cs ws) {a b q r c s : Int} {u8 : SL} (hb : 0 ≤ b) (q0 : 0 < q) (q1 : q < 10) (hc : inG cs r c = true) (s0 : 0 ≤ s) (s3 : s ≤ 3) :
    ∃ a' b' ws' u, 0 ≤ b' ∧ Ws cs ws' ∧ scBody [Dn a b, .dat (eCells cs), .own (ws.map eW), .own ((ws.map face).map eW), .dat (.int q), .dat (.int r), .dat (.int c), .dat (.int s), u8] = some (.nx [Dn a' b', .dat (eCells cs), .own (ws'.map eW), .own ((ws'.map face).map eW), .dat (.int q), .dat (.int r), .dat (.int c), .dat (.int s), u]) := by
  obtain ⟨v, a', b', e, p1, p2, hb'⟩ := xroll (a := a) (b := b) (mr := aCons (mV 4) aNil) (m := q) (T := [.dat (eCells cs), .own (ws.map eW), .own ((ws.map face).map eW), .dat (.int q), .dat (.int r), .dat (.int c), .dat (.int s), .dat (eW (face (r, c, s)))]) rfl hb q0 (by omega)
  have wl := hw.wl
  have t := sc_go (u8 := u8) (l_face g (w := (r, c, s)) hc s0 s3) e (nin_list _ _) (n := ws.length) (by show some (D.int ((ws.map eW).length : Nat)) = _; rw [List.length_map]) (by rw [List.length_map]; omega) (by rw [List.length_map, List.length_map]; omega)
  rw [t]
  by_cases k : 0 < v ∧ (!decide (face (r, c, s) ∈ ws.map face)) = true ∧ (ws.length : Int) < 40
  · rw [if_pos k]
    have k2 : face (r, c, s) ∉ ws.map face := by simpa only [Bool.not_eq_true', decide_eq_false_iff_not] using k.2.1
    refine ⟨a', b', ws ++ [(r, c, s)], .dat (eW (face (r, c, s))), hb', hw.snoc (by omega) ⟨hc, s0, s3⟩ k2, ?_⟩
    rw [← snoc_eW, ← snoc_face]
    rfl
  · rw [if_neg k]
    exact ⟨a', b', ws, _, hb', hw, rfl⟩
/-- what holds between the turns -/
def ScR (cs : List (List Int)) (q : Int) (S : Sl) : Prop := ∃ a b ws u5 u6 u7 u8, 0 ≤ b ∧ Ws cs ws ∧ S = [Dn a b, .dat (eCells cs), .own (ws.map eW), .own ((ws.map face).map eW), .dat (.int q), u5, u6, u7, u8]
def sc4 : Ms := sFor (itR1 (aCons (mC (.int 4)) aNil)) (.nm 7) scBody
def sc6 : Ms := sFor (itR1 (aCons (mA lenA (aCons (m2 ixD (mV 1) (mC (.int 0))) aNil)) aNil)) (.nm 6) sc4
theorem sc4_ok {cs : List (List Int)} (g : Gr cs) {q r c : Int} (q0 : 0 < q) (q1 : q < 10) (hc : inG cs r c = true) {a b : Int} {ws : List (Int × Int × Int)} {u7 u8 : SL} (hb : 0 ≤ b) (hw : Ws cs ws) :
    ∃ a' b' ws' u7' u8', 0 ≤ b' ∧ Ws cs ws' ∧ sc4 [Dn a b, .dat (eCells cs), .own (ws.map eW), .own ((ws.map face).map eW), .dat (.int q), .dat (.int r), .dat (.int c), u7, u8] = some (.nx [Dn a' b', .dat (eCells cs), .own (ws'.map eW), .own ((ws'.map face).map eW), .dat (.int q), .dat (.int r), .dat (.int c), u7', u8']) := by
  obtain ⟨S', e, a', b', ws', u7', u8', k1, k2, rfl⟩ := sFor_rel (mi := itR1 (aCons (mC (.int 4)) aNil)) (t := .nm 7) (b := scBody) (fun (i : Nat) => D.int (i : Int))
    (fun n (_ : Unit) S' => ∃ a' b' ws' u7' u8', 0 ≤ b' ∧ Ws cs ws' ∧ S' = [Dn a' b', .dat (eCells cs), .own (ws'.map eW), .own ((ws'.map face).map eW), .dat (.int q), .dat (.int r), .dat (.int c), u7', u8']) (fun z _ => z) (List.range 4) ()
    (S := [Dn a b, .dat (eCells cs), .own (ws.map eW), .own ((ws.map face).map eW), .dat (.int q), .dat (.int r), .dat (.int c), u7, u8]) (itR1_at (n := 4) rfl (by decide)) ⟨a, b, ws, u7, u8, hb, hw, rfl⟩ (by
    rintro n z S' ⟨a', b', ws', u7', u8', k1, k2, rfl⟩ s hs
    have hs' := List.mem_range.mp hs
    obtain ⟨a2, b2, ws2, u, g1, g2, t⟩ := sc_turn g k2 (a := a') (s := s) (u8 := u8') k1 q0 q1 hc (by omega) (by omega)
    exact turn_go (b := scBody) (d := .int s) rfl t ⟨a2, b2, ws2, _, u, g1, g2, rfl⟩)
  exact ⟨a', b', ws', u7', u8', k1, k2, e⟩
theorem sc6_ok {cs : List (List Int)} (g : Gr cs) {q : Int} {r : Nat} (q0 : 0 < q) (q1 : q < 10) (hr : r < cs.length) {a b : Int} {ws : List (Int × Int × Int)} {u6 u7 u8 : SL} (hb : 0 ≤ b) (hw : Ws cs ws) :
    ∃ a' b' ws' u6' u7' u8', 0 ≤ b' ∧ Ws cs ws' ∧ sc6 [Dn a b, .dat (eCells cs), .own (ws.map eW), .own ((ws.map face).map eW), .dat (.int q), .dat (.int r), u6, u7, u8] = some (.nx [Dn a' b', .dat (eCells cs), .own (ws'.map eW), .own ((ws'.map face).map eW), .dat (.int q), .dat (.int r), u6', u7', u8']) := by
  have hwd : lenA [eRow (cs.headD [])] = some (.int (wide cs : Nat)) := len_row _
  have hz := g.zero
  have wi := g.wi
  obtain ⟨S', e, a', b', ws', u6', u7', u8', k1, k2, rfl⟩ := sFor_rel (mi := itR1 (aCons (mA lenA (aCons (m2 ixD (mV 1) (mC (.int 0))) aNil)) aNil)) (t := .nm 6) (b := sc4) (fun (i : Nat) => D.int (i : Int))
    (fun n (_ : Unit) S' => ∃ a' b' ws' u6' u7' u8', 0 ≤ b' ∧ Ws cs ws' ∧ S' = [Dn a' b', .dat (eCells cs), .own (ws'.map eW), .own ((ws'.map face).map eW), .dat (.int q), .dat (.int r), u6', u7', u8']) (fun z _ => z) (List.range (wide cs)) ()
    (S := [Dn a b, .dat (eCells cs), .own (ws.map eW), .own ((ws.map face).map eW), .dat (.int q), .dat (.int r), u6, u7, u8]) (itR1_at (by simp (config := { decide := false }) only [runF, initS, sSeq, sIf, sRet, sRetN, sSet, sSetF, sSetO, sDrop, sNext, sNever, sUnp, sUnpF, sApp, sAppF, sLend, sAugI, asgL_nm, asgL_tp, asgL_wt, asgsL_nil, asgsL_cons, asg_nm, asg_tp, asgs_nil, asgs_cons, wipeD, mAnd, mOr, mNot, mB, mTr, m2, m1, mV, mC, mA, mCh, mAndV, mOrV, aCons, aNil, guardN, op, cl, fl, opn, clos, flt, eqD_int, neD_int, gtD, ltD, leD, geD, addD, subD, negD, tupD, lstD, tupF, lstF, outD, notD, tru, isD, isnD, isN, flat_tp, flat_in, flat_bo, flat_no, flats_nl, flats_cn,
  List.map_cons, List.map_nil, List.length_cons, List.length_nil, List.replicate, List.getElem?_cons_zero, List.getElem?_cons_succ, List.getElem?_nil, List.cons_append, List.nil_append, Option.bind_some, Option.bind_none, Option.bind_assoc, Option.map_some, Option.map_none, Nat.reduceAdd, Nat.reduceSub, Nat.reduceLeDiff, List.set_cons_zero, List.set_cons_succ, if_true, if_false, ite_true, ite_false, reduceCtorEq, Bool.false_eq_true, Bool.not_true, Bool.not_false, ↓reduceIte, eq_self, hz, hwd]) (by omega)) ⟨a, b, ws, u6, u7, u8, hb, hw, rfl⟩ (by
    rintro n z S' ⟨a', b', ws', u6', u7', u8', k1, k2, rfl⟩ c hc
    have hc' := List.mem_range.mp hc
    obtain ⟨a2, b2, ws2, v7, v8, g1, g2, t⟩ := sc4_ok g (r := r) (c := c) q0 q1 (inG_iff.mpr ⟨⟨by omega, by omega⟩, by omega, by omega⟩) (a := a') (u7 := u7') (u8 := u8') k1 k2
    exact turn_go (b := sc4) (d := .int c) rfl t ⟨a2, b2, ws2, _, v7, v8, g1, g2, rfl⟩)
  exact ⟨a', b', ws', u6', u7', u8', k1, k2, e⟩
theorem Ws.rev {cs : List (List Int)} {ws : List (Int × Int × Int)} (h : Ws cs ws) : Ws cs ws.reverse :=
  ⟨by rw [List.length_reverse]; exact h.wl, fun w hw => h.wr w (List.mem_reverse.mp hw), by
    rw [List.map_reverse]
    unfold List.Nodup
    rw [List.pairwise_reverse]
    exact List.Pairwise.imp (fun h => h.symm) h.nd⟩
theorem l_screens {cs : List (List Int)} (g : Gr cs) {a b : Int} (hb : 0 ≤ b) : ∃ ws a' b', Ws cs ws ∧ 0 ≤ b' ∧ G__law_screens [.int a, .int b] [eCells cs] = some (eWalls ws, [.int a', .int b']) := by
  have hi := g.hi
  obtain ⟨q, a1, b1, r1, p1, q1, hb1⟩ := xroll (a := a) (b := b) (mr := aCons (mC (.int 5)) aNil) (m := 5) (T := [.dat (eCells cs), .own [], .own [], .un, .un, .un, .un, .un]) rfl hb (by decide) (by decide)
  obtain ⟨S', e, a2, b2, ws, u5, u6, u7, u8, k1, k2, rfl⟩ := sFor_rel (mi := itR1 (aCons (mA lenA (aCons (mV 1) aNil)) aNil)) (t := .nm 5) (b := sc6) (fun (i : Nat) => D.int (i : Int))
    (fun n (_ : Unit) S' => ∃ a' b' ws' u5 u6 u7 u8, 0 ≤ b' ∧ Ws cs ws' ∧ S' = [Dn a' b', .dat (eCells cs), .own (ws'.map eW), .own ((ws'.map face).map eW), .dat (.int (1 + q)), u5, u6, u7, u8]) (fun z _ => z) (List.range cs.length) ()
    (S := [Dn a1 b1, .dat (eCells cs), .own [], .own [], .dat (.int (1 + q)), .un, .un, .un, .un]) (itR1_at (by simp (config := { decide := false }) only [runF, initS, sSeq, sIf, sRet, sRetN, sSet, sSetF, sSetO, sDrop, sNext, sNever, sUnp, sUnpF, sApp, sAppF, sLend, sAugI, asgL_nm, asgL_tp, asgL_wt, asgsL_nil, asgsL_cons, asg_nm, asg_tp, asgs_nil, asgs_cons, wipeD, mAnd, mOr, mNot, mB, mTr, m2, m1, mV, mC, mA, mCh, mAndV, mOrV, aCons, aNil, guardN, op, cl, fl, opn, clos, flt, eqD_int, neD_int, gtD, ltD, leD, geD, addD, subD, negD, tupD, lstD, tupF, lstF, outD, notD, tru, isD, isnD, isN, flat_tp, flat_in, flat_bo, flat_no, flats_nl, flats_cn,
  List.map_cons, List.map_nil, List.length_cons, List.length_nil, List.replicate, List.getElem?_cons_zero, List.getElem?_cons_succ, List.getElem?_nil, List.cons_append, List.nil_append, Option.bind_some, Option.bind_none, Option.bind_assoc, Option.map_some, Option.map_none, Nat.reduceAdd, Nat.reduceSub, Nat.reduceLeDiff, List.set_cons_zero, List.set_cons_succ, if_true, if_false, ite_true, ite_false, reduceCtorEq, Bool.false_eq_true, Bool.not_true, Bool.not_false, ↓reduceIte, eq_self, len_cells]) (by omega)) ⟨a1, b1, [], .un, .un, .un, .un, hb1, ⟨Nat.zero_le _, fun _ h => (by cases h), List.Pairwise.nil⟩, rfl⟩ (by
    rintro n z S' ⟨a', b', ws', u5, u6, u7, u8, k1, k2, rfl⟩ r hr
    obtain ⟨a2, b2, ws2, v6, v7, v8, g1, g2, t⟩ := sc6_ok g (q := 1 + q) (by omega) (by omega) (List.mem_range.mp hr) (a := a') (u6 := u6) (u7 := u7) (u8 := u8) k1 k2
    exact turn_go (b := sc6) (d := .int r) rfl t ⟨a2, b2, ws2, _, v6, v7, v8, g1, g2, rfl⟩)
  obtain ⟨v, a3, b3, r3, p3, q3, hb3⟩ := xroll (a := a2) (b := b2) (mr := aCons (mC (.int 2)) aNil) (m := 2) (T := [.dat (eCells cs), .own (ws.map eW), .own ((ws.map face).map eW), .dat (.int (1 + q)), u5, u6, u7, u8]) rfl k1 (by decide) (by decide)
  have fin : ∀ ws', Ws cs ws' → yIf (xB (x2 eqD (xCall 0 2 G__law_roll (aCons (mC (.int 2)) aNil)) (xP (mC (.int 0))))) (yRev 2) sNext [Dn a2 b2, .dat (eCells cs), .own (ws.map eW), .own ((ws.map face).map eW), .dat (.int (1 + q)), u5, u6, u7, u8] = some (.nx [Dn a3 b3, .dat (eCells cs), .own (ws'.map eW), .own ((ws.map face).map eW), .dat (.int (1 + q)), u5, u6, u7, u8]) →
      G__law_screens [.int a, .int b] [eCells cs] = some (eWalls ws', [.int a3, .int b3]) := fun ws' hw' t => by
    unfold G__law_screens
    refine runX_rt (S := [.dat (eCells cs), .own (ws'.map eW), .own ((ws.map face).map eW), .dat (.int (1 + q)), u5, u6, u7, u8]) ?_ (flats_map fun _ _ => rfl) rfl
    unfold mr__law_screens
    apply Eq.trans
    · apply sSeq_nx (S1 := [Dn a b, .dat (eCells cs), .own [], .un, .un, .un, .un, .un, .un])
      rfl
    apply Eq.trans
    · apply sSeq_nx (S1 := [Dn a b, .dat (eCells cs), .own [], .own [], .un, .un, .un, .un, .un])
      rfl
    apply Eq.trans
    · apply sSeq_nx (S1 := [Dn a1 b1, .dat (eCells cs), .own [], .own [], .dat (.int (1 + q)), .un, .un, .un, .un])
      simp (config := { decide := false }) only [runF, initS, sSeq, sIf, sRet, sRetN, sSet, sSetF, sSetO, sDrop, sNext, sNever, sUnp, sUnpF, sApp, sAppF, sLend, sAugI, asgL_nm, asgL_tp, asgL_wt, asgsL_nil, asgsL_cons, asg_nm, asg_tp, asgs_nil, asgs_cons, wipeD, mAnd, mOr, mNot, mB, mTr, m2, m1, mV, mC, mA, mCh, mAndV, mOrV, aCons, aNil, guardN, op, cl, fl, opn, clos, flt, eqD_int, neD_int, gtD, ltD, leD, geD, addD, subD, negD, tupD, lstD, tupF, lstF, outD, notD, tru, isD, isnD, isN, flat_tp, flat_in, flat_bo, flat_no, flats_nl, flats_cn,
  List.map_cons, List.map_nil, List.length_cons, List.length_nil, List.replicate, List.getElem?_cons_zero, List.getElem?_cons_succ, List.getElem?_nil, List.cons_append, List.nil_append, Option.bind_some, Option.bind_none, Option.bind_assoc, Option.map_some, Option.map_none, Nat.reduceAdd, Nat.reduceSub, Nat.reduceLeDiff, List.set_cons_zero, List.set_cons_succ, if_true, if_false, ite_true, ite_false, reduceCtorEq, Bool.false_eq_true, Bool.not_true, Bool.not_false, ↓reduceIte, eq_self, ySet, yRet, yIf, x2, x1, xA, xNil, xCons, xP, xT, xB, xAnd, intB, r1]
    refine (sSeq_nx e).trans ?_
    refine (sSeq_nx t).trans ?_
    rfl
  by_cases c : v = 0
  · refine ⟨ws.reverse, a3, b3, k2.rev, hb3, fin _ k2.rev ?_⟩
    subst c
    simp (config := { decide := false }) only [runF, initS, sSeq, sIf, sRet, sRetN, sSet, sSetF, sSetO, sDrop, sNext, sNever, sUnp, sUnpF, sApp, sAppF, sLend, sAugI, asgL_nm, asgL_tp, asgL_wt, asgsL_nil, asgsL_cons, asg_nm, asg_tp, asgs_nil, asgs_cons, wipeD, mAnd, mOr, mNot, mB, mTr, m2, m1, mV, mC, mA, mCh, mAndV, mOrV, aCons, aNil, guardN, op, cl, fl, opn, clos, flt, eqD_int, neD_int, gtD, ltD, leD, geD, addD, subD, negD, tupD, lstD, tupF, lstF, outD, notD, tru, isD, isnD, isN, flat_tp, flat_in, flat_bo, flat_no, flats_nl, flats_cn,
  List.map_cons, List.map_nil, List.length_cons, List.length_nil, List.replicate, List.getElem?_cons_zero, List.getElem?_cons_succ, List.getElem?_nil, List.cons_append, List.nil_append, Option.bind_some, Option.bind_none, Option.bind_assoc, Option.map_some, Option.map_none, Nat.reduceAdd, Nat.reduceSub, Nat.reduceLeDiff, List.set_cons_zero, List.set_cons_succ, if_true, if_false, ite_true, ite_false, reduceCtorEq, Bool.false_eq_true, Bool.not_true, Bool.not_false, ↓reduceIte, eq_self, ySet, yRet, yIf, x2, x1, xA, xNil, xCons, xP, xT, xB, xAnd, intB, r3, beq_self_eq_true, yRev, List.map_reverse]
  · refine ⟨ws, a3, b3, k2, hb3, fin _ k2 ?_⟩
    have : (v == 0) = false := beq_eq_false_iff_ne.mpr c
    simp (config := { decide := false }) only [runF, initS, sSeq, sIf, sRet, sRetN, sSet, sSetF, sSetO, sDrop, sNext, sNever, sUnp, sUnpF, sApp, sAppF, sLend, sAugI, asgL_nm, asgL_tp, asgL_wt, asgsL_nil, asgsL_cons, asg_nm, asg_tp, asgs_nil, asgs_cons, wipeD, mAnd, mOr, mNot, mB, mTr, m2, m1, mV, mC, mA, mCh, mAndV, mOrV, aCons, aNil, guardN, op, cl, fl, opn, clos, flt, eqD_int, neD_int, gtD, ltD, leD, geD, addD, subD, negD, tupD, lstD, tupF, lstF, outD, notD, tru, isD, isnD, isN, flat_tp, flat_in, flat_bo, flat_no, flats_nl, flats_cn,
  List.map_cons, List.map_nil, List.length_cons, List.length_nil, List.replicate, List.getElem?_cons_zero, List.getElem?_cons_succ, List.getElem?_nil, List.cons_append, List.nil_append, Option.bind_some, Option.bind_none, Option.bind_assoc, Option.map_some, Option.map_none, Nat.reduceAdd, Nat.reduceSub, Nat.reduceLeDiff, List.set_cons_zero, List.set_cons_succ, if_true, if_false, ite_true, ite_false, reduceCtorEq, Bool.false_eq_true, Bool.not_true, Bool.not_false, ↓reduceIte, eq_self, ySet, yRet, yIf, x2, x1, xA, xNil, xCons, xP, xT, xB, xAnd, intB, r3, this]
end Ice

namespace Ice
open PySem PySem.Spec PyProof.Rows L2
/-! ### the house by chance is good; the law -/
def eNs (ns : List Int) : D := .fz (ns.map .int)
theorem l_cell_at (ns : List Int) (k : Nat) : ∃ x, G__law_cell_at [eNs ns, .int k] = some (.int x) := by
  have hl : lenA [eNs ns] = some (.int ns.length) := by
    show some (D.int ((ns.map D.int).length : Nat)) = _
    rw [List.length_map]
  by_cases c : (k : Int) < ns.length
  · have hx : ixD (eNs ns) (.int k) = some (.int (ns.getD k 0)) := by
      show atI (ns.map D.int) (k : Int) = _
      have h : k < ns.length := by omega
      refine atI_nat ?_
      rw [List.getElem?_map, List.getElem?_eq_getElem h, List.getD_eq_getElem?_getD, List.getElem?_eq_getElem h]
      rfl
    refine ⟨ns.getD k 0, ?_⟩
    unfold G__law_cell_at
    refine run_rt (S := [.dat (eNs ns), .dat (.int k)]) ?_
    unfold mr__law_cell_at
    apply sSeq_rt
    simp (config := { decide := false }) only [runF, initS, sSeq, sIf, sRet, sRetN, sSet, sSetF, sSetO, sDrop, sNext, sNever, sUnp, sUnpF, sApp, sAppF, sLend, sAugI, asgL_nm, asgL_tp, asgL_wt, asgsL_nil, asgsL_cons, asg_nm, asg_tp, asgs_nil, asgs_cons, wipeD, mAnd, mOr, mNot, mB, mTr, m2, m1, mV, mC, mA, mCh, mAndV, mOrV, aCons, aNil, guardN, op, cl, fl, opn, clos, flt, eqD_int, neD_int, gtD, ltD, leD, geD, addD, subD, negD, tupD, lstD, tupF, lstF, outD, notD, tru, isD, isnD, isN, flat_tp, flat_in, flat_bo, flat_no, flats_nl, flats_cn,
  List.map_cons, List.map_nil, List.length_cons, List.length_nil, List.replicate, List.getElem?_cons_zero, List.getElem?_cons_succ, List.getElem?_nil, List.cons_append, List.nil_append, Option.bind_some, Option.bind_none, Option.bind_assoc, Option.map_some, Option.map_none, Nat.reduceAdd, Nat.reduceSub, Nat.reduceLeDiff, List.set_cons_zero, List.set_cons_succ, if_true, if_false, ite_true, ite_false, reduceCtorEq, Bool.false_eq_true, Bool.not_true, Bool.not_false, ↓reduceIte, eq_self, hl, c, decide_true, hx]
  · refine ⟨0, ?_⟩
    unfold G__law_cell_at
    refine run_rt (S := [.dat (eNs ns), .dat (.int k)]) ?_
    unfold mr__law_cell_at
    apply Eq.trans
    · apply sSeq_nx (S1 := [.dat (eNs ns), .dat (.int k)])
      simp (config := { decide := false }) only [runF, initS, sSeq, sIf, sRet, sRetN, sSet, sSetF, sSetO, sDrop, sNext, sNever, sUnp, sUnpF, sApp, sAppF, sLend, sAugI, asgL_nm, asgL_tp, asgL_wt, asgsL_nil, asgsL_cons, asg_nm, asg_tp, asgs_nil, asgs_cons, wipeD, mAnd, mOr, mNot, mB, mTr, m2, m1, mV, mC, mA, mCh, mAndV, mOrV, aCons, aNil, guardN, op, cl, fl, opn, clos, flt, eqD_int, neD_int, gtD, ltD, leD, geD, addD, subD, negD, tupD, lstD, tupF, lstF, outD, notD, tru, isD, isnD, isN, flat_tp, flat_in, flat_bo, flat_no, flats_nl, flats_cn,
  List.map_cons, List.map_nil, List.length_cons, List.length_nil, List.replicate, List.getElem?_cons_zero, List.getElem?_cons_succ, List.getElem?_nil, List.cons_append, List.nil_append, Option.bind_some, Option.bind_none, Option.bind_assoc, Option.map_some, Option.map_none, Nat.reduceAdd, Nat.reduceSub, Nat.reduceLeDiff, List.set_cons_zero, List.set_cons_succ, if_true, if_false, ite_true, ite_false, reduceCtorEq, Bool.false_eq_true, Bool.not_true, Bool.not_false, ↓reduceIte, eq_self, hl, c, decide_false]
    simp (config := { decide := false }) only [runF, initS, sSeq, sIf, sRet, sRetN, sSet, sSetF, sSetO, sDrop, sNext, sNever, sUnp, sUnpF, sApp, sAppF, sLend, sAugI, asgL_nm, asgL_tp, asgL_wt, asgsL_nil, asgsL_cons, asg_nm, asg_tp, asgs_nil, asgs_cons, wipeD, mAnd, mOr, mNot, mB, mTr, m2, m1, mV, mC, mA, mCh, mAndV, mOrV, aCons, aNil, guardN, op, cl, fl, opn, clos, flt, eqD_int, neD_int, gtD, ltD, leD, geD, addD, subD, negD, tupD, lstD, tupF, lstF, outD, notD, tru, isD, isnD, isN, flat_tp, flat_in, flat_bo, flat_no, flats_nl, flats_cn,
  List.map_cons, List.map_nil, List.length_cons, List.length_nil, List.replicate, List.getElem?_cons_zero, List.getElem?_cons_succ, List.getElem?_nil, List.cons_append, List.nil_append, Option.bind_some, Option.bind_none, Option.bind_assoc, Option.map_some, Option.map_none, Nat.reduceAdd, Nat.reduceSub, Nat.reduceLeDiff, List.set_cons_zero, List.set_cons_succ, if_true, if_false, ite_true, ite_false, reduceCtorEq, Bool.false_eq_true, Bool.not_true, Bool.not_false, ↓reduceIte, eq_self]
theorem l_dice (x : Int) : ∃ a b, 0 ≤ b ∧ G__law_dice [.int x] = some (.lst [.int a, .int b]) := by
  have e1 : modD (.int x) (.int 2147483647) = some (.int (x % 2147483647)) := by
    unfold modD
    exact if_pos (by omega)
  have e2 : divW (.int x) (.int 2147483647) = some (.int (x / 2147483647)) := by
    unfold divW
    exact if_pos (by omega)
  have e3 : powD (.int 10) (.int 18) = some (.int 1000000000000000000) := rfl
  have e4 := mul_small (i := x / 2147483647) (if01 (decide (1000000000000000000 ≤ x))).1 (by have := (if01 (decide (1000000000000000000 ≤ x))).2; omega)
  refine ⟨x % 2147483647, x / 2147483647 * (if decide (1000000000000000000 ≤ x) then 1 else 0), ?_, ?_⟩
  · by_cases c : 1000000000000000000 ≤ x
    · rw [decide_eq_true c]
      simp only [if_true, Int.mul_one]
      omega
    · rw [decide_eq_false c]
      simp only [Bool.false_eq_true, if_false, Int.mul_zero]
      omega
  · unfold G__law_dice
    refine run_rt (S := [.dat (.int x)]) ?_
    unfold mr__law_dice
    simp (config := { decide := false }) only [runF, initS, sSeq, sIf, sRet, sRetN, sSet, sSetF, sSetO, sDrop, sNext, sNever, sUnp, sUnpF, sApp, sAppF, sLend, sAugI, asgL_nm, asgL_tp, asgL_wt, asgsL_nil, asgsL_cons, asg_nm, asg_tp, asgs_nil, asgs_cons, wipeD, mAnd, mOr, mNot, mB, mTr, m2, m1, mV, mC, mA, mCh, mAndV, mOrV, aCons, aNil, guardN, op, cl, fl, opn, clos, flt, eqD_int, neD_int, gtD, ltD, leD, geD, addD, subD, negD, tupD, lstD, tupF, lstF, outD, notD, tru, isD, isnD, isN, flat_tp, flat_in, flat_bo, flat_no, flats_nl, flats_cn,
  List.map_cons, List.map_nil, List.length_cons, List.length_nil, List.replicate, List.getElem?_cons_zero, List.getElem?_cons_succ, List.getElem?_nil, List.cons_append, List.nil_append, Option.bind_some, Option.bind_none, Option.bind_assoc, Option.map_some, Option.map_none, Nat.reduceAdd, Nat.reduceSub, Nat.reduceLeDiff, List.set_cons_zero, List.set_cons_succ, if_true, if_false, ite_true, ite_false, reduceCtorEq, Bool.false_eq_true, Bool.not_true, Bool.not_false, ↓reduceIte, eq_self, ySet, yRet, yIf, x2, x1, xA, xNil, xCons, xP, xT, xB, xAnd, intB, e1, e2, e3, e4, lstD]
theorem house_eval {S0 H : D} {x y a b a1 b1 a2 b2 a3 b3 p d q : Int} {C W : D} {m : Int} (h1 : G__law_cell_at [S0, .int 0] = some (.int x)) (h2 : G__law_cell_at [S0, .int 1] = some (.int y)) (h3 : G__law_dice [.int x] = some (.lst [.int a, .int b]))
    (hm : modD (.int y) (.int m) = some (.int p)) (hd : divD (.int y) (.int m) = some (.int d)) (hw : modD (.int d) (.int m) = some (.int q))
    (h4 : G__law_cells [.int a, .int b] [.int (1 + p), .int (1 + q)] = some (C, [.int a1, .int b1])) (h5 : G__law_heats [.int a1, .int b1] [] = some (H, [.int a2, .int b2])) (h6 : G__law_screens [.int a2, .int b2] [C] = some (W, [.int a3, .int b3])) :
    G__law_house [S0, .int m] = some (.tup [H, C, W]) := by
  unfold G__law_house
  refine run_rt (S := [.dat S0, .dat (.int m), .own [.int a3, .int b3], .dat (.int y), .dat C, .dat H]) ?_
  unfold mr__law_house
  apply Eq.trans
  · apply sSeq_nx (S1 := [.dat S0, .dat (.int m), .own [.int a, .int b], .un, .un, .un])
    unfold yOwn
    simp (config := { decide := false }) only [runF, initS, sSeq, sIf, sRet, sRetN, sSet, sSetF, sSetO, sDrop, sNext, sNever, sUnp, sUnpF, sApp, sAppF, sLend, sAugI, asgL_nm, asgL_tp, asgL_wt, asgsL_nil, asgsL_cons, asg_nm, asg_tp, asgs_nil, asgs_cons, wipeD, mAnd, mOr, mNot, mB, mTr, m2, m1, mV, mC, mA, mCh, mAndV, mOrV, aCons, aNil, guardN, op, cl, fl, opn, clos, flt, eqD_int, neD_int, gtD, ltD, leD, geD, addD, subD, negD, tupD, lstD, tupF, lstF, outD, notD, tru, isD, isnD, isN, flat_tp, flat_in, flat_bo, flat_no, flats_nl, flats_cn,
  List.map_cons, List.map_nil, List.length_cons, List.length_nil, List.replicate, List.getElem?_cons_zero, List.getElem?_cons_succ, List.getElem?_nil, List.cons_append, List.nil_append, Option.bind_some, Option.bind_none, Option.bind_assoc, Option.map_some, Option.map_none, Nat.reduceAdd, Nat.reduceSub, Nat.reduceLeDiff, List.set_cons_zero, List.set_cons_succ, if_true, if_false, ite_true, ite_false, reduceCtorEq, Bool.false_eq_true, Bool.not_true, Bool.not_false, ↓reduceIte, eq_self, h1, h3, and_self]
    rfl
  apply Eq.trans
  · apply sSeq_nx (S1 := [.dat S0, .dat (.int m), .own [.int a, .int b], .dat (.int y), .un, .un])
    simp (config := { decide := false }) only [runF, initS, sSeq, sIf, sRet, sRetN, sSet, sSetF, sSetO, sDrop, sNext, sNever, sUnp, sUnpF, sApp, sAppF, sLend, sAugI, asgL_nm, asgL_tp, asgL_wt, asgsL_nil, asgsL_cons, asg_nm, asg_tp, asgs_nil, asgs_cons, wipeD, mAnd, mOr, mNot, mB, mTr, m2, m1, mV, mC, mA, mCh, mAndV, mOrV, aCons, aNil, guardN, op, cl, fl, opn, clos, flt, eqD_int, neD_int, gtD, ltD, leD, geD, addD, subD, negD, tupD, lstD, tupF, lstF, outD, notD, tru, isD, isnD, isN, flat_tp, flat_in, flat_bo, flat_no, flats_nl, flats_cn,
  List.map_cons, List.map_nil, List.length_cons, List.length_nil, List.replicate, List.getElem?_cons_zero, List.getElem?_cons_succ, List.getElem?_nil, List.cons_append, List.nil_append, Option.bind_some, Option.bind_none, Option.bind_assoc, Option.map_some, Option.map_none, Nat.reduceAdd, Nat.reduceSub, Nat.reduceLeDiff, List.set_cons_zero, List.set_cons_succ, if_true, if_false, ite_true, ite_false, reduceCtorEq, Bool.false_eq_true, Bool.not_true, Bool.not_false, ↓reduceIte, eq_self, h2]
  apply Eq.trans
  · apply sSeq_nx (S1 := [.dat S0, .dat (.int m), .own [.int a1, .int b1], .dat (.int y), .dat C, .un])
    have := xCall_own (i := 2) (n := 3) (g := G__law_cells) (mr := aCons (m2 addD (mC (.int 1)) (m2 modD (mV 3) (mV 1))) (aCons (m2 addD (mC (.int 1)) (m2 modD (m2 divD (mV 3) (mV 1)) (mV 1))) aNil)) (S := [.dat S0, .dat (.int m), .own [.int a, .int b], .dat (.int y), .un, .un]) rfl (by simp (config := { decide := false }) only [runF, initS, sSeq, sIf, sRet, sRetN, sSet, sSetF, sSetO, sDrop, sNext, sNever, sUnp, sUnpF, sApp, sAppF, sLend, sAugI, asgL_nm, asgL_tp, asgL_wt, asgsL_nil, asgsL_cons, asg_nm, asg_tp, asgs_nil, asgs_cons, wipeD, mAnd, mOr, mNot, mB, mTr, m2, m1, mV, mC, mA, mCh, mAndV, mOrV, aCons, aNil, guardN, op, cl, fl, opn, clos, flt, eqD_int, neD_int, gtD, ltD, leD, geD, addD, subD, negD, tupD, lstD, tupF, lstF, outD, notD, tru, isD, isnD, isN, flat_tp, flat_in, flat_bo, flat_no, flats_nl, flats_cn,
  List.map_cons, List.map_nil, List.length_cons, List.length_nil, List.replicate, List.getElem?_cons_zero, List.getElem?_cons_succ, List.getElem?_nil, List.cons_append, List.nil_append, Option.bind_some, Option.bind_none, Option.bind_assoc, Option.map_some, Option.map_none, Nat.reduceAdd, Nat.reduceSub, Nat.reduceLeDiff, List.set_cons_zero, List.set_cons_succ, if_true, if_false, ite_true, ite_false, reduceCtorEq, Bool.false_eq_true, Bool.not_true, Bool.not_false, ↓reduceIte, eq_self, hm, hd, hw]) h4 rfl rfl
    simp (config := { decide := false }) only [runF, initS, sSeq, sIf, sRet, sRetN, sSet, sSetF, sSetO, sDrop, sNext, sNever, sUnp, sUnpF, sApp, sAppF, sLend, sAugI, asgL_nm, asgL_tp, asgL_wt, asgsL_nil, asgsL_cons, asg_nm, asg_tp, asgs_nil, asgs_cons, wipeD, mAnd, mOr, mNot, mB, mTr, m2, m1, mV, mC, mA, mCh, mAndV, mOrV, aCons, aNil, guardN, op, cl, fl, opn, clos, flt, eqD_int, neD_int, gtD, ltD, leD, geD, addD, subD, negD, tupD, lstD, tupF, lstF, outD, notD, tru, isD, isnD, isN, flat_tp, flat_in, flat_bo, flat_no, flats_nl, flats_cn,
  List.map_cons, List.map_nil, List.length_cons, List.length_nil, List.replicate, List.getElem?_cons_zero, List.getElem?_cons_succ, List.getElem?_nil, List.cons_append, List.nil_append, Option.bind_some, Option.bind_none, Option.bind_assoc, Option.map_some, Option.map_none, Nat.reduceAdd, Nat.reduceSub, Nat.reduceLeDiff, List.set_cons_zero, List.set_cons_succ, if_true, if_false, ite_true, ite_false, reduceCtorEq, Bool.false_eq_true, Bool.not_true, Bool.not_false, ↓reduceIte, eq_self, ySet, yRet, yIf, x2, x1, xA, xNil, xCons, xP, xT, xB, xAnd, intB, this]
  apply Eq.trans
  · apply sSeq_nx (S1 := [.dat S0, .dat (.int m), .own [.int a2, .int b2], .dat (.int y), .dat C, .dat H])
    have := xCall_own (i := 2) (n := 1) (g := G__law_heats) (mr := aNil) (S := [.dat S0, .dat (.int m), .own [.int a1, .int b1], .dat (.int y), .dat C, .un]) rfl rfl h5 rfl rfl
    simp (config := { decide := false }) only [runF, initS, sSeq, sIf, sRet, sRetN, sSet, sSetF, sSetO, sDrop, sNext, sNever, sUnp, sUnpF, sApp, sAppF, sLend, sAugI, asgL_nm, asgL_tp, asgL_wt, asgsL_nil, asgsL_cons, asg_nm, asg_tp, asgs_nil, asgs_cons, wipeD, mAnd, mOr, mNot, mB, mTr, m2, m1, mV, mC, mA, mCh, mAndV, mOrV, aCons, aNil, guardN, op, cl, fl, opn, clos, flt, eqD_int, neD_int, gtD, ltD, leD, geD, addD, subD, negD, tupD, lstD, tupF, lstF, outD, notD, tru, isD, isnD, isN, flat_tp, flat_in, flat_bo, flat_no, flats_nl, flats_cn,
  List.map_cons, List.map_nil, List.length_cons, List.length_nil, List.replicate, List.getElem?_cons_zero, List.getElem?_cons_succ, List.getElem?_nil, List.cons_append, List.nil_append, Option.bind_some, Option.bind_none, Option.bind_assoc, Option.map_some, Option.map_none, Nat.reduceAdd, Nat.reduceSub, Nat.reduceLeDiff, List.set_cons_zero, List.set_cons_succ, if_true, if_false, ite_true, ite_false, reduceCtorEq, Bool.false_eq_true, Bool.not_true, Bool.not_false, ↓reduceIte, eq_self, ySet, yRet, yIf, x2, x1, xA, xNil, xCons, xP, xT, xB, xAnd, intB, this]
  have := xCall_own (i := 2) (n := 2) (g := G__law_screens) (mr := aCons (mV 4) aNil) (S := [.dat S0, .dat (.int m), .own [.int a2, .int b2], .dat (.int y), .dat C, .dat H]) rfl rfl h6 rfl rfl
  simp (config := { decide := false }) only [runF, initS, sSeq, sIf, sRet, sRetN, sSet, sSetF, sSetO, sDrop, sNext, sNever, sUnp, sUnpF, sApp, sAppF, sLend, sAugI, asgL_nm, asgL_tp, asgL_wt, asgsL_nil, asgsL_cons, asg_nm, asg_tp, asgs_nil, asgs_cons, wipeD, mAnd, mOr, mNot, mB, mTr, m2, m1, mV, mC, mA, mCh, mAndV, mOrV, aCons, aNil, guardN, op, cl, fl, opn, clos, flt, eqD_int, neD_int, gtD, ltD, leD, geD, addD, subD, negD, tupD, lstD, tupF, lstF, outD, notD, tru, isD, isnD, isN, flat_tp, flat_in, flat_bo, flat_no, flats_nl, flats_cn,
  List.map_cons, List.map_nil, List.length_cons, List.length_nil, List.replicate, List.getElem?_cons_zero, List.getElem?_cons_succ, List.getElem?_nil, List.cons_append, List.nil_append, Option.bind_some, Option.bind_none, Option.bind_assoc, Option.map_some, Option.map_none, Nat.reduceAdd, Nat.reduceSub, Nat.reduceLeDiff, List.set_cons_zero, List.set_cons_succ, if_true, if_false, ite_true, ite_false, reduceCtorEq, Bool.false_eq_true, Bool.not_true, Bool.not_false, ↓reduceIte, eq_self, ySet, yRet, yIf, x2, x1, xA, xNil, xCons, xP, xT, xB, xAnd, intB, this, tupD]
/-- a house by chance, of up to m rows and columns -/
theorem l_house (ns : List Int) {m : Int} (m1 : 1 ≤ m) (m4 : m ≤ 4) : ∃ h, G__law_house [eNs ns, .int m] = some (eH h) ∧ Ok h ∧ (h.cells.length : Int) ≤ m ∧ (wide h.cells : Int) ≤ m := by
  obtain ⟨x, hx⟩ := l_cell_at ns 0
  obtain ⟨y, hy⟩ := l_cell_at ns 1
  obtain ⟨a, b, hb, hd⟩ := l_dice x
  have p0 := Int.emod_nonneg y (b := m) (by omega)
  have p1 := Int.emod_lt_of_pos y (b := m) (by omega)
  have p2 := Int.emod_nonneg (y / m) (b := m) (by omega)
  have p3 := Int.emod_lt_of_pos (y / m) (b := m) (by omega)
  obtain ⟨cs, a1, b1, g, l1, l2, nn, hb1, hc⟩ := l_cells (a := a) (hi := (1 + y % m).toNat) (wd := (1 + y / m % m).toNat) (by omega) (by omega) hb
  obtain ⟨hs, a2, b2, hh, hb2, hg⟩ := l_heats (a := a1) hb1
  obtain ⟨ws, a3, b3, hw, hb3, hv⟩ := l_screens g (a := a2) hb2
  rw [Int.toNat_of_nonneg (by omega), Int.toNat_of_nonneg (by omega)] at hc
  refine ⟨⟨hs, cs, ws⟩, ?_, ⟨hh, g, nn, hw.wl, hw.wr, hw.nd⟩, ?_, ?_⟩
  · exact house_eval hx hy hd (by unfold modD; exact if_pos (by omega)) (by unfold divD; exact if_pos ⟨by omega, by omega⟩) (by unfold modD; exact if_pos (by omega)) hc hg hv
  · show (cs.length : Int) ≤ m
    omega
  · show (wide cs : Int) ≤ m
    omega
end Ice

namespace Ice
open PySem PySem.Spec PyProof.Rows L2
/-! ### texts of rows -/
def wS (i : Int) : Str := Str.ofString (toString i)
theorem str_int {i : Int} (h0 : 0 ≤ i) (h1 : i ≤ 9999) : strF [.int i] = some (.str (wS i)) := by
  show (if i.natAbs.log2 < 1920 then some (D.str (toString i)) else none) = _
  rw [if_pos]
  · rfl
  · by_cases c : i.natAbs = 0
    · rw [c]; decide
    · have : i.natAbs.log2 < 14 := (Nat.log2_lt c).mpr (by omega)
      omega
theorem len_wS {i : Int} (h0 : 0 ≤ i) (h1 : i ≤ 9999) : (wS i).length ≤ 4 := PyProof.Rows.toString_length_le h0 (by decide) (by omega)
theorem strs_map {α : Type} (f : α → Str) : ∀ (xs : List α), strsOf (xs.map fun x => D.str (f x)) = some (xs.map f)
  | [] => rfl
  | x :: xs => by
    show (strsOf (xs.map fun x => D.str (f x))).map (fun k => f x :: k) = _
    rw [strs_map f xs]
    rfl
theorem sum_le_of {xs : List Nat} {b : Nat} (h : ∀ x ∈ xs, x ≤ b) : xs.sum ≤ xs.length * b := by
  induction xs with
  | nil => exact Nat.zero_le _
  | cons x xs ih =>
    have a := h x List.mem_cons_self
    have c := ih fun y hy => h y (List.mem_cons_of_mem _ hy)
    rw [List.sum_cons, List.length_cons, Nat.add_mul, Nat.one_mul]
    omega
theorem len_join (s : Str) : ∀ (xs : List Str), (Str.join s xs).length ≤ (xs.map (·.length)).sum + xs.length * s.length
  | [] => Nat.zero_le _
  | [x] => by
    show x.length ≤ ([x].map (·.length)).sum + 1 * s.length
    simp only [List.map_cons, List.map_nil, List.sum_cons, List.sum_nil]
    omega
  | x :: y :: r => by
    have ih := len_join s (y :: r)
    show (x ++ s ++ Str.join s (y :: r)).length ≤ _
    rw [Str.length_append, Str.length_append]
    simp only [List.map_cons, List.sum_cons, List.length_cons] at ih ⊢
    rw [Nat.add_mul] at ih ⊢
    rw [Nat.add_mul r.length 1]
    omega
/-- a joined text of few short ones -/
theorem join_ok {s : Str} {xs : List Str} {b n : Nat} (h : ∀ x ∈ xs, x.length ≤ b) (hn : xs.length ≤ n) (hs : s.length ≤ 1) (hb : n * (b + 1) ≤ 16777216) : joinS s (xs.map D.str) = some (.str (Txt.join s xs)) ∧ (Txt.join s xs).length ≤ n * (b + 1) := by
  have e : strsOf (xs.map D.str) = some xs := by
    have := strs_map (fun x : Str => x) xs
    rw [List.map_id'] at this
    exact this
  have l1 : (xs.map (·.length)).sum ≤ xs.length * b := by
    have := sum_le_of (xs := xs.map (·.length)) (b := b) fun y hy => by
      obtain ⟨x, hx, rfl⟩ := List.mem_map.mp hy
      exact h x hx
    rw [List.length_map] at this
    exact this
  have l2 : xs.length * s.length ≤ xs.length * 1 := Nat.mul_le_mul_left _ hs
  have l3 : xs.length * (b + 1) ≤ n * (b + 1) := Nat.mul_le_mul_right _ hn
  have l4 : xs.length * (b + 1) = xs.length * b + xs.length * 1 := Nat.mul_add _ _ _
  refine ⟨?_, ?_⟩
  · unfold joinS
    rw [e]
    show (if (xs.map (·.length)).sum + xs.length * s.length ≤ 16777216 then some (D.str (Txt.join s xs)) else none) = _
    exact if_pos (by omega)
  · have := len_join s xs
    rw [TL.join_eq]
    omega
/-- a word and numbers -/
def rowT (w : Str) (r : List Int) : Str := Txt.join (" " : Str) (w :: r.map wS)
def rowOk (r : List Int) : Prop := r.length ≤ 5 ∧ ∀ x ∈ r, 0 ≤ x ∧ x ≤ 9999
theorem row_join {w : Str} {r : List Int} (hw : w.length ≤ 5) (h : rowOk r) : joinS (" " : Str) (D.str w :: r.map fun i => D.str (wS i)) = some (.str (rowT w r)) ∧ (rowT w r).length ≤ 36 := by
  have := join_ok (s := (" " : Str)) (xs := w :: r.map wS) (b := 5) (n := 6) (fun x hx => by
    rcases List.mem_cons.mp hx with rfl | hx
    · exact hw
    · obtain ⟨i, hi, rfl⟩ := List.mem_map.mp hx
      have := len_wS (h.2 i hi).1 (h.2 i hi).2
      omega) (by rw [List.length_cons, List.length_map]; have := h.1; omega) (by decide) (by decide)
  rw [List.map_cons, List.map_map] at this
  exact this
theorem row_lc {mi : Ma} {vs : List Nat} {t : Tg} {me : Mi} {S : Sd} {r : List Int} (h : rowOk r) (hi : mi S = some (r.map .int)) (he : ∀ i, 0 ≤ i → i ≤ 9999 → ∃ S1, asg t (.int i) (wipeD S vs) = some S1 ∧ me S1 = strF [.int i]) : mLc mi vs t mYes me S = some (.lst (r.map fun i => .str (wS i))) :=
  mLc_map (fun i : Int => D.int i) (fun i => D.str (wS i)) r hi (by have := h.1; omega) fun i hi => by
    obtain ⟨a, b⟩ := h.2 i hi
    obtain ⟨S1, e1, e2⟩ := he i a b
    exact ⟨S1, e1, e2.trans (str_int a b)⟩
theorem row_add {w : Str} {r : List Int} (h : rowOk r) : addD (.lst [.str w]) (.lst (r.map fun i => .str (wS i))) = some (.lst (.str w :: r.map fun i => .str (wS i))) := by
  show (if [D.str w].length + (r.map fun i => D.str (wS i)).length ≤ 1000000 then some (D.lst ([.str w] ++ r.map fun i => .str (wS i))) else none) = _
  rw [if_pos]
  · rfl
  · rw [List.length_map]
    have := h.1
    show 1 + r.length ≤ 1000000
    omega
theorem row_m {mi : Ma} {vs : List Nat} {t : Tg} {me : Mi} {S : Sd} {r : List Int} {w : Str} (hw : w.length ≤ 5) (h : rowOk r) (hi : mi S = some (r.map .int)) (he : ∀ i, 0 ≤ i → i ≤ 9999 → ∃ S1, asg t (.int i) (wipeD S vs) = some S1 ∧ me S1 = strF [.int i]) :
    m2 joinD (mC (.str " ")) (m2 addD (mA lstD (aCons (mC (.str w)) aNil)) (mLc mi vs t mYes me)) S = some (.str (rowT w r)) := by
  have e := row_lc h hi he
  have e2 := row_add (w := w) h
  have e3 := (row_join hw h).1
  generalize (r.map fun i => D.str (wS i)) = ys at *
  unfold m2
  show (some (D.str (" " : Str))).bind (fun x => ((some (D.lst [.str w])).bind fun x => (mLc mi vs t mYes me S).bind fun y => addD x y).bind fun y => joinD x y) = _
  rw [e]
  simp only [Option.bind_some, e2]
  exact e3
def w3 (w : Int × Int × Int) : List Int := [w.1, w.2.1, w.2.2]
theorem eW_row (w : Int × Int × Int) : eW w = eRow (w3 w) := rfl
/-- all rows of a house -/
def linesOf (h : Hs) : List Str := rowT "heats" h.heats :: (h.cells.map (rowT "row") ++ h.walls.map fun w => rowT "wall" (w3 w))
structure Rows (h : Hs) : Prop where
  a : rowOk h.heats
  b : ∀ r ∈ h.cells, rowOk r
  c : ∀ w ∈ h.walls, rowOk (w3 w)
  n : h.cells.length ≤ 4
  m : h.walls.length ≤ 40
theorem rows_of {h : Hs} (o : Ok h) : Rows h := by
  have hi := o.g.hi
  have wi := o.g.wi
  refine ⟨⟨by rw [o.hh.len]; decide, fun x hx => by have := o.hh.all x hx; omega⟩, fun r hr => ⟨by rw [o.g.all r hr]; omega, fun x hx => o.nn r hr x hx⟩, fun w hw => ⟨by show 3 ≤ 5; decide, fun x hx => ?_⟩, hi.2, o.wl⟩
  obtain ⟨a, b, c⟩ := o.wr w hw
  obtain ⟨⟨a0, a1⟩, b0, b1⟩ := inG_iff.mp a
  have hx' : x ∈ [w.1, w.2.1, w.2.2] := hx
  simp only [List.mem_cons, List.not_mem_nil, or_false] at hx'
  rcases hx' with rfl | rfl | rfl <;> omega
theorem lines_ok {h : Hs} (o : Rows h) : joinS ("\n" : Str) ((linesOf h).map D.str) = some (.str (Txt.join ("\n" : Str) (linesOf h))) := by
  refine (join_ok (b := 36) (n := 45) (fun x hx => ?_) ?_ (by decide) (by decide)).1
  · unfold linesOf at hx
    rcases List.mem_cons.mp hx with rfl | hx
    · exact (row_join (by decide) o.a).2
    · rcases List.mem_append.mp hx with hx | hx
      · obtain ⟨r, hr, rfl⟩ := List.mem_map.mp hx
        exact (row_join (by decide) (o.b r hr)).2
      · obtain ⟨w, hw, rfl⟩ := List.mem_map.mp hx
        exact (row_join (by decide) (o.c w hw)).2
  · unfold linesOf
    rw [List.length_cons, List.length_append, List.length_map, List.length_map]
    have := o.n
    have := o.m
    omega
theorem fold_snoc {α β : Type} (f : α → β) : ∀ (xs : List α) (z : List β), xs.foldl (fun z x => z ++ [f x]) z = z ++ xs.map f
  | [], z => by rw [List.map_nil, List.append_nil]; rfl
  | x :: xs, z => by rw [List.foldl_cons, fold_snoc f xs, List.map_cons, List.append_assoc]; rfl
/-! ### the law's text -/
def ltRow : Ms := sApp 1 (m2 joinD (mC (.str " ")) (m2 addD (mA lstD (aCons (mC (.str "row")) aNil)) (mLc (itT (mV 3)) [4] (.nm 4) mYes (mA strF (aCons (mV 4) aNil)))))
def ltWall : Ms := sApp 1 (m2 joinD (mC (.str " ")) (m2 addD (mA lstD (aCons (mC (.str "wall")) aNil)) (mLc (itT (mV 5)) [6] (.nm 6) mYes (mA strF (aCons (mV 6) aNil)))))
theorem sApp_at {i : Nat} {m : Mi} {S : Sl} {ds : List D} {d : D} (h0 : S[i]? = some (.own ds)) (h1 : m (cl S) = some d) (hl : ds.length < 1000000) : sApp i m S = some (.nx (S.set i (.own (ds ++ [d])))) := by
  unfold sApp
  rw [h0]
  simp only [h1, Option.map_some, hl, if_true]
theorem lt_row {H : D} {r : List Int} {zs : List Str} {u2 u4 u5 u6 : SL} (h : rowOk r) (hz : zs.length ≤ 100) : ltRow [.dat H, .own (zs.map .str), u2, .dat (eRow r), u4, u5, u6] = some (.nx [.dat H, .own ((zs ++ [rowT "row" r]).map .str), u2, .dat (eRow r), u4, u5, u6]) := by
  unfold ltRow
  have e := row_m (mi := itT (mV 3)) (vs := [4]) (t := .nm 4) (me := mA strF (aCons (mV 4) aNil)) (S := cl [.dat H, .own (zs.map .str), u2, .dat (eRow r), u4, u5, u6]) (w := "row") (by decide) h rfl (fun i _ _ => ⟨_, rfl, rfl⟩)
  rw [sApp_at (S := [.dat H, .own (zs.map .str), u2, .dat (eRow r), u4, u5, u6]) rfl e (by rw [List.length_map]; omega), List.map_append]
  rfl
theorem lt_wall {H : D} {w : Int × Int × Int} {zs : List Str} {u2 u3 u4 u6 : SL} (h : rowOk (w3 w)) (hz : zs.length ≤ 100) : ltWall [.dat H, .own (zs.map .str), u2, u3, u4, .dat (eW w), u6] = some (.nx [.dat H, .own ((zs ++ [rowT "wall" (w3 w)]).map .str), u2, u3, u4, .dat (eW w), u6]) := by
  unfold ltWall
  have e := row_m (mi := itT (mV 5)) (vs := [6]) (t := .nm 6) (me := mA strF (aCons (mV 6) aNil)) (S := cl [.dat H, .own (zs.map .str), u2, u3, u4, .dat (eW w), u6]) (r := w3 w) (w := "wall") (by decide) h rfl (fun i _ _ => ⟨_, rfl, rfl⟩)
  rw [sApp_at (S := [.dat H, .own (zs.map .str), u2, u3, u4, .dat (eW w), u6]) rfl e (by rw [List.length_map]; omega), List.map_append]
  rfl
theorem text_eval {H R C W : D} {t T : Str} {zs : List Str} {u3 u4 v3 v4 v5 v6 : SL} {o1 : List D} {cs ws : List D} (hH : H = .tup [R, C, W]) (fH : flat H = true)
    (e0 : m2 joinD (mC (.str " ")) (m2 addD (mA lstD (aCons (mC (.str "heats")) aNil)) (mLc (itT (m2 ixD (mV 0) (mC (.int 0)))) [2] (.nm 2) mYes (mA strF (aCons (mV 2) aNil)))) [some H, none, none, none, none, none, none] = some (.str t))
    (iC : itT (m2 ixD (mV 0) (mC (.int 1))) [some H, none, none, none, none, none, none] = some cs)
    (q1 : forM (.nm 3) ltRow cs [.dat H, .own [.str t], .un, .un, .un, .un, .un] = some (.nx [.dat H, .own o1, .un, u3, u4, .un, .un]))
    (iW : itT (m2 ixD (mV 0) (mC (.int 2))) (cl [.dat H, .own o1, .un, u3, u4, .un, .un]) = some ws)
    (q2 : forM (.nm 5) ltWall ws [.dat H, .own o1, .un, u3, u4, .un, .un] = some (.nx [.dat H, .own (zs.map .str), .un, v3, v4, v5, v6]))
    (e3 : joinS ("\n" : Str) (zs.map .str) = some (.str T)) : G__law_text [H] = some (.str T) := by
  unfold G__law_text
  refine run_rt (S := [.dat H, .own (zs.map .str), .un, v3, v4, v5, v6]) ?_
  unfold mr__law_text
  apply Eq.trans
  · apply sSeq_nx (S1 := [.dat H, .own [.str t], .un, .un, .un, .un, .un])
    have ef : fl (initS 7 [H]) = [some H, none, none, none, none, none, none] := by
      show [if flat H = true then some H else none, none, none, none, none, none, none] = _
      rw [if_pos fH]
    unfold sSetO
    rw [ef]
    unfold mA aCons aNil at e0 ⊢
    rw [e0]
    rfl
  apply Eq.trans
  · apply sSeq_nx (S1 := [.dat H, .own o1, .un, u3, u4, .un, .un])
    unfold sFor
    have : itT (m2 ixD (mV 0) (mC (.int 1))) (cl [.dat H, .own [.str t], .un, .un, .un, .un, .un]) = some cs := iC
    rw [this]
    exact q1
  apply Eq.trans
  · apply sSeq_nx (S1 := [.dat H, .own (zs.map .str), .un, v3, v4, v5, v6])
    unfold sFor
    rw [iW]
    exact q2
  have e4 : m2 joinD (mC (.str "\n")) (mV 1) (op [.dat H, .own (zs.map .str), .un, v3, v4, v5, v6]) = some (.str T) := e3
  unfold sRet
  rw [e4]
  rfl
theorem l_text {h : Hs} (o : Ok h) : G__law_text [eH h] = some (.str (Txt.join ("\n" : Str) (linesOf h))) := by
  have ro := rows_of o
  have lo := lines_ok ro
  have nh := ro.n
  have mh := ro.m
  have e0 := row_m (mi := itT (m2 ixD (mV 0) (mC (.int 0)))) (vs := [2]) (t := .nm 2) (me := mA strF (aCons (mV 2) aNil)) (S := [some (eH h), none, none, none, none, none, none]) (w := "heats") (by decide) ro.a rfl (fun i _ _ => ⟨_, rfl, rfl⟩)
  obtain ⟨S1, q1, l1, u3, rfl⟩ := forM_rel (t := .nm 3) (b := ltRow) eRow (fun n (z : List Str) S => z.length + n ≤ 5 ∧ ∃ u3, S = [.dat (eH h), .own (z.map .str), .un, u3, .un, .un, .un]) (fun z r => z ++ [rowT "row" r]) h.cells [rowT "heats" h.heats] [.dat (eH h), .own [.str (rowT "heats" h.heats)], .un, .un, .un, .un, .un] ⟨by show 1 + h.cells.length ≤ 5; omega, .un, rfl⟩ (by
    rintro n z S ⟨hz, u3, rfl⟩ r hr
    exact turn_go rfl (lt_row (ro.b r hr) (by omega)) ⟨by rw [List.length_append]; show z.length + 1 + n ≤ 5; omega, _, rfl⟩)
  rw [fold_snoc] at q1 l1
  obtain ⟨S2, q2, l2, v5, rfl⟩ := forM_rel (t := .nm 5) (b := ltWall) eW (fun n (z : List Str) S => z.length + n ≤ 45 ∧ ∃ v5, S = [.dat (eH h), .own (z.map .str), .un, u3, .un, v5, .un]) (fun z w => z ++ [rowT "wall" (w3 w)]) h.walls ([rowT "heats" h.heats] ++ h.cells.map (rowT "row")) [.dat (eH h), .own (([rowT "heats" h.heats] ++ h.cells.map (rowT "row")).map .str), .un, u3, .un, .un, .un] ⟨by omega, .un, rfl⟩ (by
    rintro n z S ⟨hz, v5, rfl⟩ w hw
    exact turn_go rfl (lt_wall (ro.c w hw) (by omega)) ⟨by rw [List.length_append]; show z.length + 1 + n ≤ 45; omega, _, rfl⟩)
  rw [fold_snoc] at q2
  have el : [rowT "heats" h.heats] ++ h.cells.map (rowT "row") ++ h.walls.map (fun w => rowT "wall" (w3 w)) = linesOf h := rfl
  rw [el] at q2
  exact text_eval rfl (flat_house h) e0 rfl q1 rfl q2 lo
/-- signs that are signs -/
def okS (x : Str) : Prop := ∀ c ∈ x.cps.toList, c < 1114112
theorem okS_of (s : String) : okS (Str.ofString s) := fun c hc => by
  rw [PyProof.Rows.signs_ofString] at hc
  obtain ⟨ch, _, rfl⟩ := List.mem_map.mp hc
  have h : ch.toNat.isValidChar := ch.valid
  unfold Nat.isValidChar at h
  omega
theorem okS_app {a b : Str} (ha : okS a) (hb : okS b) : okS (a ++ b) := fun c hc => by
  rw [PySem.Str.cps_append, Array.toList_append] at hc
  rcases List.mem_append.mp hc with h | h
  · exact ha c h
  · exact hb c h
theorem okS_joinS {s : Str} (hs : okS s) : ∀ {xs : List Str}, (∀ x ∈ xs, okS x) → okS (Str.join s xs)
  | [], _ => fun c hc => nomatch hc
  | [x], h => h x List.mem_cons_self
  | x :: y :: r, h => okS_app (okS_app (h x List.mem_cons_self) hs) (okS_joinS hs fun z hz => h z (List.mem_cons_of_mem _ hz))
theorem okS_join {s : Str} {xs : List Str} (hs : okS s) (h : ∀ x ∈ xs, okS x) : okS (Txt.join s xs) := by
  rw [TL.join_eq]
  exact okS_joinS hs h
theorem okS_row (w : String) (r : List Int) : okS (rowT (Str.ofString w) r) := okS_join (okS_of _) fun x hx => by
  rcases List.mem_cons.mp hx with rfl | hx
  · exact okS_of w
  · obtain ⟨i, _, rfl⟩ := List.mem_map.mp hx
    exact okS_of _
theorem okS_lines (h : Hs) : okS (Txt.join ("\n" : Str) (linesOf h)) := okS_join (okS_of _) fun x hx => by
  unfold linesOf at hx
  rcases List.mem_cons.mp hx with rfl | hx
  · exact okS_row _ _
  · rcases List.mem_append.mp hx with hx | hx
    · obtain ⟨r, _, rfl⟩ := List.mem_map.mp hx
      exact okS_row _ _
    · obtain ⟨w, _, rfl⟩ := List.mem_map.mp hx
      exact okS_row _ _
theorem eq_str {T : Str} (h : okS T) : eqD (.str T) (.str T) = some (.bl true) := by
  unfold eqD
  have sh : SeqAt.shaped (py (.str T)) = true := by
    show (T.cps.all (fun c => decide (c < 0x110000)) && true) = true
    rw [Bool.and_true, Array.all_eq_true']
    intro c hc
    exact decide_eq_true (h c (Array.mem_toList_iff.mpr hc))
  rw [if_pos ⟨sh, sh⟩]
  have : PyData.eqv (py (.str T)) (py (.str T)) = true := by
    show (T == T) = true
    exact beq_self_eq_true T
  rw [this]
end Ice

namespace Ice
open PySem PySem.Spec PyProof.Rows L2
/-! ### texts read back -/
def noC (c : Nat) (x : Str) : Prop := c ∉ TL.tl x
theorem tl_app (a b : Str) : TL.tl (a ++ b) = TL.tl a ++ TL.tl b := by
  show (a ++ b).cps.toList = a.cps.toList ++ b.cps.toList
  rw [PySem.Str.cps_append, Array.toList_append]
theorem noC_app {c : Nat} {a b : Str} (ha : noC c a) (hb : noC c b) : noC c (a ++ b) := fun h => by
  rw [tl_app] at h
  exact (List.mem_append.mp h).elim ha hb
theorem noC_joinS {c : Nat} {s : Str} (hs : noC c s) : ∀ {xs : List Str}, (∀ x ∈ xs, noC c x) → noC c (Str.join s xs)
  | [], _ => fun h => nomatch h
  | [x], h => h x List.mem_cons_self
  | x :: y :: r, h => noC_app (noC_app (h x List.mem_cons_self) hs) (noC_joinS hs fun z hz => h z (List.mem_cons_of_mem _ hz))
theorem noC_join {c : Nat} {s : Str} {xs : List Str} (hs : noC c s) (h : ∀ x ∈ xs, noC c x) : noC c (Txt.join s xs) := by
  rw [TL.join_eq]
  exact noC_joinS hs h
theorem S_tl (x : Str) : SX.S (TL.tl x) = x := TL.ext_tl rfl
theorem map_S : ∀ (xs : List Str), (xs.map TL.tl).map SX.S = xs
  | [] => rfl
  | x :: xs => by rw [List.map_cons, List.map_cons, S_tl, map_S xs]
theorem split_join {c : Nat} (hc : c < 256) {xs : List Str} (hne : xs ≠ []) (h : ∀ x ∈ xs, noC c x) : Txt.split (Txt.join (SX.S [c]) xs) (SX.S [c]) = xs := by
  have e : Txt.join (SX.S [c]) xs = SX.S (TL.joinL [c] (xs.map TL.tl)) := by
    have := SX.join_S [c] (xs.map TL.tl)
    rw [map_S] at this
    exact this
  rw [e, SX.split_S (List.cons_ne_nil _ _) (by simp only [List.all_cons, List.all_nil, Bool.and_true, decide_eq_true hc]), SX.spl_join (fun z => hne (List.map_eq_nil_iff.mp z)) fun p hp => by
    obtain ⟨x, hx, rfl⟩ := List.mem_map.mp hp
    exact h x hx]
  exact map_S xs
/-! numbers -/
theorem tl_wS (n : Nat) : TL.tl (wS (n : Int)) = TL.numL n := TL.tl_num n
theorem digits_wS {i : Int} (h0 : 0 ≤ i) : ∀ c ∈ TL.tl (wS i), 48 ≤ c ∧ c ≤ 57 := fun c hc => by
  obtain ⟨n, rfl⟩ := Int.eq_ofNat_of_zero_le h0
  have hc' : c ∈ TL.numL n := by rw [← tl_wS]; exact hc
  exact TL.numL_digits n c hc'
theorem noC_wS {i : Int} (h0 : 0 ≤ i) {c : Nat} (hc : c < 48) : noC c (wS i) := fun h => by
  have := digits_wS h0 c h
  omega
theorem uni_dig : ∀ c ∈ List.range' 48 10, Unicode.isDigit c = true := by decide +kernel
theorem head_num : ∀ (k n : Nat), n < k → 0 < n → ∃ c r, TL.numL n = c :: r ∧ c ≠ 48
  | 0, _, h, _ => absurd h (Nat.not_lt_zero _)
  | k + 1, n, h, h0 => by
    by_cases c : n < 10
    · rw [TL.numL_lt c]
      exact ⟨_, _, rfl, by omega⟩
    · obtain ⟨d, r, e, hd⟩ := head_num k (n / 10) (by omega) (by omega)
      rw [TL.numL_step (by omega), e]
      exact ⟨d, _, rfl, hd⟩
theorem asc_wS {i : Int} (h0 : 0 ≤ i) : Txt.isascii (wS i) = true := by
  unfold Txt.isascii
  rw [Array.all_eq_true']
  intro c hc
  have := digits_wS h0 c (Array.mem_toList_iff.mpr hc)
  exact decide_eq_true (by omega)
theorem wS_ne {i : Int} (h0 : 0 ≤ i) : ∃ c r, TL.tl (wS i) = c :: r ∧ (i ≠ 0 → c ≠ 48) := by
  obtain ⟨n, rfl⟩ := Int.eq_ofNat_of_zero_le h0
  rw [tl_wS]
  by_cases c : n = 0
  · subst c
    exact ⟨48, [], by rw [TL.numL_lt (by decide)], fun h => absurd rfl h⟩
  · obtain ⟨d, r, e, hd⟩ := head_num (n + 1) n (by omega) (by omega)
    exact ⟨d, r, e, fun _ => hd⟩
theorem dig_wS {i : Int} (h0 : 0 ≤ i) : Txt.isdigit (wS i) = true := by
  obtain ⟨c, r, e, _⟩ := wS_ne h0
  unfold Txt.isdigit
  have hl : (wS i).length > 0 := by
    show (wS i).cps.size > 0
    have : (wS i).cps.toList = c :: r := e
    rw [← Array.length_toList, this]
    exact Nat.succ_pos _
  rw [decide_eq_true hl, Bool.true_and, Array.all_eq_true']
  intro d hd
  have := digits_wS h0 d (Array.mem_toList_iff.mpr hd)
  exact uni_dig d (List.mem_range'_1.mpr (by omega))
theorem okS_wS (i : Int) : okS (wS i) := okS_of _
theorem shaped_str {x : Str} (h : okS x) : SeqAt.shaped (py (.str x)) = true := by
  show (x.cps.all (fun c => decide (c < 0x110000)) && true) = true
  rw [Bool.and_true, Array.all_eq_true']
  intro c hc
  exact decide_eq_true (h c (Array.mem_toList_iff.mpr hc))
theorem eq_strs {x y : Str} (hx : okS x) (hy : okS y) : eqD (.str x) (.str y) = some (.bl (x == y)) := by
  unfold eqD
  rw [if_pos ⟨shaped_str hx, shaped_str hy⟩]
  rfl
theorem ne_strs {x y : Str} (hx : okS x) (hy : okS y) : neD (.str x) (.str y) = some (.bl (!(x == y))) := by
  unfold neD
  rw [if_pos ⟨shaped_str hx, shaped_str hy⟩]
  rfl
theorem eqw (x y : String) (b : Bool) (h : (Str.ofString x == Str.ofString y) = b) : eqD (.str (Str.ofString x)) (.str (Str.ofString y)) = some (.bl b) := by
  rw [eq_strs (okS_of x) (okS_of y), h]
theorem mA_1 {f : List D → Option D} {m : Mi} {S : Sd} {d z : D} (h : m S = some d) (g : f [d] = some z) : mA f (aCons m aNil) S = some z := by
  unfold mA aCons
  rw [h]
  exact g
theorem mA_2 {f : List D → Option D} {m k : Mi} {S : Sd} {d e z : D} (h : m S = some d) (h2 : k S = some e) (g : f [d, e] = some z) : mA f (aCons m (aCons k aNil)) S = some z := by
  unfold mA aCons
  rw [h]
  simp only [Option.bind_some, h2]
  exact g
/-! the program's words -/
theorem num_eval {F C : D} {n : Int} {b1 b2 : Bool} (h1 : ascD F = some (.bl true)) (h2 : digD F = some (.bl true)) (h3 : lenS [F] = some (.int n)) (h4 : n ≤ 4) (h5 : eqD F (.str "0") = some (.bl b1)) (h6 : b1 = false → ixS F (.int 0) = some C ∧ neD C (.str "0") = some (.bl b2) ∧ b2 = true) : G__is_written_number [F] = some (.bl true) := by
  have c4 : decide (n > 4) = false := decide_eq_false (by omega)
  unfold G__is_written_number
  refine run_rt (S := [.dat F]) ?_
  unfold mr__is_written_number
  apply Eq.trans
  · apply sSeq_nx (S1 := [.dat F])
    simp (config := { decide := false }) only [runF, initS, sSeq, sIf, sRet, sRetN, sSet, sSetF, sSetO, sDrop, sNext, sNever, sUnp, sUnpF, sApp, sAppF, sLend, sAugI, asgL_nm, asgL_tp, asgL_wt, asgsL_nil, asgsL_cons, asg_nm, asg_tp, asgs_nil, asgs_cons, wipeD, mAnd, mOr, mNot, mB, mTr, m2, m1, mV, mC, mA, mCh, mAndV, mOrV, aCons, aNil, guardN, op, cl, fl, opn, clos, flt, eqD_int, neD_int, gtD, ltD, leD, geD, addD, subD, negD, tupD, lstD, tupF, lstF, outD, notD, tru, isD, isnD, isN, flat_tp, flat_in, flat_bo, flat_no, flats_nl, flats_cn,
  List.map_cons, List.map_nil, List.length_cons, List.length_nil, List.replicate, List.getElem?_cons_zero, List.getElem?_cons_succ, List.getElem?_nil, List.cons_append, List.nil_append, Option.bind_some, Option.bind_none, Option.bind_assoc, Option.map_some, Option.map_none, Nat.reduceAdd, Nat.reduceSub, Nat.reduceLeDiff, List.set_cons_zero, List.set_cons_succ, if_true, if_false, ite_true, ite_false, reduceCtorEq, Bool.false_eq_true, Bool.not_true, Bool.not_false, ↓reduceIte, eq_self, h1, h2, h3, c4]
  cases b1 with
  | true => simp (config := { decide := false }) only [runF, initS, sSeq, sIf, sRet, sRetN, sSet, sSetF, sSetO, sDrop, sNext, sNever, sUnp, sUnpF, sApp, sAppF, sLend, sAugI, asgL_nm, asgL_tp, asgL_wt, asgsL_nil, asgsL_cons, asg_nm, asg_tp, asgs_nil, asgs_cons, wipeD, mAnd, mOr, mNot, mB, mTr, m2, m1, mV, mC, mA, mCh, mAndV, mOrV, aCons, aNil, guardN, op, cl, fl, opn, clos, flt, eqD_int, neD_int, gtD, ltD, leD, geD, addD, subD, negD, tupD, lstD, tupF, lstF, outD, notD, tru, isD, isnD, isN, flat_tp, flat_in, flat_bo, flat_no, flats_nl, flats_cn,
  List.map_cons, List.map_nil, List.length_cons, List.length_nil, List.replicate, List.getElem?_cons_zero, List.getElem?_cons_succ, List.getElem?_nil, List.cons_append, List.nil_append, Option.bind_some, Option.bind_none, Option.bind_assoc, Option.map_some, Option.map_none, Nat.reduceAdd, Nat.reduceSub, Nat.reduceLeDiff, List.set_cons_zero, List.set_cons_succ, if_true, if_false, ite_true, ite_false, reduceCtorEq, Bool.false_eq_true, Bool.not_true, Bool.not_false, ↓reduceIte, eq_self, h5]
  | false =>
    obtain ⟨a, b, c⟩ := h6 rfl
    subst c
    simp (config := { decide := false }) only [runF, initS, sSeq, sIf, sRet, sRetN, sSet, sSetF, sSetO, sDrop, sNext, sNever, sUnp, sUnpF, sApp, sAppF, sLend, sAugI, asgL_nm, asgL_tp, asgL_wt, asgsL_nil, asgsL_cons, asg_nm, asg_tp, asgs_nil, asgs_cons, wipeD, mAnd, mOr, mNot, mB, mTr, m2, m1, mV, mC, mA, mCh, mAndV, mOrV, aCons, aNil, guardN, op, cl, fl, opn, clos, flt, eqD_int, neD_int, gtD, ltD, leD, geD, addD, subD, negD, tupD, lstD, tupF, lstF, outD, notD, tru, isD, isnD, isN, flat_tp, flat_in, flat_bo, flat_no, flats_nl, flats_cn,
  List.map_cons, List.map_nil, List.length_cons, List.length_nil, List.replicate, List.getElem?_cons_zero, List.getElem?_cons_succ, List.getElem?_nil, List.cons_append, List.nil_append, Option.bind_some, Option.bind_none, Option.bind_assoc, Option.map_some, Option.map_none, Nat.reduceAdd, Nat.reduceSub, Nat.reduceLeDiff, List.set_cons_zero, List.set_cons_succ, if_true, if_false, ite_true, ite_false, reduceCtorEq, Bool.false_eq_true, Bool.not_true, Bool.not_false, ↓reduceIte, eq_self, h5, a, b]
theorem g_isnum {i : Int} (h0 : 0 ≤ i) (h1 : i ≤ 9999) : G__is_written_number [.str (wS i)] = some (.bl true) := by
  obtain ⟨c, r, e, hc⟩ := wS_ne h0
  have hl := len_wS h0 h1
  have h5 := eq_strs (okS_wS i) (okS_of "0")
  refine num_eval (n := (wS i).length) (C := .str ⟨#[c]⟩) (b2 := true) (by show some (D.bl (Txt.isascii (wS i))) = _; rw [asc_wS h0]) (by show some (D.bl (Txt.isdigit (wS i))) = _; rw [dig_wS h0]) (by show (if (wS i).length ≤ 1000000 then some (D.int ((wS i).length : Nat)) else none) = _; rw [if_pos (by omega)]) (by omega) h5 fun hb => ?_
  have hi : i ≠ 0 := fun z => by
    subst z
    have : (wS 0 == Str.ofString "0") = true := by decide +kernel
    rw [this] at hb
    cases hb
  have c1 := hc hi
  have cd := digits_wS h0 c (by rw [e]; exact List.mem_cons_self)
  have ok1 : okS (⟨#[c]⟩ : Str) := fun d hd => by
    have : d = c := by simpa using hd
    omega
  refine ⟨?_, ?_, rfl⟩
  · show (if (wS i).length ≤ 1000000 then (atI (wS i).cps.toList 0).map fun c => D.str ⟨#[c]⟩ else none) = _
    rw [if_pos (by omega)]
    have : (wS i).cps.toList = c :: r := e
    rw [this]
    show Option.map _ (atI (c :: r) ((0 : Nat) : Int)) = _
    rw [atI_nat (i := 0) (x := c) rfl]
    rfl
  · rw [ne_strs ok1 (okS_of "0")]
    have : ((⟨#[c]⟩ : Str) == Str.ofString "0") = false := by
      rw [beq_eq_false_iff_ne]
      intro h
      have h2 := congrArg (fun x : Str => x.cps.toList) h
      have h3 : [c] = [48] := h2
      injection h3 with h3
      exact c1 h3
    rw [this]
    rfl
/-- how many numbers behind a word -/
def goodRow (w : Str) (r : List Int) : Prop := (w = Str.ofString "heats" ∧ r.length = 5) ∨ (w = Str.ofString "row" ∧ 0 < r.length) ∨ (w = Str.ofString "wall" ∧ r.length = 3)
theorem g_count {w : Str} {r : List Int} (h : goodRow w r) {n : Int} (hn : n = (r.length : Int)) : G__is_count [.str w, .int n] = some (.bl true) := by
  have a1 := eqw "heats" "heats" true (by decide +kernel)
  have a2 := eqw "row" "heats" false (by decide +kernel)
  have a3 := eqw "row" "wall" false (by decide +kernel)
  have a4 := eqw "row" "row" true (by decide +kernel)
  have a5 := eqw "wall" "heats" false (by decide +kernel)
  have a6 := eqw "wall" "wall" true (by decide +kernel)
  unfold G__is_count
  refine run_rt (S := [.dat (.str w), .dat (.int n)]) ?_
  unfold mr__is_count
  rcases h with ⟨rfl, h⟩ | ⟨rfl, h⟩ | ⟨rfl, h⟩
  · apply sSeq_rt
    have : n = 5 := by omega
    subst this
    simp (config := { decide := false }) only [runF, initS, sSeq, sIf, sRet, sRetN, sSet, sSetF, sSetO, sDrop, sNext, sNever, sUnp, sUnpF, sApp, sAppF, sLend, sAugI, asgL_nm, asgL_tp, asgL_wt, asgsL_nil, asgsL_cons, asg_nm, asg_tp, asgs_nil, asgs_cons, wipeD, mAnd, mOr, mNot, mB, mTr, m2, m1, mV, mC, mA, mCh, mAndV, mOrV, aCons, aNil, guardN, op, cl, fl, opn, clos, flt, eqD_int, neD_int, gtD, ltD, leD, geD, addD, subD, negD, tupD, lstD, tupF, lstF, outD, notD, tru, isD, isnD, isN, flat_tp, flat_in, flat_bo, flat_no, flats_nl, flats_cn,
  List.map_cons, List.map_nil, List.length_cons, List.length_nil, List.replicate, List.getElem?_cons_zero, List.getElem?_cons_succ, List.getElem?_nil, List.cons_append, List.nil_append, Option.bind_some, Option.bind_none, Option.bind_assoc, Option.map_some, Option.map_none, Nat.reduceAdd, Nat.reduceSub, Nat.reduceLeDiff, List.set_cons_zero, List.set_cons_succ, if_true, if_false, ite_true, ite_false, reduceCtorEq, Bool.false_eq_true, Bool.not_true, Bool.not_false, ↓reduceIte, eq_self, a1, beq_self_eq_true]
  · apply Eq.trans
    · apply sSeq_nx (S1 := [.dat (.str (Str.ofString "row")), .dat (.int n)])
      simp (config := { decide := false }) only [runF, initS, sSeq, sIf, sRet, sRetN, sSet, sSetF, sSetO, sDrop, sNext, sNever, sUnp, sUnpF, sApp, sAppF, sLend, sAugI, asgL_nm, asgL_tp, asgL_wt, asgsL_nil, asgsL_cons, asg_nm, asg_tp, asgs_nil, asgs_cons, wipeD, mAnd, mOr, mNot, mB, mTr, m2, m1, mV, mC, mA, mCh, mAndV, mOrV, aCons, aNil, guardN, op, cl, fl, opn, clos, flt, eqD_int, neD_int, gtD, ltD, leD, geD, addD, subD, negD, tupD, lstD, tupF, lstF, outD, notD, tru, isD, isnD, isN, flat_tp, flat_in, flat_bo, flat_no, flats_nl, flats_cn,
  List.map_cons, List.map_nil, List.length_cons, List.length_nil, List.replicate, List.getElem?_cons_zero, List.getElem?_cons_succ, List.getElem?_nil, List.cons_append, List.nil_append, Option.bind_some, Option.bind_none, Option.bind_assoc, Option.map_some, Option.map_none, Nat.reduceAdd, Nat.reduceSub, Nat.reduceLeDiff, List.set_cons_zero, List.set_cons_succ, if_true, if_false, ite_true, ite_false, reduceCtorEq, Bool.false_eq_true, Bool.not_true, Bool.not_false, ↓reduceIte, eq_self, a2]
    apply Eq.trans
    · apply sSeq_nx (S1 := [.dat (.str (Str.ofString "row")), .dat (.int n)])
      simp (config := { decide := false }) only [runF, initS, sSeq, sIf, sRet, sRetN, sSet, sSetF, sSetO, sDrop, sNext, sNever, sUnp, sUnpF, sApp, sAppF, sLend, sAugI, asgL_nm, asgL_tp, asgL_wt, asgsL_nil, asgsL_cons, asg_nm, asg_tp, asgs_nil, asgs_cons, wipeD, mAnd, mOr, mNot, mB, mTr, m2, m1, mV, mC, mA, mCh, mAndV, mOrV, aCons, aNil, guardN, op, cl, fl, opn, clos, flt, eqD_int, neD_int, gtD, ltD, leD, geD, addD, subD, negD, tupD, lstD, tupF, lstF, outD, notD, tru, isD, isnD, isN, flat_tp, flat_in, flat_bo, flat_no, flats_nl, flats_cn,
  List.map_cons, List.map_nil, List.length_cons, List.length_nil, List.replicate, List.getElem?_cons_zero, List.getElem?_cons_succ, List.getElem?_nil, List.cons_append, List.nil_append, Option.bind_some, Option.bind_none, Option.bind_assoc, Option.map_some, Option.map_none, Nat.reduceAdd, Nat.reduceSub, Nat.reduceLeDiff, List.set_cons_zero, List.set_cons_succ, if_true, if_false, ite_true, ite_false, reduceCtorEq, Bool.false_eq_true, Bool.not_true, Bool.not_false, ↓reduceIte, eq_self, a3]
    have : decide (n > 0) = true := decide_eq_true (by omega)
    simp (config := { decide := false }) only [runF, initS, sSeq, sIf, sRet, sRetN, sSet, sSetF, sSetO, sDrop, sNext, sNever, sUnp, sUnpF, sApp, sAppF, sLend, sAugI, asgL_nm, asgL_tp, asgL_wt, asgsL_nil, asgsL_cons, asg_nm, asg_tp, asgs_nil, asgs_cons, wipeD, mAnd, mOr, mNot, mB, mTr, m2, m1, mV, mC, mA, mCh, mAndV, mOrV, aCons, aNil, guardN, op, cl, fl, opn, clos, flt, eqD_int, neD_int, gtD, ltD, leD, geD, addD, subD, negD, tupD, lstD, tupF, lstF, outD, notD, tru, isD, isnD, isN, flat_tp, flat_in, flat_bo, flat_no, flats_nl, flats_cn,
  List.map_cons, List.map_nil, List.length_cons, List.length_nil, List.replicate, List.getElem?_cons_zero, List.getElem?_cons_succ, List.getElem?_nil, List.cons_append, List.nil_append, Option.bind_some, Option.bind_none, Option.bind_assoc, Option.map_some, Option.map_none, Nat.reduceAdd, Nat.reduceSub, Nat.reduceLeDiff, List.set_cons_zero, List.set_cons_succ, if_true, if_false, ite_true, ite_false, reduceCtorEq, Bool.false_eq_true, Bool.not_true, Bool.not_false, ↓reduceIte, eq_self, a4, this]
  · apply Eq.trans
    · apply sSeq_nx (S1 := [.dat (.str (Str.ofString "wall")), .dat (.int n)])
      simp (config := { decide := false }) only [runF, initS, sSeq, sIf, sRet, sRetN, sSet, sSetF, sSetO, sDrop, sNext, sNever, sUnp, sUnpF, sApp, sAppF, sLend, sAugI, asgL_nm, asgL_tp, asgL_wt, asgsL_nil, asgsL_cons, asg_nm, asg_tp, asgs_nil, asgs_cons, wipeD, mAnd, mOr, mNot, mB, mTr, m2, m1, mV, mC, mA, mCh, mAndV, mOrV, aCons, aNil, guardN, op, cl, fl, opn, clos, flt, eqD_int, neD_int, gtD, ltD, leD, geD, addD, subD, negD, tupD, lstD, tupF, lstF, outD, notD, tru, isD, isnD, isN, flat_tp, flat_in, flat_bo, flat_no, flats_nl, flats_cn,
  List.map_cons, List.map_nil, List.length_cons, List.length_nil, List.replicate, List.getElem?_cons_zero, List.getElem?_cons_succ, List.getElem?_nil, List.cons_append, List.nil_append, Option.bind_some, Option.bind_none, Option.bind_assoc, Option.map_some, Option.map_none, Nat.reduceAdd, Nat.reduceSub, Nat.reduceLeDiff, List.set_cons_zero, List.set_cons_succ, if_true, if_false, ite_true, ite_false, reduceCtorEq, Bool.false_eq_true, Bool.not_true, Bool.not_false, ↓reduceIte, eq_self, a5]
    apply sSeq_rt
    have : n = 3 := by omega
    subst this
    simp (config := { decide := false }) only [runF, initS, sSeq, sIf, sRet, sRetN, sSet, sSetF, sSetO, sDrop, sNext, sNever, sUnp, sUnpF, sApp, sAppF, sLend, sAugI, asgL_nm, asgL_tp, asgL_wt, asgsL_nil, asgsL_cons, asg_nm, asg_tp, asgs_nil, asgs_cons, wipeD, mAnd, mOr, mNot, mB, mTr, m2, m1, mV, mC, mA, mCh, mAndV, mOrV, aCons, aNil, guardN, op, cl, fl, opn, clos, flt, eqD_int, neD_int, gtD, ltD, leD, geD, addD, subD, negD, tupD, lstD, tupF, lstF, outD, notD, tru, isD, isnD, isN, flat_tp, flat_in, flat_bo, flat_no, flats_nl, flats_cn,
  List.map_cons, List.map_nil, List.length_cons, List.length_nil, List.replicate, List.getElem?_cons_zero, List.getElem?_cons_succ, List.getElem?_nil, List.cons_append, List.nil_append, Option.bind_some, Option.bind_none, Option.bind_assoc, Option.map_some, Option.map_none, Nat.reduceAdd, Nat.reduceSub, Nat.reduceLeDiff, List.set_cons_zero, List.set_cons_succ, if_true, if_false, ite_true, ite_false, reduceCtorEq, Bool.false_eq_true, Bool.not_true, Bool.not_false, ↓reduceIte, eq_self, a6, beq_self_eq_true]
theorem row_split {w : Str} {r : List Int} (hw : noC 32 w) (h : rowOk r) : Txt.split (rowT w r) (" " : Str) = w :: r.map wS :=
  split_join (c := 32) (by decide) (List.cons_ne_nil _ _) fun x hx => by
    rcases List.mem_cons.mp hx with rfl | hx
    · exact hw
    · obtain ⟨i, hi, rfl⟩ := List.mem_map.mp hx
      exact noC_wS (h.2 i hi).1 (by decide)
theorem readrow_eval {T W : D} {ns out bs : List D} {n : Int} (h1 : splitD T (.str " ") = some (.lst (W :: ns))) (hl : ns.length ≤ 16000) (h2 : lenA [.lst ns] = some (.int n)) (h3 : G__is_count [W, .int n] = some (.bl true))
    (h4 : mLc (itL (mV 2)) [3] (.nm 3) mYes (mA (guardN 1 G__is_written_number) (aCons (mV 3) aNil)) [some T, some W, some (.lst ns), none] = some (.lst bs)) (h5 : allF [.lst bs] = some (.bl true))
    (h6 : mLc (itL (mV 2)) [3] (.nm 3) mYes (mA intS (aCons (mV 3) aNil)) [some T, some W, some (.lst ns), none] = some (.lst out)) : G__read_row [T] = some (.tup [W, .tup out]) := by
  unfold G__read_row
  refine run_rt (S := [.dat T, .dat W, .dat (.lst ns), .un]) ?_
  unfold mr__read_row
  apply Eq.trans
  · apply sSeq_nx (S1 := [.dat T, .dat W, .dat (.lst ns), .un])
    unfold sStar
    have : m2 splitD (mV 0) (mC (.str " ")) (cl (initS 4 [T])) = some (.lst (W :: ns)) := h1
    rw [this]
    simp only [Option.bind_some, hl, if_true]
    rfl
  apply Eq.trans
  · apply sSeq_nx (S1 := [.dat T, .dat W, .dat (.lst ns), .un])
    generalize D.lst ns = N at *
    simp (config := { decide := false }) only [runF, initS, sSeq, sIf, sRet, sRetN, sSet, sSetF, sSetO, sDrop, sNext, sNever, sUnp, sUnpF, sApp, sAppF, sLend, sAugI, asgL_nm, asgL_tp, asgL_wt, asgsL_nil, asgsL_cons, asg_nm, asg_tp, asgs_nil, asgs_cons, wipeD, mAnd, mOr, mNot, mB, mTr, m2, m1, mV, mC, mA, mCh, mAndV, mOrV, aCons, aNil, guardN, op, cl, fl, opn, clos, flt, eqD_int, neD_int, gtD, ltD, leD, geD, addD, subD, negD, tupD, lstD, tupF, lstF, outD, notD, tru, isD, isnD, isN, flat_tp, flat_in, flat_bo, flat_no, flats_nl, flats_cn,
  List.map_cons, List.map_nil, List.length_cons, List.length_nil, List.replicate, List.getElem?_cons_zero, List.getElem?_cons_succ, List.getElem?_nil, List.cons_append, List.nil_append, Option.bind_some, Option.bind_none, Option.bind_assoc, Option.map_some, Option.map_none, Nat.reduceAdd, Nat.reduceSub, Nat.reduceLeDiff, List.set_cons_zero, List.set_cons_succ, if_true, if_false, ite_true, ite_false, reduceCtorEq, Bool.false_eq_true, Bool.not_true, Bool.not_false, ↓reduceIte, eq_self, h2, h3]
  apply Eq.trans
  · apply sSeq_nx (S1 := [.dat T, .dat W, .dat (.lst ns), .un])
    have e : mNot (mTr (mA allF (aCons (mLc (itL (mV 2)) [3] (.nm 3) mYes (mA (guardN 1 G__is_written_number) (aCons (mV 3) aNil))) aNil))) (op [.dat T, .dat W, .dat (.lst ns), .un]) = some false := by
      have h4' : mLc (itL (mV 2)) [3] (.nm 3) mYes (mA (guardN 1 G__is_written_number) (aCons (mV 3) aNil)) (op [.dat T, .dat W, .dat (.lst ns), .un]) = some (.lst bs) := h4
      have h45 := mA_1 (f := allF) h4' h5
      unfold mNot mTr
      rw [h45]
      rfl
    unfold sIf
    rw [e]
    rfl
  have e6 : mA tupD (aCons (mV 1) (aCons (mA tupF (aCons (mLc (itL (mV 2)) [3] (.nm 3) mYes (mA intS (aCons (mV 3) aNil))) aNil)) aNil)) (op [.dat T, .dat W, .dat (.lst ns), .un]) = some (.tup [W, .tup out]) := by
    have h6' : mLc (itL (mV 2)) [3] (.nm 3) mYes (mA intS (aCons (mV 3) aNil)) (op [.dat T, .dat W, .dat (.lst ns), .un]) = some (.lst out) := h6
    exact mA_2 (d := W) (e := .tup out) rfl (mA_1 (f := tupF) h6' rfl) rfl
  unfold sRet
  rw [e6]
  rfl
theorem int_wS {i : Int} (h0 : 0 ≤ i) (h1 : i ≤ 9999) : intS [.str (wS i)] = some (.int i) := by
  show (PySem.intText? (wS i)).bind (fun n => if (wS i).length ≤ 640 then some (D.int n) else none) = _
  have : PySem.intText? (wS i) = some i := PySem.W.KIN.num_reads h0 (by omega)
  rw [this]
  have := len_wS h0 h1
  show (if (wS i).length ≤ 640 then some (D.int i) else none) = _
  rw [if_pos (by omega)]
theorem g_readrow {w : Str} {r : List Int} (hw : noC 32 w) (hl : w.length ≤ 5) (h : rowOk r) (hg : goodRow w r) : G__read_row [.str (rowT w r)] = some (.tup [.str w, eRow r]) := by
  have hs := row_split hw h
  have rl := (row_join hl h).2
  have r5 := h.1
  refine readrow_eval (ns := r.map fun i => .str (wS i)) (bs := r.map fun _ => .bl true) (n := r.length) ?_ (by rw [List.length_map]; omega) (by show some (D.int ((r.map fun i => D.str (wS i)).length : Nat)) = _; rw [List.length_map]) (g_count hg rfl) ?_ (allF_true r) ?_
  · show (if ((" " : Str).length == 0) = false ∧ (rowT w r).length ≤ 1000000 ∧ (Txt.split (rowT w r) (" " : Str)).length ≤ 1000000 then some (D.lst ((Txt.split (rowT w r) (" " : Str)).map .str)) else none) = _
    rw [hs, if_pos ⟨rfl, by omega, by rw [List.length_cons, List.length_map]; omega⟩, List.map_cons, List.map_map]
    rfl
  · exact mLc_map (fun i : Int => D.str (wS i)) (fun _ => D.bl true) r rfl (by omega) fun i hi => ⟨_, rfl, by
      obtain ⟨a, b⟩ := h.2 i hi
      simp (config := { decide := false }) only [runF, initS, sSeq, sIf, sRet, sRetN, sSet, sSetF, sSetO, sDrop, sNext, sNever, sUnp, sUnpF, sApp, sAppF, sLend, sAugI, asgL_nm, asgL_tp, asgL_wt, asgsL_nil, asgsL_cons, asg_nm, asg_tp, asgs_nil, asgs_cons, wipeD, mAnd, mOr, mNot, mB, mTr, m2, m1, mV, mC, mA, mCh, mAndV, mOrV, aCons, aNil, guardN, op, cl, fl, opn, clos, flt, eqD_int, neD_int, gtD, ltD, leD, geD, addD, subD, negD, tupD, lstD, tupF, lstF, outD, notD, tru, isD, isnD, isN, flat_tp, flat_in, flat_bo, flat_no, flats_nl, flats_cn,
  List.map_cons, List.map_nil, List.length_cons, List.length_nil, List.replicate, List.getElem?_cons_zero, List.getElem?_cons_succ, List.getElem?_nil, List.cons_append, List.nil_append, Option.bind_some, Option.bind_none, Option.bind_assoc, Option.map_some, Option.map_none, Nat.reduceAdd, Nat.reduceSub, Nat.reduceLeDiff, List.set_cons_zero, List.set_cons_succ, if_true, if_false, ite_true, ite_false, reduceCtorEq, Bool.false_eq_true, Bool.not_true, Bool.not_false, ↓reduceIte, eq_self, g_isnum a b]⟩
  · exact mLc_map (fun i : Int => D.str (wS i)) (fun i => D.int i) r rfl (by omega) fun i hi => ⟨_, rfl, by
      obtain ⟨a, b⟩ := h.2 i hi
      simp (config := { decide := false }) only [runF, initS, sSeq, sIf, sRet, sRetN, sSet, sSetF, sSetO, sDrop, sNext, sNever, sUnp, sUnpF, sApp, sAppF, sLend, sAugI, asgL_nm, asgL_tp, asgL_wt, asgsL_nil, asgsL_cons, asg_nm, asg_tp, asgs_nil, asgs_cons, wipeD, mAnd, mOr, mNot, mB, mTr, m2, m1, mV, mC, mA, mCh, mAndV, mOrV, aCons, aNil, guardN, op, cl, fl, opn, clos, flt, eqD_int, neD_int, gtD, ltD, leD, geD, addD, subD, negD, tupD, lstD, tupF, lstF, outD, notD, tru, isD, isnD, isN, flat_tp, flat_in, flat_bo, flat_no, flats_nl, flats_cn,
  List.map_cons, List.map_nil, List.length_cons, List.length_nil, List.replicate, List.getElem?_cons_zero, List.getElem?_cons_succ, List.getElem?_nil, List.cons_append, List.nil_append, Option.bind_some, Option.bind_none, Option.bind_assoc, Option.map_some, Option.map_none, Nat.reduceAdd, Nat.reduceSub, Nat.reduceLeDiff, List.set_cons_zero, List.set_cons_succ, if_true, if_false, ite_true, ite_false, reduceCtorEq, Bool.false_eq_true, Bool.not_true, Bool.not_false, ↓reduceIte, eq_self, int_wS a b]⟩
end Ice

namespace Ice
open PySem PySem.Spec PyProof.Rows L2
/-! ### rows that are none -/
theorem rowexc1 {T W : D} {ns : List D} {n : Int} (h1 : splitD T (.str " ") = some (.lst (W :: ns))) (hl : ns.length ≤ 16000) (h2 : lenA [.lst ns] = some (.int n)) (h3 : G__is_count [W, .int n] = some (.bl false)) : GE__read_row [T] = some (.exc "BadText") := by
  unfold GE__read_row
  refine runE_of (o := .rx "BadText" [.dat T, .dat W, .dat (.lst ns), .un]) ?_ rfl
  unfold mrE__read_row
  refine (eSeq_nx (S1 := [.dat T, .dat W, .dat (.lst ns), .un]) ?_).trans ?_
  · refine eP_of (x := .nx _) ?_
    unfold sStar
    have : m2 splitD (mV 0) (mC (.str " ")) (cl (initS 4 [T])) = some (.lst (W :: ns)) := h1
    rw [this]
    simp only [Option.bind_some, hl, if_true]
    rfl
  refine eSeq_rx ?_
  have e : mNot (mTr (mA (guardN 2 G__is_count) (aCons (mV 1) (aCons (mA lenA (aCons (mV 2) aNil)) aNil)))) (op [.dat T, .dat W, .dat (.lst ns), .un]) = some true := by
    generalize D.lst ns = N at *
    simp (config := { decide := false }) only [runF, initS, sSeq, sIf, sRet, sRetN, sSet, sSetF, sSetO, sDrop, sNext, sNever, sUnp, sUnpF, sApp, sAppF, sLend, sAugI, asgL_nm, asgL_tp, asgL_wt, asgsL_nil, asgsL_cons, asg_nm, asg_tp, asgs_nil, asgs_cons, wipeD, mAnd, mOr, mNot, mB, mTr, m2, m1, mV, mC, mA, mCh, mAndV, mOrV, aCons, aNil, guardN, op, cl, fl, opn, clos, flt, eqD_int, neD_int, gtD, ltD, leD, geD, addD, subD, negD, tupD, lstD, tupF, lstF, outD, notD, tru, isD, isnD, isN, flat_tp, flat_in, flat_bo, flat_no, flats_nl, flats_cn,
  List.map_cons, List.map_nil, List.length_cons, List.length_nil, List.replicate, List.getElem?_cons_zero, List.getElem?_cons_succ, List.getElem?_nil, List.cons_append, List.nil_append, Option.bind_some, Option.bind_none, Option.bind_assoc, Option.map_some, Option.map_none, Nat.reduceAdd, Nat.reduceSub, Nat.reduceLeDiff, List.set_cons_zero, List.set_cons_succ, if_true, if_false, ite_true, ite_false, reduceCtorEq, Bool.false_eq_true, Bool.not_true, Bool.not_false, ↓reduceIte, eq_self, h2, h3]
  rw [eIf_of e]
  rfl
theorem rowexc2 {T W : D} {ns bs : List D} {n : Int} (h1 : splitD T (.str " ") = some (.lst (W :: ns))) (hl : ns.length ≤ 16000) (h2 : lenA [.lst ns] = some (.int n)) (h3 : G__is_count [W, .int n] = some (.bl true))
    (h4 : mLc (itL (mV 2)) [3] (.nm 3) mYes (mA (guardN 1 G__is_written_number) (aCons (mV 3) aNil)) [some T, some W, some (.lst ns), none] = some (.lst bs)) (h5 : allF [.lst bs] = some (.bl false)) : GE__read_row [T] = some (.exc "BadText") := by
  unfold GE__read_row
  refine runE_of (o := .rx "BadText" [.dat T, .dat W, .dat (.lst ns), .un]) ?_ rfl
  unfold mrE__read_row
  refine (eSeq_nx (S1 := [.dat T, .dat W, .dat (.lst ns), .un]) ?_).trans ?_
  · refine eP_of (x := .nx _) ?_
    unfold sStar
    have : m2 splitD (mV 0) (mC (.str " ")) (cl (initS 4 [T])) = some (.lst (W :: ns)) := h1
    rw [this]
    simp only [Option.bind_some, hl, if_true]
    rfl
  refine (eSeq_nx (S1 := [.dat T, .dat W, .dat (.lst ns), .un]) ?_).trans ?_
  · have e : mNot (mTr (mA (guardN 2 G__is_count) (aCons (mV 1) (aCons (mA lenA (aCons (mV 2) aNil)) aNil)))) (op [.dat T, .dat W, .dat (.lst ns), .un]) = some false := by
      generalize D.lst ns = N at *
      simp (config := { decide := false }) only [runF, initS, sSeq, sIf, sRet, sRetN, sSet, sSetF, sSetO, sDrop, sNext, sNever, sUnp, sUnpF, sApp, sAppF, sLend, sAugI, asgL_nm, asgL_tp, asgL_wt, asgsL_nil, asgsL_cons, asg_nm, asg_tp, asgs_nil, asgs_cons, wipeD, mAnd, mOr, mNot, mB, mTr, m2, m1, mV, mC, mA, mCh, mAndV, mOrV, aCons, aNil, guardN, op, cl, fl, opn, clos, flt, eqD_int, neD_int, gtD, ltD, leD, geD, addD, subD, negD, tupD, lstD, tupF, lstF, outD, notD, tru, isD, isnD, isN, flat_tp, flat_in, flat_bo, flat_no, flats_nl, flats_cn,
  List.map_cons, List.map_nil, List.length_cons, List.length_nil, List.replicate, List.getElem?_cons_zero, List.getElem?_cons_succ, List.getElem?_nil, List.cons_append, List.nil_append, Option.bind_some, Option.bind_none, Option.bind_assoc, Option.map_some, Option.map_none, Nat.reduceAdd, Nat.reduceSub, Nat.reduceLeDiff, List.set_cons_zero, List.set_cons_succ, if_true, if_false, ite_true, ite_false, reduceCtorEq, Bool.false_eq_true, Bool.not_true, Bool.not_false, ↓reduceIte, eq_self, h2, h3]
    rw [eIf_of e]
    rfl
  refine eSeq_rx ?_
  have e : mNot (mTr (mA allF (aCons (mLc (itL (mV 2)) [3] (.nm 3) mYes (mA (guardN 1 G__is_written_number) (aCons (mV 3) aNil))) aNil))) (op [.dat T, .dat W, .dat (.lst ns), .un]) = some true := by
    have h4' : mLc (itL (mV 2)) [3] (.nm 3) mYes (mA (guardN 1 G__is_written_number) (aCons (mV 3) aNil)) (op [.dat T, .dat W, .dat (.lst ns), .un]) = some (.lst bs) := h4
    have h45 := mA_1 (f := allF) h4' h5
    unfold mNot mTr
    rw [h45]
    rfl
  rw [eIf_of e]
  rfl
theorem split_of {T : Str} {xs : List Str} (hT : Txt.join (" " : Str) xs = T) (hne : xs ≠ []) (h : ∀ x ∈ xs, noC 32 x) (hl : T.length ≤ 1000) (hn : xs.length ≤ 1000) : splitD (.str T) (.str " ") = some (.lst (xs.map .str)) := by
  have e : Txt.split T (" " : Str) = xs := by
    rw [← hT]
    exact split_join (c := 32) (by decide) hne h
  show (if ((" " : Str).length == 0) = false ∧ T.length ≤ 1000000 ∧ (Txt.split T (" " : Str)).length ≤ 1000000 then some (D.lst ((Txt.split T (" " : Str)).map .str)) else none) = _
  rw [e, if_pos ⟨rfl, by omega, by omega⟩]
def BadRow (s : Str) : Prop := GE__read_row [.str s] = some (.exc "BadText") ∧ noC 10 s ∧ s.length ≤ 36
def goodB (s : Str) (xs : List Str) : Bool := decide (Txt.join (" " : Str) xs = s) && decide (xs ≠ []) && xs.all (fun x => decide (32 ∉ TL.tl x)) && decide (s.length ≤ 36) && decide (xs.length ≤ 1000) && decide (10 ∉ TL.tl s)
theorem goodB_of {s : Str} {xs : List Str} (h : goodB s xs = true) : splitD (.str s) (.str " ") = some (.lst (xs.map .str)) ∧ noC 10 s ∧ s.length ≤ 36 := by
  unfold goodB at h
  simp only [Bool.and_eq_true, decide_eq_true_eq, List.all_eq_true] at h
  obtain ⟨⟨⟨⟨⟨h1, h2⟩, h3⟩, h4⟩, h5⟩, h6⟩ := h
  exact ⟨split_of h1 h2 h3 (by omega) h5, h6, h4⟩
theorem bad_0 : BadRow "" := by
  obtain ⟨a, b, c⟩ := goodB_of (s := "") (xs := [""]) (by decide +kernel)
  exact ⟨rowexc1 (W := .str "") (ns := []) (n := 0) a (by decide) rfl (by kernel_rfl), b, c⟩
theorem bad_1 : BadRow " " := by
  obtain ⟨a, b, c⟩ := goodB_of (s := " ") (xs := ["", ""]) (by decide +kernel)
  exact ⟨rowexc1 (W := .str "") (ns := [.str ""]) (n := 1) a (by decide) rfl (by kernel_rfl), b, c⟩
theorem bad_2 : BadRow "heats" := by
  obtain ⟨a, b, c⟩ := goodB_of (s := "heats") (xs := ["heats"]) (by decide +kernel)
  exact ⟨rowexc1 (W := .str "heats") (ns := []) (n := 0) a (by decide) rfl (by kernel_rfl), b, c⟩
theorem bad_3 : BadRow "heats 1 2 3 4" := by
  obtain ⟨a, b, c⟩ := goodB_of (s := "heats 1 2 3 4") (xs := ["heats", "1", "2", "3", "4"]) (by decide +kernel)
  exact ⟨rowexc1 (W := .str "heats") (ns := [.str "1", .str "2", .str "3", .str "4"]) (n := 4) a (by decide) rfl (by kernel_rfl), b, c⟩
theorem bad_4 : BadRow "heats 1 2 3 4 5 6" := by
  obtain ⟨a, b, c⟩ := goodB_of (s := "heats 1 2 3 4 5 6") (xs := ["heats", "1", "2", "3", "4", "5", "6"]) (by decide +kernel)
  exact ⟨rowexc1 (W := .str "heats") (ns := [.str "1", .str "2", .str "3", .str "4", .str "5", .str "6"]) (n := 6) a (by decide) rfl (by kernel_rfl), b, c⟩
theorem bad_5 : BadRow "heats 1 2 3 4 x" := by
  obtain ⟨a, b, c⟩ := goodB_of (s := "heats 1 2 3 4 x") (xs := ["heats", "1", "2", "3", "4", "x"]) (by decide +kernel)
  exact ⟨rowexc2 (W := .str "heats") (ns := [.str "1", .str "2", .str "3", .str "4", .str "x"]) (bs := [.bl true, .bl true, .bl true, .bl true, .bl false]) (n := 5) a (by decide) rfl (by kernel_rfl) (by kernel_rfl) (by kernel_rfl), b, c⟩
theorem bad_6 : BadRow "heats 01 2 3 4 5" := by
  obtain ⟨a, b, c⟩ := goodB_of (s := "heats 01 2 3 4 5") (xs := ["heats", "01", "2", "3", "4", "5"]) (by decide +kernel)
  exact ⟨rowexc2 (W := .str "heats") (ns := [.str "01", .str "2", .str "3", .str "4", .str "5"]) (bs := [.bl false, .bl true, .bl true, .bl true, .bl true]) (n := 5) a (by decide) rfl (by kernel_rfl) (by kernel_rfl) (by kernel_rfl), b, c⟩
theorem bad_7 : BadRow "heat 1 2 3 4 5" := by
  obtain ⟨a, b, c⟩ := goodB_of (s := "heat 1 2 3 4 5") (xs := ["heat", "1", "2", "3", "4", "5"]) (by decide +kernel)
  exact ⟨rowexc1 (W := .str "heat") (ns := [.str "1", .str "2", .str "3", .str "4", .str "5"]) (n := 5) a (by decide) rfl (by kernel_rfl), b, c⟩
theorem bad_8 : BadRow "row" := by
  obtain ⟨a, b, c⟩ := goodB_of (s := "row") (xs := ["row"]) (by decide +kernel)
  exact ⟨rowexc1 (W := .str "row") (ns := []) (n := 0) a (by decide) rfl (by kernel_rfl), b, c⟩
theorem bad_9 : BadRow "row " := by
  obtain ⟨a, b, c⟩ := goodB_of (s := "row ") (xs := ["row", ""]) (by decide +kernel)
  exact ⟨rowexc2 (W := .str "row") (ns := [.str ""]) (bs := [.bl false]) (n := 1) a (by decide) rfl (by kernel_rfl) (by kernel_rfl) (by kernel_rfl), b, c⟩
theorem bad_10 : BadRow "row 05" := by
  obtain ⟨a, b, c⟩ := goodB_of (s := "row 05") (xs := ["row", "05"]) (by decide +kernel)
  exact ⟨rowexc2 (W := .str "row") (ns := [.str "05"]) (bs := [.bl false]) (n := 1) a (by decide) rfl (by kernel_rfl) (by kernel_rfl) (by kernel_rfl), b, c⟩
theorem bad_11 : BadRow "row 5 " := by
  obtain ⟨a, b, c⟩ := goodB_of (s := "row 5 ") (xs := ["row", "5", ""]) (by decide +kernel)
  exact ⟨rowexc2 (W := .str "row") (ns := [.str "5", .str ""]) (bs := [.bl true, .bl false]) (n := 2) a (by decide) rfl (by kernel_rfl) (by kernel_rfl) (by kernel_rfl), b, c⟩
theorem bad_12 : BadRow "row  5" := by
  obtain ⟨a, b, c⟩ := goodB_of (s := "row  5") (xs := ["row", "", "5"]) (by decide +kernel)
  exact ⟨rowexc2 (W := .str "row") (ns := [.str "", .str "5"]) (bs := [.bl false, .bl true]) (n := 2) a (by decide) rfl (by kernel_rfl) (by kernel_rfl) (by kernel_rfl), b, c⟩
theorem bad_13 : BadRow "row 12345" := by
  obtain ⟨a, b, c⟩ := goodB_of (s := "row 12345") (xs := ["row", "12345"]) (by decide +kernel)
  exact ⟨rowexc2 (W := .str "row") (ns := [.str "12345"]) (bs := [.bl false]) (n := 1) a (by decide) rfl (by kernel_rfl) (by kernel_rfl) (by kernel_rfl), b, c⟩
theorem bad_14 : BadRow "row -1" := by
  obtain ⟨a, b, c⟩ := goodB_of (s := "row -1") (xs := ["row", "-1"]) (by decide +kernel)
  exact ⟨rowexc2 (W := .str "row") (ns := [.str "-1"]) (bs := [.bl false]) (n := 1) a (by decide) rfl (by kernel_rfl) (by kernel_rfl) (by kernel_rfl), b, c⟩
theorem bad_15 : BadRow "row x" := by
  obtain ⟨a, b, c⟩ := goodB_of (s := "row x") (xs := ["row", "x"]) (by decide +kernel)
  exact ⟨rowexc2 (W := .str "row") (ns := [.str "x"]) (bs := [.bl false]) (n := 1) a (by decide) rfl (by kernel_rfl) (by kernel_rfl) (by kernel_rfl), b, c⟩
theorem bad_16 : BadRow "Row 5" := by
  obtain ⟨a, b, c⟩ := goodB_of (s := "Row 5") (xs := ["Row", "5"]) (by decide +kernel)
  exact ⟨rowexc1 (W := .str "Row") (ns := [.str "5"]) (n := 1) a (by decide) rfl (by kernel_rfl), b, c⟩
theorem bad_17 : BadRow "rows 5" := by
  obtain ⟨a, b, c⟩ := goodB_of (s := "rows 5") (xs := ["rows", "5"]) (by decide +kernel)
  exact ⟨rowexc1 (W := .str "rows") (ns := [.str "5"]) (n := 1) a (by decide) rfl (by kernel_rfl), b, c⟩
theorem bad_18 : BadRow "5 5" := by
  obtain ⟨a, b, c⟩ := goodB_of (s := "5 5") (xs := ["5", "5"]) (by decide +kernel)
  exact ⟨rowexc1 (W := .str "5") (ns := [.str "5"]) (n := 1) a (by decide) rfl (by kernel_rfl), b, c⟩
theorem bad_19 : BadRow "wall" := by
  obtain ⟨a, b, c⟩ := goodB_of (s := "wall") (xs := ["wall"]) (by decide +kernel)
  exact ⟨rowexc1 (W := .str "wall") (ns := []) (n := 0) a (by decide) rfl (by kernel_rfl), b, c⟩
theorem bad_20 : BadRow "wall 0 0" := by
  obtain ⟨a, b, c⟩ := goodB_of (s := "wall 0 0") (xs := ["wall", "0", "0"]) (by decide +kernel)
  exact ⟨rowexc1 (W := .str "wall") (ns := [.str "0", .str "0"]) (n := 2) a (by decide) rfl (by kernel_rfl), b, c⟩
theorem bad_21 : BadRow "wall 0 0 0 0" := by
  obtain ⟨a, b, c⟩ := goodB_of (s := "wall 0 0 0 0") (xs := ["wall", "0", "0", "0", "0"]) (by decide +kernel)
  exact ⟨rowexc1 (W := .str "wall") (ns := [.str "0", .str "0", .str "0", .str "0"]) (n := 4) a (by decide) rfl (by kernel_rfl), b, c⟩
theorem bad_22 : BadRow "wall 0 0 x" := by
  obtain ⟨a, b, c⟩ := goodB_of (s := "wall 0 0 x") (xs := ["wall", "0", "0", "x"]) (by decide +kernel)
  exact ⟨rowexc2 (W := .str "wall") (ns := [.str "0", .str "0", .str "x"]) (bs := [.bl true, .bl true, .bl false]) (n := 3) a (by decide) rfl (by kernel_rfl) (by kernel_rfl) (by kernel_rfl), b, c⟩
theorem bad_23 : BadRow "wall 0 0 -1" := by
  obtain ⟨a, b, c⟩ := goodB_of (s := "wall 0 0 -1") (xs := ["wall", "0", "0", "-1"]) (by decide +kernel)
  exact ⟨rowexc2 (W := .str "wall") (ns := [.str "0", .str "0", .str "-1"]) (bs := [.bl true, .bl true, .bl false]) (n := 3) a (by decide) rfl (by kernel_rfl) (by kernel_rfl) (by kernel_rfl), b, c⟩
theorem bad_24 : BadRow "walls 0 0 0" := by
  obtain ⟨a, b, c⟩ := goodB_of (s := "walls 0 0 0") (xs := ["walls", "0", "0", "0"]) (by decide +kernel)
  exact ⟨rowexc1 (W := .str "walls") (ns := [.str "0", .str "0", .str "0"]) (n := 3) a (by decide) rfl (by kernel_rfl), b, c⟩
theorem bad_25 : BadRow " wall 0 0 0" := by
  obtain ⟨a, b, c⟩ := goodB_of (s := " wall 0 0 0") (xs := ["", "wall", "0", "0", "0"]) (by decide +kernel)
  exact ⟨rowexc1 (W := .str "") (ns := [.str "wall", .str "0", .str "0", .str "0"]) (n := 4) a (by decide) rfl (by kernel_rfl), b, c⟩
theorem bad_26 : BadRow "wall 0 00 0" := by
  obtain ⟨a, b, c⟩ := goodB_of (s := "wall 0 00 0") (xs := ["wall", "0", "00", "0"]) (by decide +kernel)
  exact ⟨rowexc2 (W := .str "wall") (ns := [.str "0", .str "00", .str "0"]) (bs := [.bl true, .bl false, .bl true]) (n := 3) a (by decide) rfl (by kernel_rfl) (by kernel_rfl) (by kernel_rfl), b, c⟩
theorem bad_27 : BadRow "row +5" := by
  obtain ⟨a, b, c⟩ := goodB_of (s := "row +5") (xs := ["row", "+5"]) (by decide +kernel)
  exact ⟨rowexc2 (W := .str "row") (ns := [.str "+5"]) (bs := [.bl false]) (n := 1) a (by decide) rfl (by kernel_rfl) (by kernel_rfl) (by kernel_rfl), b, c⟩
theorem bad_28 : BadRow "row 5_0" := by
  obtain ⟨a, b, c⟩ := goodB_of (s := "row 5_0") (xs := ["row", "5_0"]) (by decide +kernel)
  exact ⟨rowexc2 (W := .str "row") (ns := [.str "5_0"]) (bs := [.bl false]) (n := 1) a (by decide) rfl (by kernel_rfl) (by kernel_rfl) (by kernel_rfl), b, c⟩
theorem bad_29 : BadRow "wall 0 0 +1" := by
  obtain ⟨a, b, c⟩ := goodB_of (s := "wall 0 0 +1") (xs := ["wall", "0", "0", "+1"]) (by decide +kernel)
  exact ⟨rowexc2 (W := .str "wall") (ns := [.str "0", .str "0", .str "+1"]) (bs := [.bl true, .bl true, .bl false]) (n := 3) a (by decide) rfl (by kernel_rfl) (by kernel_rfl) (by kernel_rfl), b, c⟩
end Ice

/-! data of ints, texts, None, by depth -/
namespace Ice
open PySem PySem.Spec PyProof.Rows L2
mutual
def txd : Nat → D → Bool
  | _, .int _ => true
  | _, .non => true
  | _, .str x => x.cps.all (· < 0x110000)
  | n + 1, .tup ds => txds n ds
  | n + 1, .lst ds => txds n ds
  | _, _ => false
def txds : Nat → List D → Bool
  | _, [] => true
  | n, d :: ds => txd n d && txds n ds
end
theorem txds_mem {n : Nat} : ∀ {ds : List D}, (∀ d ∈ ds, txd n d = true) → txds n ds = true
  | [], _ => rfl
  | d :: ds, h => by
    show (txd n d && txds n ds) = true
    rw [h d List.mem_cons_self, txds_mem fun e he => h e (List.mem_cons_of_mem _ he)]
    rfl
theorem txds_map {α : Type} {n : Nat} {xs : List α} {e : α → D} (h : ∀ x ∈ xs, txd n (e x) = true) : txds n (xs.map e) = true := txds_mem fun d hd => by
  obtain ⟨x, hx, rfl⟩ := List.mem_map.mp hd
  exact h x hx
theorem txds_of {n : Nat} : ∀ {ds : List D}, txds n ds = true → ∀ d ∈ ds, txd n d = true
  | [], _, _, hd => nomatch hd
  | e :: ds, h, d, hd => by
    have h' : (txd n e && txds n ds) = true := h
    rw [Bool.and_eq_true] at h'
    rcases List.mem_cons.mp hd with z | z
    · rw [z]; exact h'.1
    · exact txds_of h'.2 d z
mutual
theorem txd_lay : ∀ (n : Nat) (d : D), txd n d = true → (py d).canLay0 = true ∧ (py d).depth ≤ n
  | n, .int i, h => by cases n <;> exact ⟨rfl, Nat.zero_le _⟩
  | n, .non, h => by cases n <;> exact ⟨rfl, Nat.zero_le _⟩
  | n, .str x, h => by cases n <;> exact ⟨h, Nat.zero_le _⟩
  | n + 1, .tup ds, h => ⟨(txds_lay n ds h).1, Nat.succ_le_succ (txds_lay n ds h).2⟩
  | n + 1, .lst ds, h => ⟨(txds_lay n ds h).1, Nat.succ_le_succ (txds_lay n ds h).2⟩
  | 0, .tup ds, h => by cases h
  | 0, .lst ds, h => by cases h
  | n, .bl _, h => by cases n <;> cases h
  | n, .dic _ _, h => by cases n <;> cases h
  | n, .wt _, h => by cases n <;> cases h
  | n, .raw _, h => by cases n <;> cases h
  | n, .fz _, h => by cases n <;> cases h
theorem txds_lay : ∀ (n : Nat) (ds : List D), txds n ds = true → PyData.canLayAll0 (pys ds) = true ∧ PyData.depthAll (pys ds) ≤ n
  | n, [], h => ⟨rfl, Nat.zero_le _⟩
  | n, d :: ds, h => by
    have h' : (txd n d && txds n ds) = true := h
    rw [Bool.and_eq_true] at h'
    obtain ⟨a, b⟩ := txd_lay n d h'.1
    obtain ⟨c, e⟩ := txds_lay n ds h'.2
    refine ⟨?_, Nat.max_le.mpr ⟨b, e⟩⟩
    show (PyData.canLay0 (py d) && PyData.canLayAll0 (pys ds)) = true
    rw [a, c]
    rfl
end
theorem txd_sh {n : Nat} {d : D} (hn : n ≤ 64) (h : txd n d = true) : SeqAt.shaped (py d) = true := by
  obtain ⟨a, b⟩ := txd_lay n d h
  show ((py d).canLay0 && decide ((py d).depth ≤ 64)) = true
  rw [a, decide_eq_true (Nat.le_trans b hn)]
  rfl
mutual
theorem txd_eqv : ∀ (n : Nat) (x : D) (m : Nat) (y : D), txd n x = true → txd m y = true → (PyData.eqv (py x) (py y) = true ↔ x = y)
  | n, .int i, m, .int j, _, _ => by
    show (i == j) = true ↔ _
    rw [beq_iff_eq]
    exact ⟨fun h => by rw [h], fun h => by injection h⟩
  | n, .str i, m, .str j, _, _ => by
    show (i == j) = true ↔ _
    rw [beq_iff_eq]
    exact ⟨fun h => by rw [h], fun h => by injection h⟩
  | n, .non, m, .non, _, _ => ⟨fun _ => rfl, fun _ => rfl⟩
  | n + 1, .tup ds, m + 1, .tup es, h, g => by
    show PyData.eqvAll (pys ds) (pys es) = true ↔ _
    rw [txds_eqv n ds m es h g]
    exact ⟨fun h => by rw [h], fun h => by injection h⟩
  | n + 1, .lst ds, m + 1, .lst es, h, g => by
    show PyData.eqvAll (pys ds) (pys es) = true ↔ _
    rw [txds_eqv n ds m es h g]
    exact ⟨fun h => by rw [h], fun h => by injection h⟩
  | n, .non, m, .int y, _, _ => ⟨fun h => (by cases h), fun h => (by cases h)⟩
  | n, .non, m, .str y, _, _ => ⟨fun h => (by cases h), fun h => (by cases h)⟩
  | n, .non, m, .tup ys, _, _ => ⟨fun h => (by cases h), fun h => (by cases h)⟩
  | n, .non, m, .lst ys, _, _ => ⟨fun h => (by cases h), fun h => (by cases h)⟩
  | n, .int x, m, .non, _, _ => ⟨fun h => (by cases h), fun h => (by cases h)⟩
  | n, .int x, m, .str y, _, _ => ⟨fun h => (by cases h), fun h => (by cases h)⟩
  | n, .int x, m, .tup ys, _, _ => ⟨fun h => (by cases h), fun h => (by cases h)⟩
  | n, .int x, m, .lst ys, _, _ => ⟨fun h => (by cases h), fun h => (by cases h)⟩
  | n, .str x, m, .non, _, _ => ⟨fun h => (by cases h), fun h => (by cases h)⟩
  | n, .str x, m, .int y, _, _ => ⟨fun h => (by cases h), fun h => (by cases h)⟩
  | n, .str x, m, .tup ys, _, _ => ⟨fun h => (by cases h), fun h => (by cases h)⟩
  | n, .str x, m, .lst ys, _, _ => ⟨fun h => (by cases h), fun h => (by cases h)⟩
  | n + 1, .tup xs, m, .non, _, _ => ⟨fun h => (by cases h), fun h => (by cases h)⟩
  | n + 1, .tup xs, m, .int y, _, _ => ⟨fun h => (by cases h), fun h => (by cases h)⟩
  | n + 1, .tup xs, m, .str y, _, _ => ⟨fun h => (by cases h), fun h => (by cases h)⟩
  | n + 1, .tup xs, m, .lst ys, _, _ => ⟨fun h => (by cases h), fun h => (by cases h)⟩
  | n + 1, .lst xs, m, .non, _, _ => ⟨fun h => (by cases h), fun h => (by cases h)⟩
  | n + 1, .lst xs, m, .int y, _, _ => ⟨fun h => (by cases h), fun h => (by cases h)⟩
  | n + 1, .lst xs, m, .str y, _, _ => ⟨fun h => (by cases h), fun h => (by cases h)⟩
  | n + 1, .lst xs, m, .tup ys, _, _ => ⟨fun h => (by cases h), fun h => (by cases h)⟩
  | 0, .tup ds, _, _, h, _ => by cases h
  | 0, .lst ds, _, _, h, _ => by cases h
  | n + 1, .tup ds, 0, .tup es, h, g => by cases g
  | n + 1, .lst ds, 0, .lst es, h, g => by cases g
  | n, .bl _, _, _, h, _ => by cases n <;> cases h
  | n, .dic _ _, _, _, h, _ => by cases n <;> cases h
  | n, .wt _, _, _, h, _ => by cases n <;> cases h
  | n, .raw _, _, _, h, _ => by cases n <;> cases h
  | n, .fz _, _, _, h, _ => by cases n <;> cases h
  | n, _, m, .bl _, _, h => by cases m <;> cases h
  | n, _, m, .dic _ _, _, h => by cases m <;> cases h
  | n, _, m, .wt _, _, h => by cases m <;> cases h
  | n, _, m, .raw _, _, h => by cases m <;> cases h
  | n, _, m, .fz _, _, h => by cases m <;> cases h
theorem txds_eqv : ∀ (n : Nat) (xs : List D) (m : Nat) (ys : List D), txds n xs = true → txds m ys = true → (PyData.eqvAll (pys xs) (pys ys) = true ↔ xs = ys)
  | n, [], m, [], _, _ => ⟨fun _ => rfl, fun _ => rfl⟩
  | n, [], m, _ :: _, _, _ => ⟨fun h => (by cases h), fun h => (by cases h)⟩
  | n, _ :: _, m, [], _, _ => ⟨fun h => (by cases h), fun h => (by cases h)⟩
  | n, x :: xs, m, y :: ys, h, g => by
    have h' : (txd n x && txds n xs) = true := h
    have g' : (txd m y && txds m ys) = true := g
    rw [Bool.and_eq_true] at h' g'
    show (PyData.eqv (py x) (py y) && PyData.eqvAll (pys xs) (pys ys)) = true ↔ _
    rw [Bool.and_eq_true, txd_eqv n x m y h'.1 g'.1, txds_eqv n xs m ys h'.2 g'.2]
    exact ⟨fun h => by rw [h.1, h.2], fun h => by injection h with a b; exact ⟨a, b⟩⟩
end
theorem eqD_tx {x y : D} {n m : Nat} {b : Bool} (hn : n ≤ 64) (hm : m ≤ 64) (h : txd n x = true) (g : txd m y = true) (hb : b = true ↔ x = y) : eqD x y = some (.bl b) := by
  unfold eqD
  rw [if_pos ⟨txd_sh hn h, txd_sh hm g⟩]
  have := txd_eqv n x m y h g
  congr 2
  rw [Bool.eq_iff_iff, this, hb]
theorem neD_tx {x y : D} {n m : Nat} {b : Bool} (hn : n ≤ 64) (hm : m ≤ 64) (h : txd n x = true) (g : txd m y = true) (hb : b = true ↔ x = y) : neD x y = some (.bl (!b)) := by
  unfold neD
  rw [if_pos ⟨txd_sh hn h, txd_sh hm g⟩]
  have := txd_eqv n x m y h g
  congr 3
  rw [Bool.eq_iff_iff, this, hb]
theorem any_tx {x : D} {n m : Nat} (h : txd n x = true) : ∀ (ds : List D), (∀ d ∈ ds, txd m d = true) → (((pys ds).any fun z => PyData.eqv z (py x)) = true ↔ x ∈ ds)
  | [], _ => ⟨fun h => (by cases h), fun h => (by cases h)⟩
  | d :: ds, hd => by
    have ih := any_tx h ds fun e he => hd e (List.mem_cons_of_mem _ he)
    have hh := txd_eqv m d n x (hd d List.mem_cons_self) h
    show (PyData.eqv (py d) (py x) || (pys ds).any fun z => PyData.eqv z (py x)) = true ↔ _
    rw [Bool.or_eq_true, hh, ih, List.mem_cons]
    exact ⟨fun z => z.imp Eq.symm id, fun z => z.imp Eq.symm id⟩
theorem ninL_tx {x : D} {ds : List D} {n m : Nat} {b : Bool} (hn : n ≤ 64) (hm : m + 1 ≤ 64) (h : txd n x = true) (g : ∀ d ∈ ds, txd m d = true) (hb : b = true ↔ x ∈ ds) : ninL x (.lst ds) = some (.bl (!b)) := by
  have e : ninL x (.lst ds) = if SeqAt.shaped (py x) = true ∧ SeqAt.shaped (.list (pys ds)) = true then some (.bl (!(pys ds).any fun z => PyData.eqv z (py x))) else none := rfl
  have s2 : SeqAt.shaped (py (.lst ds)) = true := txd_sh hm (n := m + 1) (txds_mem g)
  rw [e, if_pos ⟨txd_sh hn h, s2⟩]
  have := any_tx h ds g
  congr 3
  rw [Bool.eq_iff_iff, this, hb]
end Ice

namespace Ice
open PySem PySem.Spec PyProof.Rows L2
/-! ### rows read, one by one -/
abbrev WRow := Str × List Int
def eWr (p : WRow) : D := .tup [.str p.1, eRow p.2]
abbrev wH : Str := Str.ofString "heats"
abbrev wR : Str := Str.ofString "row"
abbrev wW : Str := Str.ofString "wall"
def prs (h : Hs) : List WRow := (wH, h.heats) :: (h.cells.map (fun r => (wR, r)) ++ h.walls.map fun w => (wW, w3 w))
theorem lines_prs (h : Hs) : linesOf h = (prs h).map fun p => rowT p.1 p.2 := by
  unfold linesOf prs
  rw [List.map_cons, List.map_append, List.map_map, List.map_map]
  rfl
theorem b_HH : (wH == wH) = true := by decide +kernel
theorem b_RH : (wR == wH) = false := by decide +kernel
theorem b_WH : (wW == wH) = false := by decide +kernel
theorem b_HR : (wH == wR) = false := by decide +kernel
theorem b_RR : (wR == wR) = true := by decide +kernel
theorem b_WR : (wW == wR) = false := by decide +kernel
theorem b_HW : (wH == wW) = false := by decide +kernel
theorem b_RW : (wR == wW) = false := by decide +kernel
theorem b_WW : (wW == wW) = true := by decide +kernel
theorem filter_yes' {α : Type} {p : α → Bool} {xs : List α} (h : ∀ x ∈ xs, p x = true) : xs.filter p = xs := List.filter_eq_self.mpr h
theorem filter_no' {α : Type} {p : α → Bool} {xs : List α} (h : ∀ x ∈ xs, p x = false) : xs.filter p = [] := List.filter_eq_nil_iff.mpr fun x hx => by rw [h x hx]; exact Bool.false_ne_true
theorem behind_H (h : Hs) : ((prs h).filter fun p => p.1 == wH).map (fun p => eRow p.2) = [eRow h.heats] := by
  unfold prs
  rw [List.filter_cons_of_pos (p := fun p : WRow => p.1 == wH) (a := (wH, h.heats)) b_HH, List.filter_append, filter_no' fun x hx => by obtain ⟨r, _, rfl⟩ := List.mem_map.mp hx; exact b_RH, filter_no' fun x hx => by obtain ⟨r, _, rfl⟩ := List.mem_map.mp hx; exact b_WH]
  rfl
theorem behind_R (h : Hs) : ((prs h).filter fun p => p.1 == wR).map (fun p => eRow p.2) = h.cells.map eRow := by
  unfold prs
  rw [List.filter_cons_of_neg (p := fun p : WRow => p.1 == wR) (a := (wH, h.heats)) (by show ¬ (wH == wR) = true; rw [b_HR]; exact Bool.false_ne_true), List.filter_append, filter_yes' fun x hx => by obtain ⟨r, _, rfl⟩ := List.mem_map.mp hx; exact b_RR, filter_no' fun x hx => by obtain ⟨r, _, rfl⟩ := List.mem_map.mp hx; exact b_WR, List.append_nil, List.map_map]
  rfl
theorem behind_W (h : Hs) : ((prs h).filter fun p => p.1 == wW).map (fun p => eRow p.2) = h.walls.map eW := by
  unfold prs
  rw [List.filter_cons_of_neg (p := fun p : WRow => p.1 == wW) (a := (wH, h.heats)) (by show ¬ (wH == wW) = true; rw [b_HW]; exact Bool.false_ne_true), List.filter_append, filter_no' fun x hx => by obtain ⟨r, _, rfl⟩ := List.mem_map.mp hx; exact b_RW, filter_yes' fun x hx => by obtain ⟨r, _, rfl⟩ := List.mem_map.mp hx; exact b_WW, List.nil_append, List.map_map]
  rfl
theorem prs_ok {h : Hs} : ∀ p ∈ prs h, okS p.1 := fun p hp => by
  unfold prs at hp
  rcases List.mem_cons.mp hp with rfl | hp
  · exact okS_of _
  · rcases List.mem_append.mp hp with hp | hp
    · obtain ⟨r, _, rfl⟩ := List.mem_map.mp hp
      exact okS_of _
    · obtain ⟨r, _, rfl⟩ := List.mem_map.mp hp
      exact okS_of _
theorem prs_len {h : Hs} (o : Rows h) : (prs h).length ≤ 45 := by
  unfold prs
  rw [List.length_cons, List.length_append, List.length_map, List.length_map]
  have := o.n
  have := o.m
  omega
theorem prs_good {h : Hs} (o : Ok h) : ∀ p ∈ prs h, noC 32 p.1 ∧ noC 10 p.1 ∧ p.1.length ≤ 5 ∧ rowOk p.2 ∧ goodRow p.1 p.2 := fun p hp => by
  have ro := rows_of o
  have n1 : noC 32 wH ∧ noC 10 wH ∧ wH.length ≤ 5 := by unfold noC; decide +kernel
  have n2 : noC 32 wR ∧ noC 10 wR ∧ wR.length ≤ 5 := by unfold noC; decide +kernel
  have n3 : noC 32 wW ∧ noC 10 wW ∧ wW.length ≤ 5 := by unfold noC; decide +kernel
  unfold prs at hp
  rcases List.mem_cons.mp hp with rfl | hp
  · exact ⟨n1.1, n1.2.1, n1.2.2, ro.a, .inl ⟨rfl, o.hh.len⟩⟩
  · rcases List.mem_append.mp hp with hp | hp
    · obtain ⟨r, hr, rfl⟩ := List.mem_map.mp hp
      have wi := o.g.wi
      exact ⟨n2.1, n2.2.1, n2.2.2, ro.b r hr, .inr (.inl ⟨rfl, by show 0 < r.length; rw [o.g.all r hr]; omega⟩)⟩
    · obtain ⟨w, hw, rfl⟩ := List.mem_map.mp hp
      exact ⟨n3.1, n3.2.1, n3.2.2, ro.c w hw, .inr (.inr ⟨rfl, rfl⟩)⟩
theorem g_behind {ps : List WRow} {w : Str} (hw : okS w) (hl : ps.length ≤ 1000) (h : ∀ p ∈ ps, okS p.1) : G__numbers_behind [.str w, .lst (ps.map eWr)] = some (.tup ((ps.filter fun p => p.1 == w).map fun p => eRow p.2)) := by
  have e : mLc (itL (mV 1)) [2, 3] (.tp [(.nm 2), (.nm 3)]) (mB (m2 eqD (mV 2) (mV 0))) (mV 3) [some (.str w), some (.lst (ps.map eWr)), none, none] = some (.lst ((ps.filter fun p => p.1 == w).map fun p => eRow p.2)) :=
    mLc_filter eWr (fun p => eRow p.2) (fun p => p.1 == w) ps rfl (by omega) fun p hp => ⟨_, rfl, by
      have := eq_strs (h p hp) hw
      show ((eqD (.str p.1) (.str w)).bind fun d => match d with | .bl b => some b | _ => none) = _
      rw [this]
      rfl, fun _ => rfl⟩
  generalize D.lst (ps.map eWr) = L at *
  unfold G__numbers_behind
  refine run_rt (S := [.dat (.str w), .dat L, .un, .un]) ?_
  unfold mr__numbers_behind sRet
  have e2 : mA tupF (aCons (mLc (itL (mV 1)) [2, 3] (.tp [(.nm 2), (.nm 3)]) (mB (m2 eqD (mV 2) (mV 0))) (mV 3)) aNil) (op (initS 4 [.str w, L])) = some (.tup ((ps.filter fun p => p.1 == w).map fun p => eRow p.2)) := mA_1 e rfl
  rw [e2]
  rfl
theorem rep_one {α : Type} (x : α) : ∀ n, (List.replicate n [x]).flatten = List.replicate n x
  | 0 => rfl
  | n + 1 => by rw [List.replicate_succ, List.flatten_cons, rep_one x n, List.replicate_succ]; rfl
theorem map_const' {α β : Type} (y : β) : ∀ (xs : List α), xs.map (fun _ => y) = List.replicate xs.length y
  | [] => rfl
  | x :: xs => by rw [List.map_cons, map_const' y xs, List.length_cons, List.replicate_succ]
theorem words_m {C W : D} {S : Sd} {n m : Nat} (hn : n ≤ 100) (hm : m ≤ 100) (h4 : mV 4 S = some C) (h5 : mV 5 S = some W) (l4 : lenA [C] = some (.int (n : Nat))) (l5 : lenA [W] = some (.int (m : Nat))) :
    m2 addD (m2 addD (mA lstD (aCons (mC (.str "heats")) aNil)) (m2 repD (mA lstD (aCons (mC (.str "row")) aNil)) (mA lenA (aCons (mV 4) aNil)))) (m2 repD (mA lstD (aCons (mC (.str "wall")) aNil)) (mA lenA (aCons (mV 5) aNil))) S = some (.lst (([D.str wH] ++ List.replicate n (D.str wR)) ++ List.replicate m (D.str wW))) := by
  have a1 : m2 repD (mA lstD (aCons (mC (.str "row")) aNil)) (mA lenA (aCons (mV 4) aNil)) S = some (.lst (List.replicate n (D.str wR))) := by
    have := mA_1 h4 l4
    unfold m2
    rw [this]
    show (if (0 : Int) ≤ (n : Int) ∧ (n : Int) ≤ 1000 ∧ [D.str wR].length * (n : Int).toNat ≤ 1000000 then some (D.lst (List.replicate (n : Int).toNat [D.str wR]).flatten) else none) = _
    rw [if_pos ⟨by omega, by omega, by show 1 * (n : Int).toNat ≤ 1000000; omega⟩, Int.toNat_natCast, rep_one]
  have a2 : m2 repD (mA lstD (aCons (mC (.str "wall")) aNil)) (mA lenA (aCons (mV 5) aNil)) S = some (.lst (List.replicate m (D.str wW))) := by
    have := mA_1 h5 l5
    unfold m2
    rw [this]
    show (if (0 : Int) ≤ (m : Int) ∧ (m : Int) ≤ 1000 ∧ [D.str wW].length * (m : Int).toNat ≤ 1000000 then some (D.lst (List.replicate (m : Int).toNat [D.str wW]).flatten) else none) = _
    rw [if_pos ⟨by omega, by omega, by show 1 * (m : Int).toNat ≤ 1000000; omega⟩, Int.toNat_natCast, rep_one]
  have a3 : m2 addD (mA lstD (aCons (mC (.str "heats")) aNil)) (m2 repD (mA lstD (aCons (mC (.str "row")) aNil)) (mA lenA (aCons (mV 4) aNil))) S = some (.lst ([D.str wH] ++ List.replicate n (D.str wR))) := by
    unfold m2 at a1 ⊢
    rw [a1]
    show (if [D.str wH].length + (List.replicate n (D.str wR)).length ≤ 1000000 then some (D.lst ([D.str wH] ++ List.replicate n (D.str wR))) else none) = _
    rw [if_pos (by rw [List.length_replicate]; show 1 + n ≤ 1000000; omega)]
  unfold m2 at a2 a3 ⊢
  rw [a3, a2]
  show (if ([D.str wH] ++ List.replicate n (D.str wR)).length + (List.replicate m (D.str wW)).length ≤ 1000000 then some (D.lst (([D.str wH] ++ List.replicate n (D.str wR)) ++ List.replicate m (D.str wW))) else none) = _
  rw [if_pos (by rw [List.length_append, List.length_replicate, List.length_replicate]; show 1 + n + m ≤ 1000000; omega)]

def Fine (p : WRow) : Prop := noC 32 p.1 ∧ noC 10 p.1 ∧ p.1.length ≤ 5 ∧ rowOk p.2 ∧ goodRow p.1 p.2 ∧ okS p.1
def FineS (s : Str) : Prop := ∃ p, Fine p ∧ s = rowT p.1 p.2
theorem le_readrow : LfG G__read_row GE__read_row := le_run (le_seq le_p (le_seq (le_if le_never le_next) (le_seq (le_if le_never le_next) le_p)))
theorem ge_readrow {p : WRow} (f : Fine p) : GE__read_row [.str (rowT p.1 p.2)] = some (.val (eWr p)) := le_readrow _ _ (g_readrow f.1 f.2.2.1 f.2.2.2.1 f.2.2.2.2.1)
theorem fine_10 {p : WRow} (f : Fine p) : noC 10 (rowT p.1 p.2) := by
  unfold rowT
  refine noC_join (by unfold noC; decide +kernel) fun y hy => ?_
  rcases List.mem_cons.mp hy with rfl | hy
  · exact f.2.1
  · obtain ⟨i, hi, rfl⟩ := List.mem_map.mp hy
    exact noC_wS (f.2.2.2.1.2 i hi).1 (by decide)
theorem fine_len {p : WRow} (f : Fine p) : (rowT p.1 p.2).length ≤ 36 := (row_join f.2.2.1 f.2.2.2.1).2
theorem one_at {k : List D → Option Re} {T d : D} {r : Re} (h : k [d] = some r) : (asg (.nm 2) d (wipeD [some T, none, none, none, none, none, none, none, none] [2])).bind (fun S1 => (aCons (mV 2) aNil S1).bind fun ds => guardE 1 k ds) = some r := h
theorem comp_exc {T : D} : ∀ (L : List Str), (∀ s ∈ L, FineS s ∨ BadRow s) → (∃ s ∈ L, BadRow s) → compE [2] (.nm 2) (guardE 1 GE__read_row) (aCons (mV 2) aNil) [some T, none, none, none, none, none, none, none, none] (L.map .str) = some (.inl "BadText")
  | [], _, h => by
    obtain ⟨_, z, _⟩ := h
    cases z
  | s :: L, h, hb => by
    show ((GE__read_row [.str s]).bind fun x => match x with
      | .exc c => some (Sum.inl c)
      | .val y => (compE [2] (.nm 2) (guardE 1 GE__read_row) (aCons (mV 2) aNil) [some T, none, none, none, none, none, none, none, none] (L.map .str)).map fun z => match z with
        | .inl c => .inl c
        | .inr ys => .inr (y :: ys)) = _
    rcases h s List.mem_cons_self with ⟨p, f, rfl⟩ | b
    · rw [ge_readrow f]
      by_cases c : BadRow (rowT p.1 p.2)
      · have := c.1
        rw [ge_readrow f] at this
        cases this
      · have ih := comp_exc (T := T) L (fun s hs => h s (List.mem_cons_of_mem _ hs)) (by
          obtain ⟨s, hs, b⟩ := hb
          rcases List.mem_cons.mp hs with rfl | hs
          · exact absurd b c
          · exact ⟨s, hs, b⟩)
        simp only [Option.bind_some, ih, Option.map_some]
    · rw [b.1]
      rfl
theorem comp_val {T : D} : ∀ (ps : List WRow), (∀ p ∈ ps, Fine p) → compE [2] (.nm 2) (guardE 1 GE__read_row) (aCons (mV 2) aNil) [some T, none, none, none, none, none, none, none, none] ((ps.map fun p => rowT p.1 p.2).map .str) = some (.inr (ps.map eWr))
  | [], _ => rfl
  | p :: ps, h => by
    have ih := comp_val (T := T) ps fun q hq => h q (List.mem_cons_of_mem _ hq)
    have e := ge_readrow (h p List.mem_cons_self)
    show ((GE__read_row [.str (rowT p.1 p.2)]).bind fun x => match x with
      | .exc c => some (Sum.inl c)
      | .val y => (compE [2] (.nm 2) (guardE 1 GE__read_row) (aCons (mV 2) aNil) [some T, none, none, none, none, none, none, none, none] ((ps.map fun p => rowT p.1 p.2).map .str)).map fun z => match z with
        | .inl c => .inl c
        | .inr ys => .inr (y :: ys)) = _
    rw [e]
    simp only [Option.bind_some, ih, Option.map_some]
    rfl
/-- the lines of a text -/
theorem lines_at {L : List Str} (hne : L ≠ []) (h : ∀ s ∈ L, noC 10 s ∧ s.length ≤ 36) (hl : L.length ≤ 60) : joinD (.str "\n") (.lst (L.map .str)) = some (.str (Txt.join ("\n" : Str) L)) ∧ itL (m2 splitD (mV 0) (mC (.str "\n"))) [some (.str (Txt.join ("\n" : Str) L)), none, none, none, none, none, none, none, none] = some (L.map .str) := by
  obtain ⟨j1, j2⟩ := join_ok (s := ("\n" : Str)) (xs := L) (b := 36) (n := 60) (fun x hx => (h x hx).2) hl (by decide) (by decide)
  refine ⟨j1, ?_⟩
  have sp : Txt.split (Txt.join ("\n" : Str) L) ("\n" : Str) = L := split_join (c := 10) (by decide) hne fun x hx => (h x hx).1
  show (if (("\n" : Str).length == 0) = false ∧ (Txt.join ("\n" : Str) L).length ≤ 1000000 ∧ (Txt.split (Txt.join ("\n" : Str) L) ("\n" : Str)).length ≤ 1000000 then some (D.lst ((Txt.split (Txt.join ("\n" : Str) L) ("\n" : Str)).map .str)) else none).bind (fun d => match d with | .lst ds => some ds | _ => none) = _
  rw [sp, if_pos ⟨rfl, by omega, by omega⟩]
  rfl
/-! ### read -/
theorem read_exc1 {T : D} {ds : List D} {c : Str} (h1 : itL (m2 splitD (mV 0) (mC (.str "\n"))) [some T, none, none, none, none, none, none, none, none] = some ds) (hl : ds.length ≤ 1000000) (h2 : compE [2] (.nm 2) (guardE 1 GE__read_row) (aCons (mV 2) aNil) [some T, none, none, none, none, none, none, none, none] ds = some (.inl c)) : GE_read [T] = some (.exc c) := by
  unfold GE_read
  refine runE_of (o := .rx c (initS 9 [T])) ?_ rfl
  unfold mrE_read
  refine eSeq_rx ?_
  unfold eSetLc
  have h1' : itL (m2 splitD (mV 0) (mC (.str "\n"))) (cl (initS 9 [T])) = some ds := h1
  have h2' : compE [2] (.nm 2) (guardE 1 GE__read_row) (aCons (mV 2) aNil) (cl (initS 9 [T])) ds = some (.inl c) := h2
  rw [h1']
  show (if ds.length ≤ 1000000 then _ else none) = _
  rw [if_pos hl, h2']
  rfl
theorem read_on {T RS HS C W W1 W2 : D} {ds rs : List D} {b : Bool} (h1 : itL (m2 splitD (mV 0) (mC (.str "\n"))) [some T, none, none, none, none, none, none, none, none] = some ds) (hl : ds.length ≤ 1000000) (h2 : compE [2] (.nm 2) (guardE 1 GE__read_row) (aCons (mV 2) aNil) [some T, none, none, none, none, none, none, none, none] ds = some (.inr rs)) (hRS : RS = .lst rs)
    (n1 : G__numbers_behind [.str wH, RS] = some HS) (n2 : G__numbers_behind [.str wR, RS] = some C) (n3 : G__numbers_behind [.str wW, RS] = some W)
    (e2 : mLc (itL (mV 1)) [6, 7] (.tp [(.nm 6), (.nm 7)]) mYes (mV 6) [some T, some RS, none, some HS, some C, some W, none, none, none] = some W1)
    (e3 : m2 addD (m2 addD (mA lstD (aCons (mC (.str "heats")) aNil)) (m2 repD (mA lstD (aCons (mC (.str "row")) aNil)) (mA lenA (aCons (mV 4) aNil)))) (m2 repD (mA lstD (aCons (mC (.str "wall")) aNil)) (mA lenA (aCons (mV 5) aNil))) [some T, some RS, none, some HS, some C, some W, none, none, none] = some W2)
    (ne : neD W1 W2 = some (.bl b)) {r : Re} (fin : if b = true then r = .exc "BadText" else ∃ R n, ixD HS (.int 0) = some R ∧ GE_need_house [.tup [R, C, W]] = some n ∧ r = (match n with | .exc c => .exc c | .val _ => .val (.tup [R, C, W]))) : GE_read [T] = some r := by
  have hd : (eSeq (eSetLc 1 (itL (m2 splitD (mV 0) (mC (.str "\n")))) [2] (.nm 2) (guardE 1 GE__read_row) (aCons (mV 2) aNil)) = eSeq (eSetLc 1 (itL (m2 splitD (mV 0) (mC (.str "\n")))) [2] (.nm 2) (guardE 1 GE__read_row) (aCons (mV 2) aNil))) := rfl
  have s1 : eSetLc 1 (itL (m2 splitD (mV 0) (mC (.str "\n")))) [2] (.nm 2) (guardE 1 GE__read_row) (aCons (mV 2) aNil) (initS 9 [T]) = some (.o (.nx [.dat T, .dat RS, .un, .un, .un, .un, .un, .un, .un])) := by
    unfold eSetLc
    have h1' : itL (m2 splitD (mV 0) (mC (.str "\n"))) (cl (initS 9 [T])) = some ds := h1
    have h2' : compE [2] (.nm 2) (guardE 1 GE__read_row) (aCons (mV 2) aNil) (cl (initS 9 [T])) ds = some (.inr rs) := h2
    rw [h1']
    show (if ds.length ≤ 1000000 then _ else none) = _
    rw [if_pos hl, h2', hRS]
    rfl
  clear h1 h2 hl hd
  have s2 : eP (sSet 3 (mA (guardN 2 G__numbers_behind) (aCons (mC (.str "heats")) (aCons (mV 1) aNil)))) [.dat T, .dat RS, .un, .un, .un, .un, .un, .un, .un] = some (.o (.nx [.dat T, .dat RS, .un, .dat HS, .un, .un, .un, .un, .un])) := eP_of (by simp (config := { decide := false }) only [runF, initS, sSeq, sIf, sRet, sRetN, sSet, sSetF, sSetO, sDrop, sNext, sNever, sUnp, sUnpF, sApp, sAppF, sLend, sAugI, asgL_nm, asgL_tp, asgL_wt, asgsL_nil, asgsL_cons, asg_nm, asg_tp, asgs_nil, asgs_cons, wipeD, mAnd, mOr, mNot, mB, mTr, m2, m1, mV, mC, mA, mCh, mAndV, mOrV, aCons, aNil, guardN, op, cl, fl, opn, clos, flt, eqD_int, neD_int, gtD, ltD, leD, geD, addD, subD, negD, tupD, lstD, tupF, lstF, outD, notD, tru, isD, isnD, isN, flat_tp, flat_in, flat_bo, flat_no, flats_nl, flats_cn,
  List.map_cons, List.map_nil, List.length_cons, List.length_nil, List.replicate, List.getElem?_cons_zero, List.getElem?_cons_succ, List.getElem?_nil, List.cons_append, List.nil_append, Option.bind_some, Option.bind_none, Option.bind_assoc, Option.map_some, Option.map_none, Nat.reduceAdd, Nat.reduceSub, Nat.reduceLeDiff, List.set_cons_zero, List.set_cons_succ, if_true, if_false, ite_true, ite_false, reduceCtorEq, Bool.false_eq_true, Bool.not_true, Bool.not_false, ↓reduceIte, eq_self, n1])
  have s3 : eP (sSet 4 (mA (guardN 2 G__numbers_behind) (aCons (mC (.str "row")) (aCons (mV 1) aNil)))) [.dat T, .dat RS, .un, .dat HS, .un, .un, .un, .un, .un] = some (.o (.nx [.dat T, .dat RS, .un, .dat HS, .dat C, .un, .un, .un, .un])) := eP_of (by simp (config := { decide := false }) only [runF, initS, sSeq, sIf, sRet, sRetN, sSet, sSetF, sSetO, sDrop, sNext, sNever, sUnp, sUnpF, sApp, sAppF, sLend, sAugI, asgL_nm, asgL_tp, asgL_wt, asgsL_nil, asgsL_cons, asg_nm, asg_tp, asgs_nil, asgs_cons, wipeD, mAnd, mOr, mNot, mB, mTr, m2, m1, mV, mC, mA, mCh, mAndV, mOrV, aCons, aNil, guardN, op, cl, fl, opn, clos, flt, eqD_int, neD_int, gtD, ltD, leD, geD, addD, subD, negD, tupD, lstD, tupF, lstF, outD, notD, tru, isD, isnD, isN, flat_tp, flat_in, flat_bo, flat_no, flats_nl, flats_cn,
  List.map_cons, List.map_nil, List.length_cons, List.length_nil, List.replicate, List.getElem?_cons_zero, List.getElem?_cons_succ, List.getElem?_nil, List.cons_append, List.nil_append, Option.bind_some, Option.bind_none, Option.bind_assoc, Option.map_some, Option.map_none, Nat.reduceAdd, Nat.reduceSub, Nat.reduceLeDiff, List.set_cons_zero, List.set_cons_succ, if_true, if_false, ite_true, ite_false, reduceCtorEq, Bool.false_eq_true, Bool.not_true, Bool.not_false, ↓reduceIte, eq_self, n2])
  have s4 : eP (sSet 5 (mA (guardN 2 G__numbers_behind) (aCons (mC (.str "wall")) (aCons (mV 1) aNil)))) [.dat T, .dat RS, .un, .dat HS, .dat C, .un, .un, .un, .un] = some (.o (.nx [.dat T, .dat RS, .un, .dat HS, .dat C, .dat W, .un, .un, .un])) := eP_of (by simp (config := { decide := false }) only [runF, initS, sSeq, sIf, sRet, sRetN, sSet, sSetF, sSetO, sDrop, sNext, sNever, sUnp, sUnpF, sApp, sAppF, sLend, sAugI, asgL_nm, asgL_tp, asgL_wt, asgsL_nil, asgsL_cons, asg_nm, asg_tp, asgs_nil, asgs_cons, wipeD, mAnd, mOr, mNot, mB, mTr, m2, m1, mV, mC, mA, mCh, mAndV, mOrV, aCons, aNil, guardN, op, cl, fl, opn, clos, flt, eqD_int, neD_int, gtD, ltD, leD, geD, addD, subD, negD, tupD, lstD, tupF, lstF, outD, notD, tru, isD, isnD, isN, flat_tp, flat_in, flat_bo, flat_no, flats_nl, flats_cn,
  List.map_cons, List.map_nil, List.length_cons, List.length_nil, List.replicate, List.getElem?_cons_zero, List.getElem?_cons_succ, List.getElem?_nil, List.cons_append, List.nil_append, Option.bind_some, Option.bind_none, Option.bind_assoc, Option.map_some, Option.map_none, Nat.reduceAdd, Nat.reduceSub, Nat.reduceLeDiff, List.set_cons_zero, List.set_cons_succ, if_true, if_false, ite_true, ite_false, reduceCtorEq, Bool.false_eq_true, Bool.not_true, Bool.not_false, ↓reduceIte, eq_self, n3])
  have cnd : mB (m2 neD (mLc (itL (mV 1)) [6, 7] (.tp [(.nm 6), (.nm 7)]) mYes (mV 6)) (m2 addD (m2 addD (mA lstD (aCons (mC (.str "heats")) aNil)) (m2 repD (mA lstD (aCons (mC (.str "row")) aNil)) (mA lenA (aCons (mV 4) aNil)))) (m2 repD (mA lstD (aCons (mC (.str "wall")) aNil)) (mA lenA (aCons (mV 5) aNil))))) (op [.dat T, .dat RS, .un, .dat HS, .dat C, .dat W, .un, .un, .un]) = some b := mB_of (m2_of e2 e3 ne)
  unfold GE_read
  cases b with
  | true =>
    rw [if_pos rfl] at fin
    subst fin
    refine runE_of (o := .rx "BadText" [.dat T, .dat RS, .un, .dat HS, .dat C, .dat W, .un, .un, .un]) ?_ rfl
    unfold mrE_read
    refine (eSeq_nx s1).trans ((eSeq_nx s2).trans ((eSeq_nx s3).trans ((eSeq_nx s4).trans (eSeq_rx ?_))))
    rw [eIf_of cnd]
    rfl
  | false =>
    rw [if_neg Bool.false_ne_true] at fin
    obtain ⟨R, n, i0, hn, rfl⟩ := fin
    have s5 : eIf (mB (m2 neD (mLc (itL (mV 1)) [6, 7] (.tp [(.nm 6), (.nm 7)]) mYes (mV 6)) (m2 addD (m2 addD (mA lstD (aCons (mC (.str "heats")) aNil)) (m2 repD (mA lstD (aCons (mC (.str "row")) aNil)) (mA lenA (aCons (mV 4) aNil)))) (m2 repD (mA lstD (aCons (mC (.str "wall")) aNil)) (mA lenA (aCons (mV 5) aNil)))))) (eRaise "BadText" []) eNext [.dat T, .dat RS, .un, .dat HS, .dat C, .dat W, .un, .un, .un] = some (.o (.nx [.dat T, .dat RS, .un, .dat HS, .dat C, .dat W, .un, .un, .un])) := by
      rw [eIf_of cnd]
      rfl
    have s6 : eP (sSet 8 (mA tupD (aCons (m2 ixD (mV 3) (mC (.int 0))) (aCons (mV 4) (aCons (mV 5) aNil))))) [.dat T, .dat RS, .un, .dat HS, .dat C, .dat W, .un, .un, .un] = some (.o (.nx [.dat T, .dat RS, .un, .dat HS, .dat C, .dat W, .un, .un, .dat (.tup [R, C, W])])) := eP_of (by simp (config := { decide := false }) only [runF, initS, sSeq, sIf, sRet, sRetN, sSet, sSetF, sSetO, sDrop, sNext, sNever, sUnp, sUnpF, sApp, sAppF, sLend, sAugI, asgL_nm, asgL_tp, asgL_wt, asgsL_nil, asgsL_cons, asg_nm, asg_tp, asgs_nil, asgs_cons, wipeD, mAnd, mOr, mNot, mB, mTr, m2, m1, mV, mC, mA, mCh, mAndV, mOrV, aCons, aNil, guardN, op, cl, fl, opn, clos, flt, eqD_int, neD_int, gtD, ltD, leD, geD, addD, subD, negD, tupD, lstD, tupF, lstF, outD, notD, tru, isD, isnD, isN, flat_tp, flat_in, flat_bo, flat_no, flats_nl, flats_cn,
  List.map_cons, List.map_nil, List.length_cons, List.length_nil, List.replicate, List.getElem?_cons_zero, List.getElem?_cons_succ, List.getElem?_nil, List.cons_append, List.nil_append, Option.bind_some, Option.bind_none, Option.bind_assoc, Option.map_some, Option.map_none, Nat.reduceAdd, Nat.reduceSub, Nat.reduceLeDiff, List.set_cons_zero, List.set_cons_succ, if_true, if_false, ite_true, ite_false, reduceCtorEq, Bool.false_eq_true, Bool.not_true, Bool.not_false, ↓reduceIte, eq_self, i0])
    have gn : guardE 1 GE_need_house [.tup [R, C, W]] = some n := hn
    cases n with
    | exc c =>
      refine runE_of (o := .rx c [.dat T, .dat RS, .un, .dat HS, .dat C, .dat W, .un, .un, .dat (.tup [R, C, W])]) ?_ rfl
      unfold mrE_read
      exact (eSeq_nx s1).trans ((eSeq_nx s2).trans ((eSeq_nx s3).trans ((eSeq_nx s4).trans ((eSeq_nx s5).trans ((eSeq_nx s6).trans (eSeq_rx (eDrop_exc (ds := [.tup [R, C, W]]) rfl gn)))))))
    | val d =>
      refine runE_of (o := .o (.rt (.tup [R, C, W]) [.dat T, .dat RS, .un, .dat HS, .dat C, .dat W, .un, .un, .dat (.tup [R, C, W])])) ?_ rfl
      unfold mrE_read
      exact (eSeq_nx s1).trans ((eSeq_nx s2).trans ((eSeq_nx s3).trans ((eSeq_nx s4).trans ((eSeq_nx s5).trans ((eSeq_nx s6).trans ((eSeq_nx (eDrop_val (ds := [.tup [R, C, W]]) rfl gn)).trans (eP_of rfl)))))))
end Ice

namespace Ice
open PySem PySem.Spec PyProof.Rows L2
/-! ### whole texts -/
def want (ws : List Str) : List Str := ([wH] ++ List.replicate (ws.filter fun w => w == wR).length wR) ++ List.replicate (ws.filter fun w => w == wW).length wW
theorem tx_strs {ws : List Str} (h : ∀ w ∈ ws, okS w) : txd 1 (.lst (ws.map .str)) = true := txds_map (n := 0) fun w hw => by
  show w.cps.all (fun c => decide (c < 0x110000)) = true
  rw [Array.all_eq_true']
  intro c hc
  exact decide_eq_true (h w hw c (Array.mem_toList_iff.mpr hc))
theorem str_inj : ∀ {xs ys : List Str}, xs.map D.str = ys.map D.str → xs = ys
  | [], [], _ => rfl
  | [], _ :: _, h => nomatch h
  | _ :: _, [], h => nomatch h
  | x :: xs, y :: ys, h => by
    injection h with a b
    injection a with a
    rw [a, str_inj b]
theorem ne_of_words {xs ys : List Str} (h : ∀ w ∈ xs, okS w) (g : ∀ w ∈ ys, okS w) : neD (.lst (xs.map .str)) (.lst (ys.map .str)) = some (.bl (!decide (xs = ys))) :=
  neD_tx (n := 1) (m := 1) (by decide) (by decide) (tx_strs h) (tx_strs g) (by
    rw [decide_eq_true_iff]
    exact ⟨fun e => by rw [e], fun e => by
      injection e with e
      exact str_inj e⟩)
theorem want_ok (ws : List Str) : ∀ w ∈ want ws, okS w := fun w hw => by
  unfold want at hw
  rcases List.mem_append.mp hw with hw | hw
  · rcases List.mem_append.mp hw with hw | hw
    · rw [List.mem_singleton.mp hw]; exact okS_of _
    · rw [List.eq_of_mem_replicate hw]; exact okS_of _
  · rw [List.eq_of_mem_replicate hw]; exact okS_of _
abbrev wds (ps : List WRow) : List Str := ps.map fun p => p.1
def txt (ps : List WRow) : D := .str (Txt.join ("\n" : Str) (ps.map fun p => rowT p.1 p.2))
def pick (w : Str) (ps : List WRow) : List D := (ps.filter fun p => p.1 == w).map fun p => eRow p.2
theorem pick_len (w : Str) (ps : List WRow) : (pick w ps).length = ((wds ps).filter fun v => v == w).length := by
  unfold pick
  rw [List.length_map, List.filter_map, List.length_map]
  rfl
theorem read_ps {ps : List WRow} (hne : ps ≠ []) (hf : ∀ p ∈ ps, Fine p) (hl : ps.length ≤ 60) {r : Re}
    (fin : if (!decide (wds ps = want (wds ps))) = true then r = .exc "BadText" else ∃ R n, ixD (.tup (pick wH ps)) (.int 0) = some R ∧ GE_need_house [.tup [R, .tup (pick wR ps), .tup (pick wW ps)]] = some n ∧ r = (match n with | .exc c => .exc c | .val _ => .val (.tup [R, .tup (pick wR ps), .tup (pick wW ps)]))) : GE_read [txt ps] = some r := by
  obtain ⟨j1, j2⟩ := lines_at (L := ps.map fun p => rowT p.1 p.2) (fun z => hne (List.map_eq_nil_iff.mp z)) (fun s hs => by
    obtain ⟨p, hp, rfl⟩ := List.mem_map.mp hs
    exact ⟨fine_10 (hf p hp), fine_len (hf p hp)⟩) (by rw [List.length_map]; exact hl)
  have ok : ∀ p ∈ ps, okS p.1 := fun p hp => (hf p hp).2.2.2.2.2
  have n1 : G__numbers_behind [.str wH, .lst (ps.map eWr)] = some (.tup (pick wH ps)) := g_behind (okS_of _) (by omega) ok
  have n2 : G__numbers_behind [.str wR, .lst (ps.map eWr)] = some (.tup (pick wR ps)) := g_behind (okS_of _) (by omega) ok
  have n3 : G__numbers_behind [.str wW, .lst (ps.map eWr)] = some (.tup (pick wW ps)) := g_behind (okS_of _) (by omega) ok
  have l2 := pick_len wR ps
  have l3 := pick_len wW ps
  have b2 := List.length_filter_le (fun v => v == wR) (wds ps)
  have b3 := List.length_filter_le (fun v => v == wW) (wds ps)
  rw [List.length_map] at b2 b3
  have e3 := words_m (C := .tup (pick wR ps)) (W := .tup (pick wW ps)) (S := [some (txt ps), some (.lst (ps.map eWr)), none, some (.tup (pick wH ps)), some (.tup (pick wR ps)), some (.tup (pick wW ps)), none, none, none]) (n := (pick wR ps).length) (m := (pick wW ps).length) (by omega) (by omega) rfl rfl rfl rfl
  have ew : ([D.str wH] ++ List.replicate (pick wR ps).length (D.str wR)) ++ List.replicate (pick wW ps).length (D.str wW) = (want (wds ps)).map .str := by
    unfold want
    rw [List.map_append, List.map_append, List.map_replicate, List.map_replicate, l2, l3]
    rfl
  rw [ew] at e3
  refine read_on (b := !decide (wds ps = want (wds ps))) (W1 := .lst ((wds ps).map .str)) (W2 := .lst ((want (wds ps)).map .str)) j2 (by rw [List.length_map, List.length_map]; omega) (comp_val ps hf) rfl n1 n2 n3 ?_ e3 (ne_of_words (fun w hw => ?_) (want_ok _)) fin
  · rw [List.map_map]
    exact mLc_map eWr (fun p => D.str p.1) ps rfl (by omega) fun p hp => ⟨_, rfl, rfl⟩
  · obtain ⟨p, hp, rfl⟩ := List.mem_map.mp hw
    exact ok p hp
/-! ### the law's word for a text -/
def tabW : Str → Option D := fun c => if c = "BadHouse" then some (.str "house") else if c = "NoSuch" then some (.str "other") else if c = "BadDeeds" then some (.str "other") else if c = "BadPlan" then some (.str "other") else if c = "BadText" then some (.str "text") else none
theorem tab_t : tabW "BadText" = some (.str "text") := by
  unfold tabW
  simp only [exNe, if_false, if_true]
theorem tab_h : tabW "BadHouse" = some (.str "house") := by
  unfold tabW
  simp only [if_true]
theorem lw_exc {Ls T : D} {c : Str} {w : D} (h1 : joinD (.str "\n") Ls = some T) (h2 : GE_read [T] = some (.exc c)) (ht : tabW c = some w) : G__law_word [Ls] = some w := by
  unfold G__law_word
  refine run_rt (S := [.un, .un, .un, .un]) ?_
  unfold mr__law_word
  refine sSeq_rt ?_
  have hm : aCons (m2 joinD (mC (.str "\n")) (mV 0)) aNil (op (initS 4 [Ls])) = some [T] := aC1 (m2_of (x := .str "\n") (y := Ls) rfl rfl h1)
  have e : eDrop (guardE 1 GE_read) (aCons (m2 joinD (mC (.str "\n")) (mV 0)) aNil) (initS 4 [Ls]) = some (.rx c (initS 4 [Ls])) := eDrop_exc hm (show guardE 1 GE_read [T] = _ from h2)
  unfold sTryR
  rw [e]
  show (if (initS 4 [Ls]).length = 4 ∧ 1 < 4 then _ else none) = _
  rw [if_pos ⟨rfl, by decide⟩]
  show (tabW c).map _ = _
  rw [ht]
  rfl
theorem lw_val {Ls T d : D} (h1 : joinD (.str "\n") Ls = some T) (h2 : GE_read [T] = some (.val d)) : G__law_word [Ls] = some (.str "read") := by
  unfold G__law_word
  refine run_rt (S := initS 4 [Ls]) ?_
  unfold mr__law_word
  have hm : aCons (m2 joinD (mC (.str "\n")) (mV 0)) aNil (op (initS 4 [Ls])) = some [T] := aC1 (m2_of (x := .str "\n") (y := Ls) rfl rfl h1)
  have e : eDrop (guardE 1 GE_read) (aCons (m2 joinD (mC (.str "\n")) (mV 0)) aNil) (initS 4 [Ls]) = some (.o (.nx (initS 4 [Ls]))) := eDrop_val hm (show guardE 1 GE_read [T] = _ from h2)
  refine (sSeq_nx (S1 := initS 4 [Ls]) ?_).trans rfl
  unfold sTryR
  rw [e]
  rfl
theorem word_bad {L : List Str} (h : ∀ s ∈ L, FineS s ∨ BadRow s) (hb : ∃ s ∈ L, BadRow s) (hl : L.length ≤ 60) : G__law_word [.lst (L.map .str)] = some (.str "text") := by
  obtain ⟨j1, j2⟩ := lines_at (L := L) (fun z => by
    obtain ⟨s, hs, _⟩ := hb
    rw [z] at hs
    cases hs) (fun s hs => by
    rcases h s hs with ⟨p, f, rfl⟩ | b
    · exact ⟨fine_10 f, fine_len f⟩
    · exact b.2) hl
  exact lw_exc j1 (read_exc1 j2 (by rw [List.length_map]; omega) (comp_exc L h hb)) tab_t
theorem join_ps {ps : List WRow} (hne : ps ≠ []) (hf : ∀ p ∈ ps, Fine p) (hl : ps.length ≤ 60) : joinD (.str "\n") (.lst ((ps.map fun p => rowT p.1 p.2).map .str)) = some (txt ps) := by
  refine (lines_at (L := ps.map fun p => rowT p.1 p.2) (fun z => hne (List.map_eq_nil_iff.mp z)) (fun s hs => ?_) (by rw [List.length_map]; exact hl)).1
  obtain ⟨p, hp, rfl⟩ := List.mem_map.mp hs
  exact ⟨fine_10 (hf p hp), fine_len (hf p hp)⟩
theorem word_order {ps : List WRow} (hne : ps ≠ []) (hf : ∀ p ∈ ps, Fine p) (hl : ps.length ≤ 60) (h : wds ps ≠ want (wds ps)) : G__law_word [.lst ((ps.map fun p => rowT p.1 p.2).map .str)] = some (.str "text") := by
  refine lw_exc (join_ps hne hf hl) (read_ps hne hf hl (r := .exc "BadText") ?_) tab_t
  rw [decide_eq_false h, if_pos (show (!false) = true from rfl)]
theorem word_house {ps : List WRow} {R : D} (hne : ps ≠ []) (hf : ∀ p ∈ ps, Fine p) (hl : ps.length ≤ 60) (h : wds ps = want (wds ps)) (h1 : ixD (.tup (pick wH ps)) (.int 0) = some R) (h2 : GE_need_house [.tup [R, .tup (pick wR ps), .tup (pick wW ps)]] = some (.exc "BadHouse")) : G__law_word [.lst ((ps.map fun p => rowT p.1 p.2).map .str)] = some (.str "house") := by
  refine lw_exc (join_ps hne hf hl) (read_ps hne hf hl (r := .exc "BadHouse") ?_) tab_h
  rw [decide_eq_true h, if_neg (by decide)]
  exact ⟨R, _, h1, h2, rfl⟩
theorem word_read {ps : List WRow} {R d : D} (hne : ps ≠ []) (hf : ∀ p ∈ ps, Fine p) (hl : ps.length ≤ 60) (h : wds ps = want (wds ps)) (h1 : ixD (.tup (pick wH ps)) (.int 0) = some R) (h2 : GE_need_house [.tup [R, .tup (pick wR ps), .tup (pick wW ps)]] = some (.val d)) : G__law_word [.lst ((ps.map fun p => rowT p.1 p.2).map .str)] = some (.str "read") := by
  refine lw_val (d := .tup [R, .tup (pick wR ps), .tup (pick wW ps)]) (join_ps hne hf hl) (read_ps hne hf hl ?_)
  rw [decide_eq_true h, if_neg (by decide)]
  exact ⟨R, _, h1, h2, rfl⟩
end Ice

namespace Ice
open PySem PySem.Spec PyProof.Rows L2
/-! ### good rows of no house; houses -/
instance (p : WRow) : Decidable (Fine p) := by
  unfold Fine noC rowOk goodRow okS
  infer_instance
theorem of_lines {ps : List WRow} {L : List Str} (h : (ps.map fun p => rowT p.1 p.2) = L) {w : D} (g : G__law_word [.lst ((ps.map fun p => rowT p.1 p.2).map .str)] = some w) : G__law_word [.lst (L.map .str)] = some w := by
  rw [h] at g
  exact g
theorem case_0 : G__law_word [.lst ((["heats 1 2 3 4 5"] : List Str).map .str)] = some (.str "house") := of_lines (ps := [(wH, [1, 2, 3, 4, 5])]) (by decide +kernel) (word_house (R := .tup [.int 1, .int 2, .int 3, .int 4, .int 5]) (by decide) (by decide +kernel) (by decide) (by decide +kernel) (by kernel_rfl) (by kernel_rfl))
theorem case_1 : G__law_word [.lst ((["heats 1 2 3 4 5", "row 5", "row 5 5"] : List Str).map .str)] = some (.str "house") := of_lines (ps := [(wH, [1, 2, 3, 4, 5]), (wR, [5]), (wR, [5, 5])]) (by decide +kernel) (word_house (R := .tup [.int 1, .int 2, .int 3, .int 4, .int 5]) (by decide) (by decide +kernel) (by decide) (by decide +kernel) (by kernel_rfl) (by kernel_rfl))
theorem case_2 : G__law_word [.lst ((["heats 1 2 3 4 5", "row 5", "row 5", "row 5", "row 5", "row 5"] : List Str).map .str)] = some (.str "house") := of_lines (ps := [(wH, [1, 2, 3, 4, 5]), (wR, [5]), (wR, [5]), (wR, [5]), (wR, [5]), (wR, [5])]) (by decide +kernel) (word_house (R := .tup [.int 1, .int 2, .int 3, .int 4, .int 5]) (by decide) (by decide +kernel) (by decide) (by decide +kernel) (by kernel_rfl) (by kernel_rfl))
theorem case_3 : G__law_word [.lst ((["heats 1 2 3 4 5", "row 5 5 5 5 5"] : List Str).map .str)] = some (.str "house") := of_lines (ps := [(wH, [1, 2, 3, 4, 5]), (wR, [5, 5, 5, 5, 5])]) (by decide +kernel) (word_house (R := .tup [.int 1, .int 2, .int 3, .int 4, .int 5]) (by decide) (by decide +kernel) (by decide) (by decide +kernel) (by kernel_rfl) (by kernel_rfl))
theorem case_4 : G__law_word [.lst ((["heats 10 0 0 0 0", "row 5"] : List Str).map .str)] = some (.str "house") := of_lines (ps := [(wH, [10, 0, 0, 0, 0]), (wR, [5])]) (by decide +kernel) (word_house (R := .tup [.int 10, .int 0, .int 0, .int 0, .int 0]) (by decide) (by decide +kernel) (by decide) (by decide +kernel) (by kernel_rfl) (by kernel_rfl))
theorem case_5 : G__law_word [.lst ((["heats 1 2 3 4 5", "row 5", "wall 0 0 4"] : List Str).map .str)] = some (.str "house") := of_lines (ps := [(wH, [1, 2, 3, 4, 5]), (wR, [5]), (wW, [0, 0, 4])]) (by decide +kernel) (word_house (R := .tup [.int 1, .int 2, .int 3, .int 4, .int 5]) (by decide) (by decide +kernel) (by decide) (by decide +kernel) (by kernel_rfl) (by kernel_rfl))
theorem case_6 : G__law_word [.lst ((["heats 1 2 3 4 5", "row 5", "wall 0 0 1", "wall 0 0 1"] : List Str).map .str)] = some (.str "house") := of_lines (ps := [(wH, [1, 2, 3, 4, 5]), (wR, [5]), (wW, [0, 0, 1]), (wW, [0, 0, 1])]) (by decide +kernel) (word_house (R := .tup [.int 1, .int 2, .int 3, .int 4, .int 5]) (by decide) (by decide +kernel) (by decide) (by decide +kernel) (by kernel_rfl) (by kernel_rfl))
theorem case_7 : G__law_word [.lst ((["heats 1 2 3 4 5", "row 5", "row 6", "wall 0 0 2", "wall 1 0 0"] : List Str).map .str)] = some (.str "house") := of_lines (ps := [(wH, [1, 2, 3, 4, 5]), (wR, [5]), (wR, [6]), (wW, [0, 0, 2]), (wW, [1, 0, 0])]) (by decide +kernel) (word_house (R := .tup [.int 1, .int 2, .int 3, .int 4, .int 5]) (by decide) (by decide +kernel) (by decide) (by decide +kernel) (by kernel_rfl) (by kernel_rfl))
theorem case_8 : G__law_word [.lst ((["heats 1 2 3 4 5", "wall 0 0 0"] : List Str).map .str)] = some (.str "house") := of_lines (ps := [(wH, [1, 2, 3, 4, 5]), (wW, [0, 0, 0])]) (by decide +kernel) (word_house (R := .tup [.int 1, .int 2, .int 3, .int 4, .int 5]) (by decide) (by decide +kernel) (by decide) (by decide +kernel) (by kernel_rfl) (by kernel_rfl))
theorem case_9 : G__law_word [.lst ((["heats 1 2 3 4 5", "row 5"] : List Str).map .str)] = some (.str "read") := of_lines (ps := [(wH, [1, 2, 3, 4, 5]), (wR, [5])]) (by decide +kernel) (word_read (R := .tup [.int 1, .int 2, .int 3, .int 4, .int 5]) (d := .non) (by decide) (by decide +kernel) (by decide) (by decide +kernel) (by kernel_rfl) (by kernel_rfl))
theorem case_10 : G__law_word [.lst ((["heats 1 2 3 4 5", "row 9999 0", "wall 0 0 1", "wall 0 0 0"] : List Str).map .str)] = some (.str "read") := of_lines (ps := [(wH, [1, 2, 3, 4, 5]), (wR, [9999, 0]), (wW, [0, 0, 1]), (wW, [0, 0, 0])]) (by decide +kernel) (word_read (R := .tup [.int 1, .int 2, .int 3, .int 4, .int 5]) (d := .non) (by decide) (by decide +kernel) (by decide) (by decide +kernel) (by kernel_rfl) (by kernel_rfl))
end Ice

namespace Ice
open PySem PySem.Spec PyProof.Rows L2
/-! ### rows in another order -/
theorem prs_fine {h : Hs} (o : Ok h) : ∀ p ∈ prs h, Fine p := fun p hp => by
  obtain ⟨a, b, c, d, e⟩ := prs_good o p hp
  exact ⟨a, b, c, d, e, prs_ok p hp⟩
theorem wds_prs (h : Hs) : wds (prs h) = wH :: (List.replicate h.cells.length wR ++ List.replicate h.walls.length wW) := by
  unfold wds prs
  rw [List.map_cons, List.map_append, List.map_map, List.map_map, ← map_const' wR h.cells, ← map_const' wW h.walls]
  rfl
theorem ne_HR : wH ≠ wR := by decide +kernel
theorem ne_HW : wH ≠ wW := by decide +kernel
theorem ne_RW : wR ≠ wW := by decide +kernel
theorem order_head {ws : List Str} {v : Str} (hd : ws.head? = some v) (ne : wH ≠ v) : ws ≠ want ws := fun e => by
  have := congrArg List.head? e
  rw [hd] at this
  have h2 : some v = some wH := this
  cases h2
  exact ne rfl
theorem order_last {ws : List Str} {v : Str} (hd : ws.getLast? = some v) (ne : v ≠ wW) (hw : 0 < (ws.filter fun w => w == wW).length) : ws ≠ want ws := fun e => by
  have := congrArg List.getLast? e
  rw [hd] at this
  unfold want at this
  rw [List.getLast?_append, List.getLast?_replicate, if_neg (by omega)] at this
  have h2 : some v = some wW := this
  cases h2
  exact ne rfl
theorem order_len {ws : List Str} (hl : ws.length ≠ 1 + (ws.filter fun w => w == wR).length + (ws.filter fun w => w == wW).length) : ws ≠ want ws := fun e => by
  have := congrArg List.length e
  unfold want at this
  rw [List.length_append, List.length_append, List.length_replicate, List.length_replicate] at this
  exact hl this
theorem order_two {a : Str} {ws : List Str} (hw : 0 < ((wH :: a :: ws).filter fun w => w == wR).length) (ne : a ≠ wR) : wH :: a :: ws ≠ want (wH :: a :: ws) := fun e => by
  obtain ⟨n, hn⟩ := Nat.exists_eq_succ_of_ne_zero (Nat.ne_of_gt hw)
  unfold want at e
  rw [hn, List.replicate_succ] at e
  injection e with _ e
  injection e with e _
  exact ne e
theorem head_rep {α : Type} {n : Nat} {x : α} {l : List α} (h : 0 < n) : (List.replicate n x ++ l).head? = some x := by
  obtain ⟨m, rfl⟩ := Nat.exists_eq_succ_of_ne_zero (Nat.ne_of_gt h)
  rfl
theorem cntR (R W : Nat) : ((List.replicate R wR ++ List.replicate W wW).filter fun w => w == wR).length = R ∧ ((List.replicate R wR ++ List.replicate W wW).filter fun w => w == wW).length = W := by
  constructor
  · rw [List.filter_append, filter_yes' fun x hx => by rw [List.eq_of_mem_replicate hx]; exact b_RR, filter_no' fun x hx => by rw [List.eq_of_mem_replicate hx]; exact b_WR, List.append_nil, List.length_replicate]
  · rw [List.filter_append, filter_no' fun x hx => by rw [List.eq_of_mem_replicate hx]; exact b_RW, filter_yes' fun x hx => by rw [List.eq_of_mem_replicate hx]; exact b_WW, List.nil_append, List.length_replicate]
theorem filt_H {l : List Str} {w : Str} (h : (wH == w) = false) : ((wH :: l).filter fun v => v == w) = l.filter fun v => v == w := List.filter_cons_of_neg (by show ¬ (wH == w) = true; rw [h]; exact Bool.false_ne_true)
abbrev pH1 : WRow := (wH, [1, 1, 1, 1, 1])
abbrev pR5 : WRow := (wR, [5])
abbrev pW0 : WRow := (wW, [0, 0, 0])
abbrev rws (ps : List WRow) : List Str := ps.map fun p => rowT p.1 p.2
theorem rw_H1 : rowT pH1.1 pH1.2 = "heats 1 1 1 1 1" := by decide +kernel
theorem rw_R5 : rowT pR5.1 pR5.2 = "row 5" := by decide +kernel
theorem rw_W0 : rowT pW0.1 pW0.2 = "wall 0 0 0" := by decide +kernel
theorem f_H1 : Fine pH1 := by decide +kernel
theorem f_R5 : Fine pR5 := by decide +kernel
theorem f_W0 : Fine pW0 := by decide +kernel
/-- a list of texts -/
abbrev LS (L : List Str) : D := .lst (L.map .str)
abbrev Tells (L : List Str) : Prop := G__law_word [LS L] = some (.str "text")
section
variable {h : Hs}
theorem t3 (o : Ok h) : Tells ((rws (prs h)).drop 1) := by
  have hi := o.g.hi
  have pl := prs_len (rows_of o)
  have e : (rws (prs h)).drop 1 = rws ((prs h).drop 1) := List.map_drop.symm
  have w : wds ((prs h).drop 1) = List.replicate h.cells.length wR ++ List.replicate h.walls.length wW := by
    have : wds ((prs h).drop 1) = (wds (prs h)).drop 1 := List.map_drop
    rw [this, wds_prs]
    rfl
  have hh : (wds ((prs h).drop 1)).head? = some wR := by rw [w]; exact head_rep (by omega)
  rw [e]
  refine word_order (fun z => ?_) (fun p hp => prs_fine o p (List.mem_of_mem_drop hp)) (by rw [List.length_drop]; omega) (order_head hh ne_HR)
  rw [z] at hh
  cases hh
theorem t4 (o : Ok h) : Tells ((rws (prs h)).take 1 ++ rws (prs h)) := by
  have hi := o.g.hi
  have pl := prs_len (rows_of o)
  have e : (rws (prs h)).take 1 ++ rws (prs h) = rws ((wH, h.heats) :: prs h) := rfl
  rw [e]
  refine word_order (List.cons_ne_nil _ _) (fun p hp => ?_) (by rw [List.length_cons]; omega) ?_
  · rcases List.mem_cons.mp hp with rfl | hp
    · exact prs_fine o _ List.mem_cons_self
    · exact prs_fine o p hp
  · have w : wds ((wH, h.heats) :: prs h) = wH :: wds (prs h) := rfl
    rw [w, wds_prs]
    refine order_two ?_ ne_HR
    rw [filt_H b_HR, filt_H b_HR, (cntR _ _).1]
    omega
theorem t5 (o : Ok h) : Tells ((rws (prs h)).drop 1 ++ (rws (prs h)).take 1) := by
  have hi := o.g.hi
  have pl := prs_len (rows_of o)
  have e : (rws (prs h)).drop 1 ++ (rws (prs h)).take 1 = rws ((prs h).drop 1 ++ [(wH, h.heats)]) := by
    have : rws ((prs h).drop 1 ++ [(wH, h.heats)]) = rws ((prs h).drop 1) ++ rws [(wH, h.heats)] := List.map_append
    rw [this]
    rfl
  have w : wds ((prs h).drop 1 ++ [(wH, h.heats)]) = List.replicate h.cells.length wR ++ (List.replicate h.walls.length wW ++ [wH]) := by
    have a : wds ((prs h).drop 1) = (wds (prs h)).drop 1 := List.map_drop
    have : wds ((prs h).drop 1 ++ [(wH, h.heats)]) = wds ((prs h).drop 1) ++ [wH] := List.map_append
    rw [this, a, wds_prs]
    show List.replicate h.cells.length wR ++ List.replicate h.walls.length wW ++ [wH] = _
    rw [List.append_assoc]
  rw [e]
  refine word_order (fun z => by cases List.append_eq_nil_iff.mp z with | intro a b => cases b) (fun p hp => ?_) (by rw [List.length_append, List.length_drop]; show (prs h).length - 1 + 1 ≤ 60; omega) (order_head (v := wR) (by rw [w]; exact head_rep (by omega)) ne_HR)
  rcases List.mem_append.mp hp with hp | hp
  · exact prs_fine o p (List.mem_of_mem_drop hp)
  · rw [List.mem_singleton.mp hp]
    exact prs_fine o _ List.mem_cons_self
theorem t6 (o : Ok h) : Tells (rws (prs h) ++ [("heats 1 1 1 1 1" : Str)]) := by
  have pl := prs_len (rows_of o)
  have e : rws (prs h) ++ [("heats 1 1 1 1 1" : Str)] = rws (prs h ++ [pH1]) := by
    have : rws (prs h ++ [pH1]) = rws (prs h) ++ [rowT pH1.1 pH1.2] := List.map_append
    rw [this, rw_H1]
  rw [e]
  refine word_order (fun z => by cases List.append_eq_nil_iff.mp z with | intro a b => cases b) (fun p hp => ?_) (by rw [List.length_append]; show (prs h).length + 1 ≤ 60; omega) (order_len ?_)
  · rcases List.mem_append.mp hp with hp | hp
    · exact prs_fine o p hp
    · rw [List.mem_singleton.mp hp]; exact f_H1
  · have w : wds (prs h ++ [pH1]) = wH :: (List.replicate h.cells.length wR ++ List.replicate h.walls.length wW) ++ [wH] := by
      have : wds (prs h ++ [pH1]) = wds (prs h) ++ [wH] := List.map_append
      rw [this, wds_prs]
    have c := cntR h.cells.length h.walls.length
    have s1 : ([wH].filter fun w => w == wR) = [] := by decide +kernel
    have s2 : ([wH].filter fun w => w == wW) = [] := by decide +kernel
    rw [w, List.filter_append, List.filter_append, filt_H b_HR, filt_H b_HW, s1, s2, List.append_nil, List.append_nil, c.1, c.2, List.length_append, List.length_cons, List.length_append, List.length_replicate, List.length_replicate]
    show h.cells.length + h.walls.length + 1 + 1 ≠ _
    omega
theorem t7 (o : Ok h) (hw : 0 < h.walls.length) : Tells (rws (prs h) ++ [("row 5" : Str)]) := by
  have pl := prs_len (rows_of o)
  have e : rws (prs h) ++ [("row 5" : Str)] = rws (prs h ++ [pR5]) := by
    have : rws (prs h ++ [pR5]) = rws (prs h) ++ [rowT pR5.1 pR5.2] := List.map_append
    rw [this, rw_R5]
  rw [e]
  have w : wds (prs h ++ [pR5]) = wH :: (List.replicate h.cells.length wR ++ List.replicate h.walls.length wW) ++ [wR] := by
    have : wds (prs h ++ [pR5]) = wds (prs h) ++ [wR] := List.map_append
    rw [this, wds_prs]
  refine word_order (fun z => by cases List.append_eq_nil_iff.mp z with | intro a b => cases b) (fun p hp => ?_) (by rw [List.length_append]; show (prs h).length + 1 ≤ 60; omega) (order_last (v := wR) (by rw [w]; exact List.getLast?_concat) ne_RW ?_)
  · rcases List.mem_append.mp hp with hp | hp
    · exact prs_fine o p hp
    · rw [List.mem_singleton.mp hp]; exact f_R5
  · rw [w, List.filter_append, filt_H b_HW, List.length_append, (cntR _ _).2]
    omega
theorem t8 (o : Ok h) : Tells ([("row 5" : Str)] ++ rws (prs h)) := by
  have pl := prs_len (rows_of o)
  have e : [("row 5" : Str)] ++ rws (prs h) = rws (pR5 :: prs h) := by
    show _ = rowT pR5.1 pR5.2 :: rws (prs h)
    rw [rw_R5]
    rfl
  rw [e]
  refine word_order (List.cons_ne_nil _ _) (fun p hp => ?_) (by rw [List.length_cons]; omega) (order_head (v := wR) rfl ne_HR)
  rcases List.mem_cons.mp hp with rfl | hp
  · exact f_R5
  · exact prs_fine o p hp
theorem t9 (o : Ok h) : Tells ([("wall 0 0 0" : Str)] ++ rws (prs h)) := by
  have pl := prs_len (rows_of o)
  have e : [("wall 0 0 0" : Str)] ++ rws (prs h) = rws (pW0 :: prs h) := by
    show _ = rowT pW0.1 pW0.2 :: rws (prs h)
    rw [rw_W0]
    rfl
  rw [e]
  refine word_order (List.cons_ne_nil _ _) (fun p hp => ?_) (by rw [List.length_cons]; omega) (order_head (v := wW) rfl ne_HW)
  rcases List.mem_cons.mp hp with rfl | hp
  · exact f_W0
  · exact prs_fine o p hp
theorem rws_fine (o : Ok h) : ∀ s ∈ rws (prs h), FineS s := fun s hs => by
  obtain ⟨p, hp, rfl⟩ := List.mem_map.mp hs
  exact ⟨p, prs_fine o p hp, rfl⟩
/-- a bad row between -/
theorem t_bad (o : Ok h) {s : Str} (b : BadRow s) {A B : List Str} (hA : ∀ x ∈ A, x ∈ rws (prs h)) (hB : ∀ x ∈ B, x ∈ rws (prs h)) (hl : A.length + B.length ≤ 59) : Tells (A ++ [s] ++ B) := by
  refine word_bad (fun x hx => ?_) ⟨s, List.mem_append_left _ (List.mem_append_right _ (List.mem_singleton.mpr rfl)), b⟩ (by rw [List.length_append, List.length_append]; show A.length + 1 + B.length ≤ 60; omega)
  rcases List.mem_append.mp hx with hx | hx
  · rcases List.mem_append.mp hx with hx | hx
    · exact .inl (rws_fine o x (hA x hx))
    · rw [List.mem_singleton.mp hx]; exact .inr b
  · exact .inl (rws_fine o x (hB x hx))
end
theorem t11 : Tells [""] := word_bad (fun x hx => by rw [List.mem_singleton.mp hx]; exact .inr bad_0) ⟨"", List.mem_singleton.mpr rfl, bad_0⟩ (by decide)
/-! ### the rows that are none; the texts at the end -/
def badL : List Str := ["", " ", "heats", "heats 1 2 3 4", "heats 1 2 3 4 5 6", "heats 1 2 3 4 x", "heats 01 2 3 4 5", "heat 1 2 3 4 5", "row", "row ", "row 05", "row 5 ", "row  5", "row 12345", "row -1", "row x", "Row 5", "rows 5", "5 5", "wall", "wall 0 0", "wall 0 0 0 0", "wall 0 0 x", "wall 0 0 -1", "walls 0 0 0", " wall 0 0 0", "wall 0 00 0", "row +5", "row 5_0", "wall 0 0 +1"]
theorem badL_all : ∀ s ∈ badL, BadRow s := List.forall_mem_cons.mpr ⟨bad_0, List.forall_mem_cons.mpr ⟨bad_1, List.forall_mem_cons.mpr ⟨bad_2, List.forall_mem_cons.mpr ⟨bad_3, List.forall_mem_cons.mpr ⟨bad_4, List.forall_mem_cons.mpr ⟨bad_5, List.forall_mem_cons.mpr ⟨bad_6, List.forall_mem_cons.mpr ⟨bad_7, List.forall_mem_cons.mpr ⟨bad_8, List.forall_mem_cons.mpr ⟨bad_9, List.forall_mem_cons.mpr ⟨bad_10, List.forall_mem_cons.mpr ⟨bad_11, List.forall_mem_cons.mpr ⟨bad_12, List.forall_mem_cons.mpr ⟨bad_13, List.forall_mem_cons.mpr ⟨bad_14, List.forall_mem_cons.mpr ⟨bad_15, List.forall_mem_cons.mpr ⟨bad_16, List.forall_mem_cons.mpr ⟨bad_17, List.forall_mem_cons.mpr ⟨bad_18, List.forall_mem_cons.mpr ⟨bad_19, List.forall_mem_cons.mpr ⟨bad_20, List.forall_mem_cons.mpr ⟨bad_21, List.forall_mem_cons.mpr ⟨bad_22, List.forall_mem_cons.mpr ⟨bad_23, List.forall_mem_cons.mpr ⟨bad_24, List.forall_mem_cons.mpr ⟨bad_25, List.forall_mem_cons.mpr ⟨bad_26, List.forall_mem_cons.mpr ⟨bad_27, List.forall_mem_cons.mpr ⟨bad_28, List.forall_mem_cons.mpr ⟨bad_29, List.forall_mem_nil _⟩⟩⟩⟩⟩⟩⟩⟩⟩⟩⟩⟩⟩⟩⟩⟩⟩⟩⟩⟩⟩⟩⟩⟩⟩⟩⟩⟩⟩⟩
def somD : List D := [.tup [LS ["heats 1 2 3 4 5"], .str "house"], .tup [LS ["heats 1 2 3 4 5", "row 5", "row 5 5"], .str "house"], .tup [LS ["heats 1 2 3 4 5", "row 5", "row 5", "row 5", "row 5", "row 5"], .str "house"], .tup [LS ["heats 1 2 3 4 5", "row 5 5 5 5 5"], .str "house"], .tup [LS ["heats 10 0 0 0 0", "row 5"], .str "house"], .tup [LS ["heats 1 2 3 4 5", "row 5", "wall 0 0 4"], .str "house"], .tup [LS ["heats 1 2 3 4 5", "row 5", "wall 0 0 1", "wall 0 0 1"], .str "house"], .tup [LS ["heats 1 2 3 4 5", "row 5", "row 6", "wall 0 0 2", "wall 1 0 0"], .str "house"], .tup [LS ["heats 1 2 3 4 5", "wall 0 0 0"], .str "house"], .tup [LS ["heats 1 2 3 4 5", "row 5"], .str "read"], .tup [LS ["heats 1 2 3 4 5", "row 9999 0", "wall 0 0 1", "wall 0 0 0"], .str "read"]]
theorem somD_all : ∀ d ∈ somD, ∃ (A : D) (w : Str), d = .tup [A, .str w] ∧ okS w ∧ G__law_word [A] = some (.str w) := List.forall_mem_cons.mpr ⟨⟨_, "house", rfl, okS_of _, case_0⟩, List.forall_mem_cons.mpr ⟨⟨_, "house", rfl, okS_of _, case_1⟩, List.forall_mem_cons.mpr ⟨⟨_, "house", rfl, okS_of _, case_2⟩, List.forall_mem_cons.mpr ⟨⟨_, "house", rfl, okS_of _, case_3⟩, List.forall_mem_cons.mpr ⟨⟨_, "house", rfl, okS_of _, case_4⟩, List.forall_mem_cons.mpr ⟨⟨_, "house", rfl, okS_of _, case_5⟩, List.forall_mem_cons.mpr ⟨⟨_, "house", rfl, okS_of _, case_6⟩, List.forall_mem_cons.mpr ⟨⟨_, "house", rfl, okS_of _, case_7⟩, List.forall_mem_cons.mpr ⟨⟨_, "house", rfl, okS_of _, case_8⟩, List.forall_mem_cons.mpr ⟨⟨_, "read", rfl, okS_of _, case_9⟩, List.forall_mem_cons.mpr ⟨⟨_, "read", rfl, okS_of _, case_10⟩, List.forall_mem_nil _⟩⟩⟩⟩⟩⟩⟩⟩⟩⟩⟩
theorem l_bad (x : Int) : ∃ s, G__law_bad_row [.int x] = some (.str s) ∧ BadRow s := by
  have p0 := Int.emod_nonneg x (b := 30) (by decide)
  have p1 := Int.emod_lt_of_pos x (b := 30) (by decide)
  obtain ⟨k, hk⟩ : ∃ k : Nat, (k : Int) = x % 30 := ⟨(x % 30).toNat, Int.toNat_of_nonneg p0⟩
  have hl : badL.length = 30 := rfl
  have hx : badL[k]? = some badL[k] := List.getElem?_eq_getElem (by omega)
  have e1 : ixD (.lst (badL.map .str)) (.int (x % 30)) = some (.str badL[k]) := by
    rw [← hk]
    exact atI_nat (by rw [List.getElem?_map, hx]; rfl)
  have e2 : modD (.int x) (.int 30) = some (.int (x % 30)) := by
    unfold modD
    exact if_pos (by decide)
  refine ⟨badL[k], ?_, badL_all _ (List.getElem_mem _)⟩
  unfold G__law_bad_row
  refine run_rt (S := [.dat (.int x), .dat (.lst (badL.map .str))]) ?_
  unfold mr__law_bad_row
  refine (sSeq_nx (S1 := [.dat (.int x), .dat (.lst [.str "", .str " ", .str "heats", .str "heats 1 2 3 4", .str "heats 1 2 3 4 5 6", .str "heats 1 2 3 4 x"])]) rfl).trans ?_
  refine (sSeq_nx (S1 := [.dat (.int x), .dat (.lst [.str "", .str " ", .str "heats", .str "heats 1 2 3 4", .str "heats 1 2 3 4 5 6", .str "heats 1 2 3 4 x", .str "heats 01 2 3 4 5", .str "heat 1 2 3 4 5"])]) rfl).trans ?_
  refine (sSeq_nx (S1 := [.dat (.int x), .dat (.lst [.str "", .str " ", .str "heats", .str "heats 1 2 3 4", .str "heats 1 2 3 4 5 6", .str "heats 1 2 3 4 x", .str "heats 01 2 3 4 5", .str "heat 1 2 3 4 5", .str "row", .str "row ", .str "row 05", .str "row 5 ", .str "row  5", .str "row 12345"])]) rfl).trans ?_
  refine (sSeq_nx (S1 := [.dat (.int x), .dat (.lst [.str "", .str " ", .str "heats", .str "heats 1 2 3 4", .str "heats 1 2 3 4 5 6", .str "heats 1 2 3 4 x", .str "heats 01 2 3 4 5", .str "heat 1 2 3 4 5", .str "row", .str "row ", .str "row 05", .str "row 5 ", .str "row  5", .str "row 12345", .str "row -1", .str "row x", .str "Row 5", .str "rows 5", .str "5 5"])]) rfl).trans ?_
  refine (sSeq_nx (S1 := [.dat (.int x), .dat (.lst [.str "", .str " ", .str "heats", .str "heats 1 2 3 4", .str "heats 1 2 3 4 5 6", .str "heats 1 2 3 4 x", .str "heats 01 2 3 4 5", .str "heat 1 2 3 4 5", .str "row", .str "row ", .str "row 05", .str "row 5 ", .str "row  5", .str "row 12345", .str "row -1", .str "row x", .str "Row 5", .str "rows 5", .str "5 5", .str "wall", .str "wall 0 0", .str "wall 0 0 0 0", .str "wall 0 0 x"])]) rfl).trans ?_
  refine (sSeq_nx (S1 := [.dat (.int x), .dat (.lst [.str "", .str " ", .str "heats", .str "heats 1 2 3 4", .str "heats 1 2 3 4 5 6", .str "heats 1 2 3 4 x", .str "heats 01 2 3 4 5", .str "heat 1 2 3 4 5", .str "row", .str "row ", .str "row 05", .str "row 5 ", .str "row  5", .str "row 12345", .str "row -1", .str "row x", .str "Row 5", .str "rows 5", .str "5 5", .str "wall", .str "wall 0 0", .str "wall 0 0 0 0", .str "wall 0 0 x", .str "wall 0 0 -1", .str "walls 0 0 0", .str " wall 0 0 0", .str "wall 0 00 0"])]) rfl).trans ?_
  refine (sSeq_nx (S1 := [.dat (.int x), .dat (.lst [.str "", .str " ", .str "heats", .str "heats 1 2 3 4", .str "heats 1 2 3 4 5 6", .str "heats 1 2 3 4 x", .str "heats 01 2 3 4 5", .str "heat 1 2 3 4 5", .str "row", .str "row ", .str "row 05", .str "row 5 ", .str "row  5", .str "row 12345", .str "row -1", .str "row x", .str "Row 5", .str "rows 5", .str "5 5", .str "wall", .str "wall 0 0", .str "wall 0 0 0 0", .str "wall 0 0 x", .str "wall 0 0 -1", .str "walls 0 0 0", .str " wall 0 0 0", .str "wall 0 00 0", .str "row +5", .str "row 5_0", .str "wall 0 0 +1"])]) rfl).trans ?_
  have e3 : m2 ixD (mV 1) (m2 modD (mV 0) (mC (.int 30))) (op [.dat (.int x), .dat (.lst (badL.map .str))]) = some (.str badL[k]) := m2_of (x := .lst (badL.map .str)) rfl (m2_of (x := .int x) (y := .int 30) rfl rfl e2) e1
  show sRet (m2 ixD (mV 1) (m2 modD (mV 0) (mC (.int 30)))) [.dat (.int x), .dat (.lst (badL.map .str))] = _
  unfold sRet
  rw [e3]
  rfl
end Ice

namespace Ice
open PySem PySem.Spec PyProof.Rows L2
/-! ### the law -/
theorem cut_to {xs : List D} {k : Nat} : cutD xs none (some (k : Int)) = xs.take k := by
  unfold cutD
  rw [HT.sIx_none, HT.sIx_nat, List.drop_zero, Nat.sub_zero]
  by_cases h : k ≤ xs.length
  · rw [Nat.min_eq_left h]
  · rw [Nat.min_eq_right (by omega), List.take_length, List.take_of_length_le (by omega)]
theorem cut_from {xs : List D} {k : Nat} : cutD xs (some (k : Int)) none = xs.drop k := by
  unfold cutD
  rw [HT.sIx_none, HT.sIx_nat]
  by_cases h : k ≤ xs.length
  · rw [Nat.min_eq_left h]
    exact List.take_of_length_le (by rw [List.length_drop]; omega)
  · rw [Nat.min_eq_right (by omega), List.drop_length, List.drop_of_length_le (by omega)]
    exact List.take_nil
theorem take_LS (L : List Str) (k : Nat) : (L.map D.str).take k = (L.take k).map D.str := List.map_take.symm
theorem drop_LS (L : List Str) (k : Nat) : (L.map D.str).drop k = (L.drop k).map D.str := List.map_drop.symm
theorem to_m {m mk : Mi} {S : Sd} {L : List Str} {k : Nat} (h1 : m S = some (LS L)) (h2 : mk S = some (.int (k : Int))) : mSl m oN (oS mk) S = some (LS (L.take k)) := by
  unfold mSl oN oS
  rw [h1, h2]
  show some (D.lst (cutD (L.map .str) none (some (k : Int)))) = _
  rw [cut_to, take_LS]
theorem from_m {m mk : Mi} {S : Sd} {L : List Str} {k : Nat} (h1 : m S = some (LS L)) (h2 : mk S = some (.int (k : Int))) : mSl m (oS mk) oN S = some (LS (L.drop k)) := by
  unfold mSl oN oS
  rw [h1, h2]
  show some (D.lst (cutD (L.map .str) (some (k : Int)) none)) = _
  rw [cut_from, drop_LS]
theorem add_LS {A B : List Str} (hl : A.length + B.length ≤ 1000) : addD (LS A) (LS B) = some (LS (A ++ B)) := by
  show (if (A.map D.str).length + (B.map D.str).length ≤ 1000000 then some (D.lst (A.map .str ++ B.map .str)) else none) = _
  rw [if_pos (by rw [List.length_map, List.length_map]; omega), ← List.map_append]
theorem sCatO_of {i : Nat} {m : Ma} {S : Sl} {ds es : List D} (h0 : S[i]? = some (.own ds)) (h1 : m (cl S) = some es) (hl : ds.length + es.length ≤ 1000) : sCatO i m S = some (.nx (S.set i (.own (ds ++ es)))) := by
  unfold sCatO
  rw [h0]
  show ((m (cl S)).bind _) = _
  rw [h1]
  exact if_pos (by omega)
theorem sSetL_of {i : Nat} {m : Ma} {S : Sl} {es : List D} (h1 : m (cl S) = some es) (hl : es.length ≤ 1000) : sSetL i m S = some (.nx (S.set i (.own es))) := by
  unfold sSetL
  rw [h1]
  exact if_pos (by omega)
theorem aC_of {m : Mi} {r : Ma} {S : Sd} {d : D} {ds : List D} (h : m S = some d) (g : r S = some ds) : aCons m r S = some (d :: ds) := by
  unfold aCons
  rw [h]
  show ((r S).bind fun xs => some (d :: xs)) = _
  rw [g]
  rfl
theorem last_row {ps : List WRow} (hf : ∀ p ∈ ps, Fine p) {p : WRow} {qs : List WRow} (e : ps = qs ++ [p]) : ixD (LS (rws ps)) (.int (-1)) = some (.str (rowT p.1 p.2)) ∧ splitD (.str (rowT p.1 p.2)) (.str " ") = some (.lst (.str p.1 :: p.2.map fun i => .str (wS i))) := by
  have f := hf p (by rw [e]; exact List.mem_append_right _ (List.mem_singleton.mpr rfl))
  refine ⟨?_, ?_⟩
  · subst e
    show atI ((rws (qs ++ [p])).map D.str) (-1) = _
    have : (rws (qs ++ [p])).map D.str = (rws qs).map D.str ++ [.str (rowT p.1 p.2)] := by
      have a : rws (qs ++ [p]) = rws qs ++ [rowT p.1 p.2] := List.map_append
      rw [a, List.map_append]
      rfl
    rw [this]
    exact atI_last
  · have l := fine_len f
    have r5 := f.2.2.2.1.1
    have sp := row_split f.1 f.2.2.2.1
    show (if ((" " : Str).length == 0) = false ∧ (rowT p.1 p.2).length ≤ 1000000 ∧ (Txt.split (rowT p.1 p.2) (" " : Str)).length ≤ 1000000 then some (D.lst ((Txt.split (rowT p.1 p.2) (" " : Str)).map .str)) else none) = _
    rw [sp, if_pos ⟨rfl, by omega, by rw [List.length_cons, List.length_map]; omega⟩, List.map_cons, List.map_map]
    rfl
def wdBody : Ms := (sIf (mB (m2 neD (mA (guardN 1 G__law_word) (aCons (mV 5) aNil)) (mC (.str "text")))) (sRet (mC (.bl false))) sNext)
theorem text_text : neD (.str "text") (.str "text") = some (.bl false) := by kernel_rfl
theorem wd_turn {S0 LL B A TS d : D} (h : G__law_word [d] = some (.str "text")) : wdBody [.dat S0, .dat LL, .dat B, .dat A, .dat TS, .dat d, .un, .un, .un, .un] = some (.nx [.dat S0, .dat LL, .dat B, .dat A, .dat TS, .dat d, .un, .un, .un, .un]) := by
  unfold wdBody
  simp (config := { decide := false }) only [runF, initS, sSeq, sIf, sRet, sRetN, sSet, sSetF, sSetO, sDrop, sNext, sNever, sUnp, sUnpF, sApp, sAppF, sLend, sAugI, asgL_nm, asgL_tp, asgL_wt, asgsL_nil, asgsL_cons, asg_nm, asg_tp, asgs_nil, asgs_cons, wipeD, mAnd, mOr, mNot, mB, mTr, m2, m1, mV, mC, mA, mCh, mAndV, mOrV, aCons, aNil, guardN, op, cl, fl, opn, clos, flt, eqD_int, neD_int, gtD, ltD, leD, geD, addD, subD, negD, tupD, lstD, tupF, lstF, outD, notD, tru, isD, isnD, isN, flat_tp, flat_in, flat_bo, flat_no, flats_nl, flats_cn,
  List.map_cons, List.map_nil, List.length_cons, List.length_nil, List.replicate, List.getElem?_cons_zero, List.getElem?_cons_succ, List.getElem?_nil, List.cons_append, List.nil_append, Option.bind_some, Option.bind_none, Option.bind_assoc, Option.map_some, Option.map_none, Nat.reduceAdd, Nat.reduceSub, Nat.reduceLeDiff, List.set_cons_zero, List.set_cons_succ, if_true, if_false, ite_true, ite_false, reduceCtorEq, Bool.false_eq_true, Bool.not_true, Bool.not_false, ↓reduceIte, eq_self, h, text_text]
theorem wd_all {S0 LL B A TS : D} {ds : List D} (h : ∀ d ∈ ds, G__law_word [d] = some (.str "text")) {u5 : SL} : ∃ v5, forM (.nm 5) wdBody ds [.dat S0, .dat LL, .dat B, .dat A, .dat TS, u5, .un, .un, .un, .un] = some (.nx [.dat S0, .dat LL, .dat B, .dat A, .dat TS, v5, .un, .un, .un, .un]) := by
  obtain ⟨S', e, v5, rfl⟩ := forM_keep (t := .nm 5) (b := wdBody) (fun S => ∃ v5, S = [.dat S0, .dat LL, .dat B, .dat A, .dat TS, v5, .un, .un, .un, .un]) ds [.dat S0, .dat LL, .dat B, .dat A, .dat TS, u5, .un, .un, .un, .un] ⟨_, rfl⟩ (by
    rintro d hd S ⟨v5, rfl⟩
    exact ⟨_, _, rfl, wd_turn (h d hd), _, rfl⟩)
  exact ⟨v5, e⟩
theorem tail_eval {S0 LL B A TS IT A8 : D} {u5 : SL} {x p : Int} {w : Str} (c4 : G__law_cell_at [S0, .int 4] = some (.int x)) (m4 : modD (.int x) (.int 11) = some (.int p)) (ix : ixD (.lst somD) (.int p) = some IT) (hIT : IT = .tup [A8, .str w]) (hw : G__law_word [A8] = some (.str w)) (ok : okS w) {rest : Ms}
    (hr : rest = (sSeq (sUnp (.tp [(.nm 8), (.nm 9)]) (m2 ixD (mV 7) (m2 modD (mA (guardN 2 G__law_cell_at) (aCons (mV 0) (aCons (mC (.int 4)) aNil))) (mC (.int 11))))) (sRet (m2 eqD (mA (guardN 1 G__law_word) (aCons (mV 8) aNil)) (mV 9))))) :
    ∃ S', rest [.dat S0, .dat LL, .dat B, .dat A, .dat TS, u5, .dat (.str "heats 1 2 3 4 5"), .dat (.lst somD), .un, .un] = some (.rt (.bl true) S') := by
  subst hr hIT
  have eq := eq_str ok
  generalize D.lst somD = SM at *
  refine ⟨[.dat S0, .dat LL, .dat B, .dat A, .dat TS, u5, .dat (.str "heats 1 2 3 4 5"), .dat SM, .dat A8, .dat (.str w)], ?_⟩
  apply Eq.trans
  · apply sSeq_nx (S1 := [.dat S0, .dat LL, .dat B, .dat A, .dat TS, u5, .dat (.str "heats 1 2 3 4 5"), .dat SM, .dat A8, .dat (.str w)])
    simp (config := { decide := false }) only [runF, initS, sSeq, sIf, sRet, sRetN, sSet, sSetF, sSetO, sDrop, sNext, sNever, sUnp, sUnpF, sApp, sAppF, sLend, sAugI, asgL_nm, asgL_tp, asgL_wt, asgsL_nil, asgsL_cons, asg_nm, asg_tp, asgs_nil, asgs_cons, wipeD, mAnd, mOr, mNot, mB, mTr, m2, m1, mV, mC, mA, mCh, mAndV, mOrV, aCons, aNil, guardN, op, cl, fl, opn, clos, flt, eqD_int, neD_int, gtD, ltD, leD, geD, addD, subD, negD, tupD, lstD, tupF, lstF, outD, notD, tru, isD, isnD, isN, flat_tp, flat_in, flat_bo, flat_no, flats_nl, flats_cn,
  List.map_cons, List.map_nil, List.length_cons, List.length_nil, List.replicate, List.getElem?_cons_zero, List.getElem?_cons_succ, List.getElem?_nil, List.cons_append, List.nil_append, Option.bind_some, Option.bind_none, Option.bind_assoc, Option.map_some, Option.map_none, Nat.reduceAdd, Nat.reduceSub, Nat.reduceLeDiff, List.set_cons_zero, List.set_cons_succ, if_true, if_false, ite_true, ite_false, reduceCtorEq, Bool.false_eq_true, Bool.not_true, Bool.not_false, ↓reduceIte, eq_self, c4, m4, ix]
  simp (config := { decide := false }) only [runF, initS, sSeq, sIf, sRet, sRetN, sSet, sSetF, sSetO, sDrop, sNext, sNever, sUnp, sUnpF, sApp, sAppF, sLend, sAugI, asgL_nm, asgL_tp, asgL_wt, asgsL_nil, asgsL_cons, asg_nm, asg_tp, asgs_nil, asgs_cons, wipeD, mAnd, mOr, mNot, mB, mTr, m2, m1, mV, mC, mA, mCh, mAndV, mOrV, aCons, aNil, guardN, op, cl, fl, opn, clos, flt, eqD_int, neD_int, gtD, ltD, leD, geD, addD, subD, negD, tupD, lstD, tupF, lstF, outD, notD, tru, isD, isnD, isN, flat_tp, flat_in, flat_bo, flat_no, flats_nl, flats_cn,
  List.map_cons, List.map_nil, List.length_cons, List.length_nil, List.replicate, List.getElem?_cons_zero, List.getElem?_cons_succ, List.getElem?_nil, List.cons_append, List.nil_append, Option.bind_some, Option.bind_none, Option.bind_assoc, Option.map_some, Option.map_none, Nat.reduceAdd, Nat.reduceSub, Nat.reduceLeDiff, List.set_cons_zero, List.set_cons_succ, if_true, if_false, ite_true, ite_false, reduceCtorEq, Bool.false_eq_true, Bool.not_true, Bool.not_false, ↓reduceIte, eq_self, hw, eq]
theorem law_eval {S0 H X2 T IT A8 : D} {L : List Str} {s : Str} {x3 x p : Int} {a : Nat} {w : Str} {b : Bool} {LR : D} {LSp : List D} {W0 : Str} (h1 : G__law_house [S0, .int 3] = some H) (h2 : G__law_text [H] = some T) (h3 : splitD T (.str "\n") = some (LS L))
    (c2 : G__law_cell_at [S0, .int 2] = some X2) (hb : G__law_bad_row [X2] = some (.str s)) (c3 : G__law_cell_at [S0, .int 3] = some (.int x3)) (m3 : modD (.int x3) (.int (L.length : Int)) = some (.int (a : Int))) (hl : L.length ≤ 50)
    (i1 : ixD (LS L) (.int (-1)) = some LR) (i2 : splitD LR (.str " ") = some (.lst (.str W0 :: LSp))) (i3 : eqD (.str W0) (.str "wall") = some (.bl b))
    (t : ∀ d ∈ ([LS (L.take a ++ [s] ++ L.drop a), LS (L.take a ++ [s] ++ L.drop (a + 1))] ++ [LS (L.drop 1), LS (L.take 1 ++ L)] ++ [LS (L.drop 1 ++ L.take 1)] ++ [LS (L ++ [("heats 1 1 1 1 1" : Str)])] ++ (if b = true then [LS (L ++ [("row 5" : Str)])] else []) ++ [LS ((["row 5"] : List Str) ++ L), LS ((["wall 0 0 0"] : List Str) ++ L), LS (L ++ [s]), LS [""]] : List D), G__law_word [d] = some (.str "text"))
    (c4 : G__law_cell_at [S0, .int 4] = some (.int x)) (m4 : modD (.int x) (.int 11) = some (.int p)) (ix : ixD (.lst somD) (.int p) = some IT) (hIT : IT = .tup [A8, .str w]) (hw : G__law_word [A8] = some (.str w)) (ok : okS w) : G_law [S0] = some (.bl true) := by
  obtain ⟨ll, hll⟩ : ∃ ll, ll = LS L := ⟨_, rfl⟩
  have q1 : ∀ u4 : SL, ∀ (S : Sd), S = cl [.dat S0, .dat (LS L), .dat (.str s), .dat (.int (a : Int)), u4, .un, .un, .un, .un, .un] → mV 1 S = some (LS L) ∧ mV 2 S = some (.str s) ∧ mV 3 S = some (.int (a : Int)) := fun u4 S e => by
    subst e
    exact ⟨rfl, rfl, rfl⟩
  obtain ⟨v5, e10⟩ := wd_all (S0 := S0) (LL := LS L) (B := .str s) (A := .int (a : Int)) (TS := .lst ([LS (L.take a ++ [s] ++ L.drop a), LS (L.take a ++ [s] ++ L.drop (a + 1))] ++ [LS (L.drop 1), LS (L.take 1 ++ L)] ++ [LS (L.drop 1 ++ L.take 1)] ++ [LS (L ++ [("heats 1 1 1 1 1" : Str)])] ++ (if b = true then [LS (L ++ [("row 5" : Str)])] else []) ++ [LS ((["row 5"] : List Str) ++ L), LS ((["wall 0 0 0"] : List Str) ++ L), LS (L ++ [s]), LS [""]])) (u5 := .un) t
  have tl : (L.take a).length ≤ L.length := by rw [List.length_take]; omega
  have dl : (L.drop a).length ≤ L.length := by rw [List.length_drop]; omega
  have dl1 : (L.drop (a + 1)).length ≤ L.length := by rw [List.length_drop]; omega
  have t1 : (L.take 1).length ≤ L.length := by rw [List.length_take]; omega
  have d1 : (L.drop 1).length ≤ L.length := by rw [List.length_drop]; omega
  have tb : (L.take a ++ [s]).length ≤ L.length + 1 := by rw [List.length_append]; exact Nat.add_le_add_right tl 1
  -- pieces
  have sl1 : ∀ S : Sd, mV 1 S = some (LS L) → mSl (mV 1) (oS (mC (.int 1))) oN S = some (LS (L.drop 1)) ∧ mSl (mV 1) oN (oS (mC (.int 1))) S = some (LS (L.take 1)) := fun S h => ⟨from_m (k := 1) h rfl, to_m (k := 1) h rfl⟩
  have hT1 : ∀ S : Sd, mV 1 S = some (LS L) → mV 2 S = some (.str s) → mV 3 S = some (.int (a : Int)) → m2 addD (m2 addD (mSl (mV 1) oN (oS (mV 3))) (mA lstD (aCons (mV 2) aNil))) (mSl (mV 1) (oS (mV 3)) oN) S = some (LS (L.take a ++ [s] ++ L.drop a)) := fun S z1 z2 z3 =>
    m2_of (m2_of (to_m z1 z3) (mA_1 (f := lstD) z2 rfl) (add_LS (A := L.take a) (B := [s]) (by show (L.take a).length + 1 ≤ 1000; omega))) (from_m z1 z3) (add_LS (by omega))
  have hT2 : ∀ S : Sd, mV 1 S = some (LS L) → mV 2 S = some (.str s) → mV 3 S = some (.int (a : Int)) → m2 addD (m2 addD (mSl (mV 1) oN (oS (mV 3))) (mA lstD (aCons (mV 2) aNil))) (mSl (mV 1) (oS (m2 addD (mV 3) (mC (.int 1)))) oN) S = some (LS (L.take a ++ [s] ++ L.drop (a + 1))) := fun S z1 z2 z3 =>
    m2_of (m2_of (to_m z1 z3) (mA_1 (f := lstD) z2 rfl) (add_LS (A := L.take a) (B := [s]) (by show (L.take a).length + 1 ≤ 1000; omega))) (from_m (k := a + 1) z1 (m2_of z3 (show mC (.int 1) S = some (.int 1) from rfl) rfl)) (add_LS (by omega))
  unfold G_law
  generalize hrest : (sSeq (sUnp (.tp [(.nm 8), (.nm 9)]) (m2 ixD (mV 7) (m2 modD (mA (guardN 2 G__law_cell_at) (aCons (mV 0) (aCons (mC (.int 4)) aNil))) (mC (.int 11))))) (sRet (m2 eqD (mA (guardN 1 G__law_word) (aCons (mV 8) aNil)) (mV 9)))) = rest
  obtain ⟨SE, eE⟩ := tail_eval (LL := LS L) (B := .str s) (A := .int (a : Int)) (TS := (.lst ([LS (L.take a ++ [s] ++ L.drop a), LS (L.take a ++ [s] ++ L.drop (a + 1))] ++ [LS (L.drop 1), LS (L.take 1 ++ L)] ++ [LS (L.drop 1 ++ L.take 1)] ++ [LS (L ++ [("heats 1 1 1 1 1" : Str)])] ++ (if b = true then [LS (L ++ [("row 5" : Str)])] else []) ++ [LS ((["row 5"] : List Str) ++ L), LS ((["wall 0 0 0"] : List Str) ++ L), LS (L ++ [s]), LS [""]]))) (u5 := v5) c4 m4 ix hIT hw ok hrest.symm
  refine run_rt (S := SE) ?_
  unfold mr_law
  rw [hrest]
  refine (sSeq_nx (S1 := [.dat S0, .dat (LS L), .un, .un, .un, .un, .un, .un, .un, .un]) ?_).trans ?_
  · refine sSet_of (S := [.dat S0, .un, .un, .un, .un, .un, .un, .un, .un, .un]) (i := 1) (m2_of (y := .str "\n") (mA_1 (f := guardN 1 G__law_text) (mA_2' (f := guardN 2 G__law_house) (d := S0) (e := .int 3) rfl rfl h1) h2) rfl h3)
  refine (sSeq_nx (S1 := [.dat S0, .dat (LS L), .dat (.str s), .un, .un, .un, .un, .un, .un, .un]) ?_).trans ?_
  · exact sSet_of (S := [.dat S0, .dat (LS L), .un, .un, .un, .un, .un, .un, .un, .un]) (i := 2) (mA_1 (f := guardN 1 G__law_bad_row) (mA_2' (f := guardN 2 G__law_cell_at) (d := S0) (e := .int 2) rfl rfl c2) hb)
  refine (sSeq_nx (S1 := [.dat S0, .dat (LS L), .dat (.str s), .dat (.int (a : Int)), .un, .un, .un, .un, .un, .un]) ?_).trans ?_
  · exact sSet_of (S := [.dat S0, .dat (LS L), .dat (.str s), .un, .un, .un, .un, .un, .un, .un]) (i := 3) (m2_of (y := .int (L.length : Int)) (mA_2' (f := guardN 2 G__law_cell_at) (d := S0) (e := .int 3) rfl rfl c3) (mA_1 (f := lenA) (d := LS L) rfl (by show some (D.int ((L.map D.str).length : Nat)) = _; rw [List.length_map])) m3)
  refine (sSeq_nx (S1 := [.dat S0, .dat (LS L), .dat (.str s), .dat (.int (a : Int)), .own ([LS (L.take a ++ [s] ++ L.drop a), LS (L.take a ++ [s] ++ L.drop (a + 1))]), .un, .un, .un, .un, .un]) ?_).trans ?_
  · obtain ⟨z1, z2, z3⟩ := q1 .un _ rfl
    exact sSetL_of (S := [.dat S0, .dat (LS L), .dat (.str s), .dat (.int (a : Int)), .un, .un, .un, .un, .un, .un]) (i := 4) (aC_of (hT1 _ z1 z2 z3) (aC_of (hT2 _ z1 z2 z3) rfl)) (by show 2 ≤ 1000; decide)
  refine (sSeq_nx (S1 := [.dat S0, .dat (LS L), .dat (.str s), .dat (.int (a : Int)), .own ([LS (L.take a ++ [s] ++ L.drop a), LS (L.take a ++ [s] ++ L.drop (a + 1))] ++ [LS (L.drop 1), LS (L.take 1 ++ L)]), .un, .un, .un, .un, .un]) ?_).trans ?_
  · obtain ⟨y1, y2⟩ := sl1 (cl [.dat S0, .dat (LS L), .dat (.str s), .dat (.int (a : Int)), .own ([LS (L.take a ++ [s] ++ L.drop a), LS (L.take a ++ [s] ++ L.drop (a + 1))]), .un, .un, .un, .un, .un]) rfl
    exact sCatO_of (S := [.dat S0, .dat (LS L), .dat (.str s), .dat (.int (a : Int)), .own ([LS (L.take a ++ [s] ++ L.drop a), LS (L.take a ++ [s] ++ L.drop (a + 1))]), .un, .un, .un, .un, .un]) (i := 4) rfl (aC_of y1 (aC_of (m2_of y2 (show mV 1 _ = some (LS L) from rfl) (add_LS (by omega))) rfl)) (by show 2 + 2 ≤ 1000; decide)
  refine (sSeq_nx (S1 := [.dat S0, .dat (LS L), .dat (.str s), .dat (.int (a : Int)), .own ([LS (L.take a ++ [s] ++ L.drop a), LS (L.take a ++ [s] ++ L.drop (a + 1))] ++ [LS (L.drop 1), LS (L.take 1 ++ L)] ++ [LS (L.drop 1 ++ L.take 1)]), .un, .un, .un, .un, .un]) ?_).trans ?_
  · obtain ⟨y1, y2⟩ := sl1 (cl [.dat S0, .dat (LS L), .dat (.str s), .dat (.int (a : Int)), .own ([LS (L.take a ++ [s] ++ L.drop a), LS (L.take a ++ [s] ++ L.drop (a + 1))] ++ [LS (L.drop 1), LS (L.take 1 ++ L)]), .un, .un, .un, .un, .un]) rfl
    exact sCatO_of (S := [.dat S0, .dat (LS L), .dat (.str s), .dat (.int (a : Int)), .own ([LS (L.take a ++ [s] ++ L.drop a), LS (L.take a ++ [s] ++ L.drop (a + 1))] ++ [LS (L.drop 1), LS (L.take 1 ++ L)]), .un, .un, .un, .un, .un]) (i := 4) rfl (aC_of (m2_of y1 y2 (add_LS (by omega))) rfl) (by show 4 + 1 ≤ 1000; decide)
  refine (sSeq_nx (S1 := [.dat S0, .dat (LS L), .dat (.str s), .dat (.int (a : Int)), .own ([LS (L.take a ++ [s] ++ L.drop a), LS (L.take a ++ [s] ++ L.drop (a + 1))] ++ [LS (L.drop 1), LS (L.take 1 ++ L)] ++ [LS (L.drop 1 ++ L.take 1)] ++ [LS (L ++ [("heats 1 1 1 1 1" : Str)])]), .un, .un, .un, .un, .un]) ?_).trans ?_
  · exact sApp_at (S := [.dat S0, .dat (LS L), .dat (.str s), .dat (.int (a : Int)), .own ([LS (L.take a ++ [s] ++ L.drop a), LS (L.take a ++ [s] ++ L.drop (a + 1))] ++ [LS (L.drop 1), LS (L.take 1 ++ L)] ++ [LS (L.drop 1 ++ L.take 1)]), .un, .un, .un, .un, .un]) (i := 4) rfl (m2_of (x := LS L) (y := LS ["heats 1 1 1 1 1"]) rfl rfl (add_LS (by show L.length + 1 ≤ 1000; omega))) (by show 5 < 1000000; decide)
  refine (sSeq_nx (S1 := [.dat S0, .dat (LS L), .dat (.str s), .dat (.int (a : Int)), .own ([LS (L.take a ++ [s] ++ L.drop a), LS (L.take a ++ [s] ++ L.drop (a + 1))] ++ [LS (L.drop 1), LS (L.take 1 ++ L)] ++ [LS (L.drop 1 ++ L.take 1)] ++ [LS (L ++ [("heats 1 1 1 1 1" : Str)])] ++ (if b = true then [LS (L ++ [("row 5" : Str)])] else [])), .un, .un, .un, .un, .un]) ?_).trans ?_
  · have cnd : mB (m2 eqD (m2 ixD (m2 splitD (m2 ixD (mV 1) (m1 negD (mC (.int 1)))) (mC (.str " "))) (mC (.int 0))) (mC (.str "wall"))) (op [.dat S0, .dat (LS L), .dat (.str s), .dat (.int (a : Int)), .own ([LS (L.take a ++ [s] ++ L.drop a), LS (L.take a ++ [s] ++ L.drop (a + 1))] ++ [LS (L.drop 1), LS (L.take 1 ++ L)] ++ [LS (L.drop 1 ++ L.take 1)] ++ [LS (L ++ [("heats 1 1 1 1 1" : Str)])]), .un, .un, .un, .un, .un]) = some b :=
      mB_of (m2_of (x := .str W0) (y := .str "wall") (m2_of (x := .lst (.str W0 :: LSp)) (y := .int 0) (m2_of (x := LR) (y := .str " ") (m2_of (x := LS L) (y := .int (-1)) rfl rfl i1) rfl i2) rfl (show atI (.str W0 :: LSp) ((0 : Nat) : Int) = _ from atI_nat rfl)) rfl i3)
    rw [sIf_of cnd]
    cases b with
    | true =>
      rw [if_pos rfl, if_pos rfl]
      exact sApp_at (S := [.dat S0, .dat (LS L), .dat (.str s), .dat (.int (a : Int)), .own ([LS (L.take a ++ [s] ++ L.drop a), LS (L.take a ++ [s] ++ L.drop (a + 1))] ++ [LS (L.drop 1), LS (L.take 1 ++ L)] ++ [LS (L.drop 1 ++ L.take 1)] ++ [LS (L ++ [("heats 1 1 1 1 1" : Str)])]), .un, .un, .un, .un, .un]) (i := 4) rfl (m2_of (x := LS L) (y := LS ["row 5"]) rfl rfl (add_LS (by show L.length + 1 ≤ 1000; omega))) (by show 6 < 1000000; decide)
    | false =>
      rw [if_neg Bool.false_ne_true, if_neg Bool.false_ne_true, List.append_nil]
      rfl
  generalize hds : [LS (L.take a ++ [s] ++ L.drop a), LS (L.take a ++ [s] ++ L.drop (a + 1))] ++ [LS (L.drop 1), LS (L.take 1 ++ L)] ++ [LS (L.drop 1 ++ L.take 1)] ++ [LS (L ++ [("heats 1 1 1 1 1" : Str)])] ++ (if b = true then [LS (L ++ [("row 5" : Str)])] else []) = ds at e10 t eE ⊢
  have hdl : ds.length ≤ 7 := by
    rw [← hds, List.length_append]
    cases b with
    | true => exact Nat.le_refl _
    | false => exact Nat.le_succ _
  refine (sSeq_nx (S1 := [.dat S0, .dat (LS L), .dat (.str s), .dat (.int (a : Int)), .own (ds ++ [LS ((["row 5"] : List Str) ++ L), LS ((["wall 0 0 0"] : List Str) ++ L), LS (L ++ [s]), LS [""]]), .un, .un, .un, .un, .un]) ?_).trans ?_
  · refine sCatO_of (S := [.dat S0, .dat (LS L), .dat (.str s), .dat (.int (a : Int)), .own ds, .un, .un, .un, .un, .un]) (i := 4) rfl (aC_of (m2_of (x := LS ["row 5"]) (y := LS L) rfl rfl (add_LS (by show 1 + L.length ≤ 1000; omega))) (aC_of (m2_of (x := LS ["wall 0 0 0"]) (y := LS L) rfl rfl (add_LS (by show 1 + L.length ≤ 1000; omega))) (aC_of (m2_of (x := LS L) (y := LS [s]) rfl rfl (add_LS (by show L.length + 1 ≤ 1000; omega))) rfl))) (by show ds.length + 4 ≤ 1000; omega)
  refine (sSeq_nx (S1 := [.dat S0, .dat (LS L), .dat (.str s), .dat (.int (a : Int)), .dat (.lst (ds ++ [LS ((["row 5"] : List Str) ++ L), LS ((["wall 0 0 0"] : List Str) ++ L), LS (L ++ [s]), LS [""]])), v5, .un, .un, .un, .un]) ?_).trans ?_
  · exact e10
  generalize D.lst (ds ++ [LS ((["row 5"] : List Str) ++ L), LS ((["wall 0 0 0"] : List Str) ++ L), LS (L ++ [s]), LS [""]]) = TS at eE ⊢
  clear e10 hT1 hT2 sl1 q1 t
  generalize LS L = LL at *
  generalize D.str s = B at *
  generalize D.int (a : Int) = A at *
  refine (sSeq_nx (S1 := [.dat S0, .dat LL, .dat B, .dat A, .dat TS, v5, .dat (.str "heats 1 2 3 4 5"), .un, .un, .un]) rfl).trans ?_
  refine (sSeq_nx (S1 := [.dat S0, .dat LL, .dat B, .dat A, .dat TS, v5, .dat (.str "heats 1 2 3 4 5"), .dat (.lst [.tup [LS ["heats 1 2 3 4 5"], .str "house"], .tup [LS ["heats 1 2 3 4 5", "row 5", "row 5 5"], .str "house"], .tup [LS ["heats 1 2 3 4 5", "row 5", "row 5", "row 5", "row 5", "row 5"], .str "house"]]), .un, .un]) rfl).trans ?_
  refine (sSeq_nx (S1 := [.dat S0, .dat LL, .dat B, .dat A, .dat TS, v5, .dat (.str "heats 1 2 3 4 5"), .dat (.lst [.tup [LS ["heats 1 2 3 4 5"], .str "house"], .tup [LS ["heats 1 2 3 4 5", "row 5", "row 5 5"], .str "house"], .tup [LS ["heats 1 2 3 4 5", "row 5", "row 5", "row 5", "row 5", "row 5"], .str "house"], .tup [LS ["heats 1 2 3 4 5", "row 5 5 5 5 5"], .str "house"], .tup [LS ["heats 10 0 0 0 0", "row 5"], .str "house"]]), .un, .un]) rfl).trans ?_
  refine (sSeq_nx (S1 := [.dat S0, .dat LL, .dat B, .dat A, .dat TS, v5, .dat (.str "heats 1 2 3 4 5"), .dat (.lst [.tup [LS ["heats 1 2 3 4 5"], .str "house"], .tup [LS ["heats 1 2 3 4 5", "row 5", "row 5 5"], .str "house"], .tup [LS ["heats 1 2 3 4 5", "row 5", "row 5", "row 5", "row 5", "row 5"], .str "house"], .tup [LS ["heats 1 2 3 4 5", "row 5 5 5 5 5"], .str "house"], .tup [LS ["heats 10 0 0 0 0", "row 5"], .str "house"], .tup [LS ["heats 1 2 3 4 5", "row 5", "wall 0 0 4"], .str "house"]]), .un, .un]) rfl).trans ?_
  refine (sSeq_nx (S1 := [.dat S0, .dat LL, .dat B, .dat A, .dat TS, v5, .dat (.str "heats 1 2 3 4 5"), .dat (.lst [.tup [LS ["heats 1 2 3 4 5"], .str "house"], .tup [LS ["heats 1 2 3 4 5", "row 5", "row 5 5"], .str "house"], .tup [LS ["heats 1 2 3 4 5", "row 5", "row 5", "row 5", "row 5", "row 5"], .str "house"], .tup [LS ["heats 1 2 3 4 5", "row 5 5 5 5 5"], .str "house"], .tup [LS ["heats 10 0 0 0 0", "row 5"], .str "house"], .tup [LS ["heats 1 2 3 4 5", "row 5", "wall 0 0 4"], .str "house"], .tup [LS ["heats 1 2 3 4 5", "row 5", "wall 0 0 1", "wall 0 0 1"], .str "house"]]), .un, .un]) rfl).trans ?_
  refine (sSeq_nx (S1 := [.dat S0, .dat LL, .dat B, .dat A, .dat TS, v5, .dat (.str "heats 1 2 3 4 5"), .dat (.lst [.tup [LS ["heats 1 2 3 4 5"], .str "house"], .tup [LS ["heats 1 2 3 4 5", "row 5", "row 5 5"], .str "house"], .tup [LS ["heats 1 2 3 4 5", "row 5", "row 5", "row 5", "row 5", "row 5"], .str "house"], .tup [LS ["heats 1 2 3 4 5", "row 5 5 5 5 5"], .str "house"], .tup [LS ["heats 10 0 0 0 0", "row 5"], .str "house"], .tup [LS ["heats 1 2 3 4 5", "row 5", "wall 0 0 4"], .str "house"], .tup [LS ["heats 1 2 3 4 5", "row 5", "wall 0 0 1", "wall 0 0 1"], .str "house"], .tup [LS ["heats 1 2 3 4 5", "row 5", "row 6", "wall 0 0 2", "wall 1 0 0"], .str "house"]]), .un, .un]) rfl).trans ?_
  refine (sSeq_nx (S1 := [.dat S0, .dat LL, .dat B, .dat A, .dat TS, v5, .dat (.str "heats 1 2 3 4 5"), .dat (.lst [.tup [LS ["heats 1 2 3 4 5"], .str "house"], .tup [LS ["heats 1 2 3 4 5", "row 5", "row 5 5"], .str "house"], .tup [LS ["heats 1 2 3 4 5", "row 5", "row 5", "row 5", "row 5", "row 5"], .str "house"], .tup [LS ["heats 1 2 3 4 5", "row 5 5 5 5 5"], .str "house"], .tup [LS ["heats 10 0 0 0 0", "row 5"], .str "house"], .tup [LS ["heats 1 2 3 4 5", "row 5", "wall 0 0 4"], .str "house"], .tup [LS ["heats 1 2 3 4 5", "row 5", "wall 0 0 1", "wall 0 0 1"], .str "house"], .tup [LS ["heats 1 2 3 4 5", "row 5", "row 6", "wall 0 0 2", "wall 1 0 0"], .str "house"], .tup [LS ["heats 1 2 3 4 5", "wall 0 0 0"], .str "house"]]), .un, .un]) rfl).trans ?_
  refine (sSeq_nx (S1 := [.dat S0, .dat LL, .dat B, .dat A, .dat TS, v5, .dat (.str "heats 1 2 3 4 5"), .dat (.lst [.tup [LS ["heats 1 2 3 4 5"], .str "house"], .tup [LS ["heats 1 2 3 4 5", "row 5", "row 5 5"], .str "house"], .tup [LS ["heats 1 2 3 4 5", "row 5", "row 5", "row 5", "row 5", "row 5"], .str "house"], .tup [LS ["heats 1 2 3 4 5", "row 5 5 5 5 5"], .str "house"], .tup [LS ["heats 10 0 0 0 0", "row 5"], .str "house"], .tup [LS ["heats 1 2 3 4 5", "row 5", "wall 0 0 4"], .str "house"], .tup [LS ["heats 1 2 3 4 5", "row 5", "wall 0 0 1", "wall 0 0 1"], .str "house"], .tup [LS ["heats 1 2 3 4 5", "row 5", "row 6", "wall 0 0 2", "wall 1 0 0"], .str "house"], .tup [LS ["heats 1 2 3 4 5", "wall 0 0 0"], .str "house"], .tup [LS ["heats 1 2 3 4 5", "row 5"], .str "read"], .tup [LS ["heats 1 2 3 4 5", "row 9999 0", "wall 0 0 1", "wall 0 0 0"], .str "read"]]), .un, .un]) rfl).trans ?_
  exact eE
theorem l_law (ns : List Int) : G_law [eNs ns] = some (.bl true) := by
  obtain ⟨h, eh, o, _, _⟩ := l_house ns (m := 3) (by decide) (by decide)
  obtain ⟨x2, c2⟩ := l_cell_at ns 2
  obtain ⟨x3, c3⟩ := l_cell_at ns 3
  obtain ⟨x4, c4⟩ := l_cell_at ns 4
  obtain ⟨s, hb, bs⟩ := l_bad x2
  have ro := rows_of o
  have pl := prs_len ro
  have fin := prs_fine o
  have eL : linesOf h = rws (prs h) := lines_prs h
  have hlen : (rws (prs h)).length = (prs h).length := List.length_map ..
  have hpos : 0 < (prs h).length := by unfold prs; exact Nat.succ_pos _
  have p0 := Int.emod_nonneg x3 (b := ((rws (prs h)).length : Int)) (by omega)
  have p1 := Int.emod_lt_of_pos x3 (b := ((rws (prs h)).length : Int)) (by omega)
  obtain ⟨a, ha⟩ : ∃ a : Nat, (a : Int) = x3 % ((rws (prs h)).length : Int) := ⟨(x3 % ((rws (prs h)).length : Int)).toNat, Int.toNat_of_nonneg p0⟩
  have q0 := Int.emod_nonneg x4 (b := 11) (by decide)
  have q1 := Int.emod_lt_of_pos x4 (b := 11) (by decide)
  obtain ⟨k, hk⟩ : ∃ k : Nat, (k : Int) = x4 % 11 := ⟨(x4 % 11).toNat, Int.toNat_of_nonneg q0⟩
  have sl : somD.length = 11 := rfl
  have hkl : k < somD.length := by omega
  obtain ⟨A8, w, eI, ok, hw⟩ := somD_all _ (List.getElem_mem hkl)
  have md : ∀ x k : Int, 0 < k → modD (.int x) (.int k) = some (.int (x % k)) := fun x k hk => by
    unfold modD
    exact if_pos hk
  have h3 : splitD (.str (Txt.join ("\n" : Str) (linesOf h))) (.str "\n") = some (LS (rws (prs h))) := by
    have := (lines_at (L := rws (prs h)) (fun z => by rw [z] at hlen; simp at hlen; omega) (fun s hs => by
      obtain ⟨p, hp, rfl⟩ := List.mem_map.mp hs
      exact ⟨fine_10 (fin p hp), fine_len (fin p hp)⟩) (by omega)).2
    rw [eL]
    obtain ⟨d, e1, e2⟩ := bind_some (show (splitD (.str (Txt.join ("\n" : Str) (rws (prs h)))) (.str "\n")).bind (fun d => match d with | .lst ds => some ds | _ => none) = some ((rws (prs h)).map .str) from this)
    rw [e1]
    cases d with
    | lst ds => cases e2; rfl
    | _ => cases e2
  obtain ⟨qs, p, ep⟩ : ∃ qs p, prs h = qs ++ [p] := by
    rcases List.eq_nil_or_concat (prs h) with z | ⟨qs, p, z⟩
    · rw [z] at hpos; cases hpos
    · exact ⟨qs, p, by rw [z, List.concat_eq_append]⟩
  obtain ⟨i1, i2⟩ := last_row fin ep
  have i3 := eq_strs (x := p.1) (y := "wall") (fin p (by rw [ep]; exact List.mem_append_right _ (List.mem_singleton.mpr rfl))).2.2.2.2.2 (okS_of _)
  have hwall : (p.1 == ("wall" : Str)) = true → 0 < h.walls.length := fun hp => by
    refine Nat.pos_of_ne_zero fun z => ?_
    have wz : h.walls = [] := List.eq_nil_of_length_eq_zero z
    have hm : p ∈ prs h := by rw [ep]; exact List.mem_append_right _ (List.mem_singleton.mpr rfl)
    unfold prs at hm
    rw [wz, List.map_nil, List.append_nil] at hm
    rcases List.mem_cons.mp hm with rfl | hm
    · have : (wH == wW) = true := hp
      rw [b_HW] at this
      cases this
    · obtain ⟨r, _, rfl⟩ := List.mem_map.mp hm
      have : (wR == wW) = true := hp
      rw [b_RW] at this
      cases this
  refine law_eval (p := x4 % 11) (a := a) eh (l_text o) h3 c2 hb c3 (by rw [ha]; exact md _ _ (by omega)) (by omega) i1 i2 i3 (fun d hd => ?_) c4 (md _ _ (by decide)) (by rw [← hk]; exact atI_nat (List.getElem?_eq_getElem hkl)) eI hw ok
  have tk : ∀ (k : Nat) x, x ∈ (rws (prs h)).take k → x ∈ rws (prs h) := fun k x hx => List.mem_of_mem_take hx
  have dk : ∀ (k : Nat) x, x ∈ (rws (prs h)).drop k → x ∈ rws (prs h) := fun k x hx => List.mem_of_mem_drop hx
  have tl : ∀ k : Nat, ((rws (prs h)).take k).length ≤ 45 := fun k => by rw [List.length_take]; omega
  have dl : ∀ k : Nat, ((rws (prs h)).drop k).length ≤ 45 := fun k => by rw [List.length_drop]; omega
  have two : ∀ k j : Nat, j ≤ k + 1 → k ≤ j → ((rws (prs h)).take k).length + ((rws (prs h)).drop j).length ≤ 59 := fun k j _ _ => by rw [List.length_take, List.length_drop]; omega
  rcases List.mem_append.mp hd with hd | hd
  · rcases List.mem_append.mp hd with hd | hd
    · rcases List.mem_append.mp hd with hd | hd
      · rcases List.mem_append.mp hd with hd | hd
        · rcases List.mem_append.mp hd with hd | hd
          · rcases List.mem_cons.mp hd with rfl | hd
            · exact t_bad o bs (tk a) (dk a) (two a a (by omega) (by omega))
            · rw [List.mem_singleton.mp hd]
              exact t_bad o bs (tk a) (dk (a + 1)) (two a (a + 1) (by omega) (by omega))
          · rcases List.mem_cons.mp hd with rfl | hd
            · exact t3 o
            · rw [List.mem_singleton.mp hd]
              exact t4 o
        · rw [List.mem_singleton.mp hd]
          exact t5 o
      · rw [List.mem_singleton.mp hd]
        exact t6 o
    · by_cases c : (p.1 == ("wall" : Str)) = true
      · rw [if_pos c] at hd
        rw [List.mem_singleton.mp hd]
        exact t7 o (hwall c)
      · rw [if_neg c] at hd
        cases hd
  · rcases List.mem_cons.mp hd with rfl | hd
    · exact t8 o
    · rcases List.mem_cons.mp hd with rfl | hd
      · exact t9 o
      · rcases List.mem_cons.mp hd with rfl | hd
        · have := t_bad o bs (A := rws (prs h)) (B := []) (fun x hx => hx) (fun x hx => nomatch hx) (by rw [List.length_nil]; omega)
          rw [List.append_nil] at this
          exact this
        · rw [List.mem_singleton.mp hd]
          exact t11
end Ice

namespace Ice
open PySem PySem.Spec PyProof.Rows L2
/-! ### the head -/
def fnL_0 : List He.FnD := [fnI "is_number" (topS 18), fnI "_are_numbers" (topS 25), fnI "_need_cells" (topS 22), fnI "_is_face" (topS 24), fnI "face_name" (topS 19), fnI "shut_faces" (topS 20), fnI "_need_faces" (topS 23), fnI "_need_heats" (topS 21), fnI "need_house" (topS 17), fnI "_numbers_behind" (topS 35), fnI "_is_count" (topS 33), fnI "_is_written_number" (topS 34), fnI "_read_row" (topS 32), fnI "read" (topS 31), fnI "_law_cell_at" (topS 37), fnI "_law_dice" (topS 38), fnI "_law_roll" (topS 39), fnI "_law_heats" (topS 40), fnI "_law_cells" (topS 41), fnI "_law_beside" (topS 42), fnI "_law_is_cell" (topS 43), fnI "_law_face" (topS 44), fnI "_law_screens" (topS 45), fnI "_law_house" (topS 46), fnI "_law_text" (topS 47), fnI "_law_bad_row" (topS 48), fnI "_law_word" (topS 49), fnI "law" (topS 50)]
def fnL : List He.FnD := fnL_0
def faL_0 : List He.Fa := [.int "EAST" 1, .str "HEATS" "heats", .int "MOST_COLUMNS" 4, .int "MOST_FIGURES" 4, .int "MOST_HEAT" 9, .int "MOST_PARTS" 9999, .int "MOST_ROWS" 4, .int "MOST_WALLS" 40, .int "NORTH" 0, .str "ROW" "row", .int "SOUTH" 2, .str "WALL" "wall", .int "WEST" 3, .free "all", .free "bool", .free "int", .free "isinstance", .free "len", .free "range", .free "str", .free "tuple", .glo "is_number", .glo "_are_numbers", .glo "_need_cells", .glo "_is_face", .glo "face_name", .glo "shut_faces", .glo "_need_faces", .glo "_need_heats", .glo "need_house"]
def faL_1 : List He.Fa := [.glo "_numbers_behind", .glo "_is_count", .glo "_is_written_number", .glo "_read_row", .glo "read", .glo "_law_cell_at", .glo "_law_dice", .glo "_law_roll", .glo "_law_heats", .glo "_law_cells", .glo "_law_beside", .glo "_law_is_cell", .glo "_law_face", .glo "_law_screens", .glo "_law_house", .glo "_law_text", .glo "_law_bad_row", .glo "_law_word", .glo "law", .keep "is_number", .keep "_are_numbers", .keep "_need_cells", .keep "_is_face", .keep "face_name", .keep "shut_faces", .keep "_need_faces", .keep "_need_heats", .keep "need_house", .keep "_numbers_behind", .keep "_is_count"]
def faL_2 : List He.Fa := [.keep "_is_written_number", .keep "_read_row", .keep "read", .keep "_law_cell_at", .keep "_law_dice", .keep "_law_roll", .keep "_law_heats", .keep "_law_cells", .keep "_law_beside", .keep "_law_is_cell", .keep "_law_face", .keep "_law_screens", .keep "_law_house", .keep "_law_text", .keep "_law_bad_row", .keep "_law_word", .keep "law"]
def faL : List He.Fa := faL_0 ++ faL_1 ++ faL_2
def looseL_0 : List Str := ["IceError", "BadHouse", "NoSuch", "BadDeeds", "BadPlan", "BadText", "NORTH", "EAST", "SOUTH", "WEST", "MOST_HEAT", "MOST_PARTS", "MOST_ROWS", "MOST_COLUMNS", "MOST_WALLS", "need_house", "is_number", "face_name", "shut_faces", "_need_heats", "_need_cells", "_need_faces", "_is_face", "_are_numbers", "HEATS", "ROW", "WALL", "MOST_FIGURES", "read", "_read_row"]
def looseL_1 : List Str := ["_is_count", "_is_written_number", "_numbers_behind", "_law_cell_at", "_law_dice", "_law_roll", "_law_heats", "_law_cells", "_law_beside", "_law_is_cell", "_law_face", "_law_screens", "_law_house", "_law_text", "_law_bad_row", "_law_word"]
def looseL : List Str := looseL_0 ++ looseL_1
def exL (K : PySem.W.Frag) : Bool := (true) && exTB K
abbrev RL : PySem.W.OpenRow := PySem.W.OpenLaw.row PySem.Challenge.rw_icehouse_k17_texts_refused
abbrev hkL : PySem.W.Hook := hookI 4 faL fnL exL
def obL (s : PySem.W.SharedT) : AlI := obI 4 faL fnL exL (HandSHeadRun.getT s)
theorem obL_eq (s : PySem.W.SharedT) : obL s = hkL.obs s.abs := obI_eq (HandSHeadRun.getT_eq s)
theorem runL (w : World) : HandSHeadRun.RunEq RL (PySem.W.view RL.prog [50]) hkL obL 6000 looseL w := by
  intro os
  kernel_rfl
/-! ### all that the top has written -/
theorem factsL {P : Program} {w : World} {K : PySem.W.Frag} {h : Heap} {mg : Str → Option Value} {f : Addr} (X : K.In h) (G : h.Ns mainGlobals mg) (hfa : mg ("law" : Str) = some (.ref f)) (c : He.SaysE faL fnL K) (e : exL K = true) :
    ∃ fd : FuncData, (∀ (s : Shared) (v : Value), BindsTo s fd ⟨[v], []⟩ [("_law_script", v)]) ∧ ∀ base : Heap, K.In base → base.Ns mainGlobals mg → FnOk P w K mg base CX0 7 f fd ["_law_script"] (spD K 1 G_law) := by
  obtain ⟨e, eX⟩ := He.ba e
  have T : Txt K mg := ⟨He.int_ok X G (c.fact 0), He.str_ok X G (c.fact 1), He.int_ok X G (c.fact 2), He.int_ok X G (c.fact 3), He.int_ok X G (c.fact 4), He.int_ok X G (c.fact 5), He.int_ok X G (c.fact 6), He.int_ok X G (c.fact 7), He.int_ok X G (c.fact 8), He.str_ok X G (c.fact 9), He.int_ok X G (c.fact 10), He.str_ok X G (c.fact 11), He.int_ok X G (c.fact 12), He.free_ok X G (c.fact 13), He.free_ok X G (c.fact 14), He.free_ok X G (c.fact 15), He.free_ok X G (c.fact 16), He.free_ok X G (c.fact 17), He.free_ok X G (c.fact 18), He.free_ok X G (c.fact 19), He.free_ok X G (c.fact 20), exT_ok X G eX⟩
  obtain ⟨fd_is_number, F_is_number, m_is_number⟩ := def_at X G c "is_number" (topS 18) 0 21 49 rfl rfl rfl
  obtain ⟨fd__are_numbers, F__are_numbers, m__are_numbers⟩ := def_at X G c "_are_numbers" (topS 25) 1 22 50 rfl rfl rfl
  obtain ⟨fd__need_cells, F__need_cells, m__need_cells⟩ := def_at X G c "_need_cells" (topS 22) 2 23 51 rfl rfl rfl
  obtain ⟨fd__is_face, F__is_face, m__is_face⟩ := def_at X G c "_is_face" (topS 24) 3 24 52 rfl rfl rfl
  obtain ⟨fd_face_name, F_face_name, m_face_name⟩ := def_at X G c "face_name" (topS 19) 4 25 53 rfl rfl rfl
  obtain ⟨fd_shut_faces, F_shut_faces, m_shut_faces⟩ := def_at X G c "shut_faces" (topS 20) 5 26 54 rfl rfl rfl
  obtain ⟨fd__need_faces, F__need_faces, m__need_faces⟩ := def_at X G c "_need_faces" (topS 23) 6 27 55 rfl rfl rfl
  obtain ⟨fd__need_heats, F__need_heats, m__need_heats⟩ := def_at X G c "_need_heats" (topS 21) 7 28 56 rfl rfl rfl
  obtain ⟨fd_need_house, F_need_house, m_need_house⟩ := def_at X G c "need_house" (topS 17) 8 29 57 rfl rfl rfl
  obtain ⟨fd__numbers_behind, F__numbers_behind, m__numbers_behind⟩ := def_at X G c "_numbers_behind" (topS 35) 9 30 58 rfl rfl rfl
  obtain ⟨fd__is_count, F__is_count, m__is_count⟩ := def_at X G c "_is_count" (topS 33) 10 31 59 rfl rfl rfl
  obtain ⟨fd__is_written_number, F__is_written_number, m__is_written_number⟩ := def_at X G c "_is_written_number" (topS 34) 11 32 60 rfl rfl rfl
  obtain ⟨fd__read_row, F__read_row, m__read_row⟩ := def_at X G c "_read_row" (topS 32) 12 33 61 rfl rfl rfl
  obtain ⟨fd_read, F_read, m_read⟩ := def_at X G c "read" (topS 31) 13 34 62 rfl rfl rfl
  obtain ⟨fd__law_cell_at, F__law_cell_at, m__law_cell_at⟩ := def_at X G c "_law_cell_at" (topS 37) 14 35 63 rfl rfl rfl
  obtain ⟨fd__law_dice, F__law_dice, m__law_dice⟩ := def_at X G c "_law_dice" (topS 38) 15 36 64 rfl rfl rfl
  obtain ⟨fd__law_roll, F__law_roll, m__law_roll⟩ := def_at X G c "_law_roll" (topS 39) 16 37 65 rfl rfl rfl
  obtain ⟨fd__law_heats, F__law_heats, m__law_heats⟩ := def_at X G c "_law_heats" (topS 40) 17 38 66 rfl rfl rfl
  obtain ⟨fd__law_cells, F__law_cells, m__law_cells⟩ := def_at X G c "_law_cells" (topS 41) 18 39 67 rfl rfl rfl
  obtain ⟨fd__law_beside, F__law_beside, m__law_beside⟩ := def_at X G c "_law_beside" (topS 42) 19 40 68 rfl rfl rfl
  obtain ⟨fd__law_is_cell, F__law_is_cell, m__law_is_cell⟩ := def_at X G c "_law_is_cell" (topS 43) 20 41 69 rfl rfl rfl
  obtain ⟨fd__law_face, F__law_face, m__law_face⟩ := def_at X G c "_law_face" (topS 44) 21 42 70 rfl rfl rfl
  obtain ⟨fd__law_screens, F__law_screens, m__law_screens⟩ := def_at X G c "_law_screens" (topS 45) 22 43 71 rfl rfl rfl
  obtain ⟨fd__law_house, F__law_house, m__law_house⟩ := def_at X G c "_law_house" (topS 46) 23 44 72 rfl rfl rfl
  obtain ⟨fd__law_text, F__law_text, m__law_text⟩ := def_at X G c "_law_text" (topS 47) 24 45 73 rfl rfl rfl
  obtain ⟨fd__law_bad_row, F__law_bad_row, m__law_bad_row⟩ := def_at X G c "_law_bad_row" (topS 48) 25 46 74 rfl rfl rfl
  obtain ⟨fd__law_word, F__law_word, m__law_word⟩ := def_at X G c "_law_word" (topS 49) 26 47 75 rfl rfl rfl
  obtain ⟨fd_law, F_law, m_law⟩ := def_at X G c "law" (topS 50) 27 48 76 rfl rfl rfl
  have ef := hfa.symm.trans m_law
  cases ef
  refine ⟨fd_law, binds_to F_law fun _ _ _ _ _ _ _ => rfl, fun base _ _ => ?_⟩
  have c_is_number : C8.Cal P w K mg base 1 "is_number" (spD K 2 G_is_number) [] := cal_of F_is_number m_is_number (ok_is_number F_is_number T ) fun _ _ _ _ _ _ us hl => match us, hl with | [_, _], _ => rfl
  have c__are_numbers : C8.Cal P w K mg base 2 "_are_numbers" (spD K 2 G__are_numbers) [] := cal_of F__are_numbers m__are_numbers (ok__are_numbers F__are_numbers T c_is_number) fun _ _ _ _ _ _ us hl => match us, hl with | [_, _], _ => rfl
  have c__need_cells : CalE P w K mg base 3 "_need_cells" (spE K 1 GE__need_cells) := cal_ofE F__need_cells m__need_cells (ok__need_cells F__need_cells T c__are_numbers) fun _ _ _ _ _ _ us hl => match us, hl with | [_], _ => rfl
  have c__is_face : C8.Cal P w K mg base 2 "_is_face" (spD K 2 G__is_face) [] := cal_of F__is_face m__is_face (ok__is_face F__is_face T c_is_number) fun _ _ _ _ _ _ us hl => match us, hl with | [_, _], _ => rfl
  have c_face_name : C8.Cal P w K mg base 1 "face_name" (spD K 3 G_face_name) [] := cal_of F_face_name m_face_name (ok_face_name F_face_name T ) fun _ _ _ _ _ _ us hl => match us, hl with | [_, _, _], _ => rfl
  have c_shut_faces : C8.Cal P w K mg base 2 "shut_faces" (spD K 1 G_shut_faces) [] := cal_of F_shut_faces m_shut_faces (ok_shut_faces F_shut_faces T c_face_name) fun _ _ _ _ _ _ us hl => match us, hl with | [_], _ => rfl
  have c__need_faces : CalE P w K mg base 3 "_need_faces" (spE K 2 GE__need_faces) := cal_ofE F__need_faces m__need_faces (ok__need_faces F__need_faces T c__is_face c_shut_faces) fun _ _ _ _ _ _ us hl => match us, hl with | [_, _], _ => rfl
  have c__need_heats : CalE P w K mg base 3 "_need_heats" (spE K 1 GE__need_heats) := cal_ofE F__need_heats m__need_heats (ok__need_heats F__need_heats T c__are_numbers) fun _ _ _ _ _ _ us hl => match us, hl with | [_], _ => rfl
  have c_need_house : CalE P w K mg base 4 "need_house" (spE K 1 GE_need_house) := cal_ofE F_need_house m_need_house (ok_need_house F_need_house T c__need_cells c__need_faces c__need_heats) fun _ _ _ _ _ _ us hl => match us, hl with | [_], _ => rfl
  have c__numbers_behind : C8.Cal P w K mg base 1 "_numbers_behind" (spD K 2 G__numbers_behind) [] := cal_of F__numbers_behind m__numbers_behind (ok__numbers_behind F__numbers_behind T ) fun _ _ _ _ _ _ us hl => match us, hl with | [_, _], _ => rfl
  have c__is_count : C8.Cal P w K mg base 1 "_is_count" (spD K 2 G__is_count) [] := cal_of F__is_count m__is_count (ok__is_count F__is_count T ) fun _ _ _ _ _ _ us hl => match us, hl with | [_, _], _ => rfl
  have c__is_written_number : C8.Cal P w K mg base 1 "_is_written_number" (spD K 1 G__is_written_number) [] := cal_of F__is_written_number m__is_written_number (ok__is_written_number F__is_written_number T ) fun _ _ _ _ _ _ us hl => match us, hl with | [_], _ => rfl
  have c__read_row : CalE P w K mg base 2 "_read_row" (spE K 1 GE__read_row) := cal_ofE F__read_row m__read_row (ok__read_row F__read_row T c__is_count c__is_written_number) fun _ _ _ _ _ _ us hl => match us, hl with | [_], _ => rfl
  have c_read : CalE P w K mg base 5 "read" (spE K 1 GE_read) := cal_ofE F_read m_read (ok_read F_read T c__numbers_behind c__read_row c_need_house) fun _ _ _ _ _ _ us hl => match us, hl with | [_], _ => rfl
  have c__law_cell_at : C8.Cal P w K mg base 1 "_law_cell_at" (spD K 2 G__law_cell_at) [] := cal_of F__law_cell_at m__law_cell_at (ok__law_cell_at F__law_cell_at T ) fun _ _ _ _ _ _ us hl => match us, hl with | [_, _], _ => rfl
  have c__law_dice : C8.Cal P w K mg base 1 "_law_dice" (spD K 1 G__law_dice) [] := cal_of F__law_dice m__law_dice (ok__law_dice F__law_dice T ) fun _ _ _ _ _ _ us hl => match us, hl with | [_], _ => rfl
  have c__law_roll : C8.Cal P w K mg base 1 "_law_roll" (spX K 2 G__law_roll) [] := cal_of F__law_roll m__law_roll (ok__law_roll F__law_roll T ) fun _ _ _ _ _ _ us hl => match us, hl with | [_, _], _ => rfl
  have c__law_heats : C8.Cal P w K mg base 2 "_law_heats" (spX K 1 G__law_heats) [] := cal_of F__law_heats m__law_heats (ok__law_heats F__law_heats T c__law_roll) fun _ _ _ _ _ _ us hl => match us, hl with | [_], _ => rfl
  have c__law_cells : C8.Cal P w K mg base 2 "_law_cells" (spX K 3 G__law_cells) [] := cal_of F__law_cells m__law_cells (ok__law_cells F__law_cells T c__law_roll) fun _ _ _ _ _ _ us hl => match us, hl with | [_, _, _], _ => rfl
  have c__law_beside : C8.Cal P w K mg base 1 "_law_beside" (spD K 3 G__law_beside) [] := cal_of F__law_beside m__law_beside (ok__law_beside F__law_beside T ) fun _ _ _ _ _ _ us hl => match us, hl with | [_, _, _], _ => rfl
  have c__law_is_cell : C8.Cal P w K mg base 1 "_law_is_cell" (spD K 3 G__law_is_cell) [] := cal_of F__law_is_cell m__law_is_cell (ok__law_is_cell F__law_is_cell T ) fun _ _ _ _ _ _ us hl => match us, hl with | [_, _, _], _ => rfl
  have c__law_face : C8.Cal P w K mg base 2 "_law_face" (spD K 2 G__law_face) [] := cal_of F__law_face m__law_face (ok__law_face F__law_face T c__law_beside c__law_is_cell) fun _ _ _ _ _ _ us hl => match us, hl with | [_, _], _ => rfl
  have c__law_screens : C8.Cal P w K mg base 3 "_law_screens" (spX K 2 G__law_screens) [] := cal_of F__law_screens m__law_screens (ok__law_screens F__law_screens T c__law_face c__law_roll) fun _ _ _ _ _ _ us hl => match us, hl with | [_, _], _ => rfl
  have c__law_house : C8.Cal P w K mg base 4 "_law_house" (spD K 2 G__law_house) [] := cal_of F__law_house m__law_house (ok__law_house F__law_house T c__law_cell_at c__law_cells c__law_dice c__law_heats c__law_screens) fun _ _ _ _ _ _ us hl => match us, hl with | [_, _], _ => rfl
  have c__law_text : C8.Cal P w K mg base 1 "_law_text" (spD K 1 G__law_text) [] := cal_of F__law_text m__law_text (ok__law_text F__law_text T ) fun _ _ _ _ _ _ us hl => match us, hl with | [_], _ => rfl
  have c__law_bad_row : C8.Cal P w K mg base 1 "_law_bad_row" (spD K 1 G__law_bad_row) [] := cal_of F__law_bad_row m__law_bad_row (ok__law_bad_row F__law_bad_row T ) fun _ _ _ _ _ _ us hl => match us, hl with | [_], _ => rfl
  have c__law_word : C8.Cal P w K mg base 6 "_law_word" (spD K 1 G__law_word) [] := cal_of F__law_word m__law_word (ok__law_word F__law_word T c_read) fun _ _ _ _ _ _ us hl => match us, hl with | [_], _ => rfl
  exact ok_law F_law T c__law_bad_row c__law_cell_at c__law_house c__law_text c__law_word
end Ice
open PySem PySem.W PySem.Calls PyProof.Rows
set_option maxHeartbeats 0 in
theorem PySem.Challenge.cw_icehouse_k17_texts_refused_holds : PySem.Challenge.rw_icehouse_k17_texts_refused.Holds := by
  w_on; o_law
  refine HandSHeadRun.head_any (r := OpenLaw.row PySem.Challenge.rw_icehouse_k17_texts_refused) (q := view (OpenLaw.row PySem.Challenge.rw_icehouse_k17_texts_refused).prog [50]) (H := Ice.hkL) (ob := Ice.obL) (M := 6000) (loose := Ice.looseL) (d := HandSHeadRun.topDef (OpenLaw.row PySem.Challenge.rw_icehouse_k17_texts_refused).prog 50) (kwd := []) Ice.obL_eq
    (by kernel_rfl) (fun s => by kernel_rfl) Ice.runL (by kernel_rfl) (by kernel_rfl) (by kernel_rfl) (by rfl) (by first | assumption | decide +kernel) (by decide +kernel) ⟨rfl, rfl, rfl, rfl, rfl, by decide +kernel⟩ ?hw ?hc
  case hw => w_witness2
  case hc =>
    refine L2.walk_ofE (l := PySem.Challenge.rw_icehouse_k17_texts_refused) (n := 63) (k := 7) (x := "_law_script") (CX := L2.CX0) rfl (by decide) (by kernel_rfl) ⟨rfl, by decide, by decide⟩ ?F (fun _ _ _ _ z => z)
    intro w mg fa h Y G hmg0
    obtain ⟨K, KX, c, e⟩ := Y
    have hmg : mg ("law" : PySem.Str) = some (.ref fa) := by
      have e : (HandSHeadRun.topDef (OpenLaw.row PySem.Challenge.rw_icehouse_k17_texts_refused).prog 50).name = ("law" : PySem.Str) := by kernel_rfl
      rw [← e]
      exact hmg0
    obtain ⟨fd, hb, hF⟩ := Ice.factsL (P := (PySem.Challenge.rw_icehouse_k17_texts_refused).prog) (w := w) KX G hmg c e
    exact ⟨K, fd, Ice.spD K 1 Ice.G_law, KX, hb, fun H a ns hl O hS => ⟨[Ice.eNs ns], fun _ => False, .bl true, .cons (Ice.script_rep O hS) .nil, rfl, Ice.l_law ns, fun v H' _ r => by cases r; rfl⟩, hF⟩

