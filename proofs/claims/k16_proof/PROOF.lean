import PyProof.Rows.All
import Wide.All
import OpenK.AllK
import Wide.FinOn
import HandS.ForMost
import HandS.Deep
import HandS.IsInst
import HandS.Conv
import HandS.Codes
import HandS.Zip
import KE.GoesEnum
import HandS.DictComp
import KE.KDictPairs
import PyProof.WalksMore
import HandS.SortKw
import HandS.Wide
import HandS.TupLen
import HandS.Head0
import HandS.Head1
import HandS.Head2
import HandS.HeadEnd
import HandS.HeadHook1
import HandS.TupAny
import HandS.Text
import KE.KUnpackStar
import HandS.StrMore
import PySem.Challenge.RW_icehouse_k16_read_back
set_option Elab.async false
set_option linter.all false
set_option maxRecDepth 100000
set_option maxHeartbeats 4000000
/-! pure data, how it lies in the abstract heap, readings that speak of data alone -/
namespace Ice
open PySem PySem.Spec PyProof.Rows L2

/-- data; raw: a value of which nothing is said -/
inductive D where
  | non
  | bl (b : Bool)
  | int (i : Int)
  | str (x : Str)
  | tup (ds : List D)
  | lst (ds : List D)
  | dic (ks : List (List Key)) (ds : List D)
  /- a tuple of the written part -/
  | wt (ds : List D)
  /- a list that nobody changes -/
  | fz (ds : List D)
  | raw (v : V)

/-- a list that stays as it is -/
def FzL (K : PySem.W.Frag) (H : Hp) (a : Addr) (xs : List V) : Prop :=
  (∃ o, H a = some (.frz o (.lst xs))) ∨ ∃ (o : Obj) (its : Array Value) (n : Nat), K.lookup a = some o ∧ o.cls = .type "list" ∧ o.dict = none ∧ o.data = .seq its n ∧ its.size ≤ sizeLine ∧ Vals xs its.toList
theorem FzL.sq {K : PySem.W.Frag} {H : Hp} {a : Addr} {xs : List V} (h : FzL K H a xs) : SqL K H a xs := h.elim (fun z => .inl (.inr z)) .inr

/- lists and dicts whose addresses bear ok -/
mutual
inductive Rep (K : PySem.W.Frag) (H : Hp) (ok : Addr → Prop) : V → D → Prop
  | non : Rep K H ok .non .non
  | bl (b : Bool) : Rep K H ok (.bl b) (.bl b)
  | int (i : Int) : Rep K H ok (.int i) (.int i)
  | str (x : Str) : Rep K H ok (.str x) (.str x)
  | raw (v : V) : Rep K H ok v (.raw v)
  | tup {a : Addr} {vs : List V} {ds : List D} : H a = some (.tup vs) → Reps K H ok vs ds → Rep K H ok (.ref a) (.tup ds)
  | wt {a : Addr} {vs : List V} {ds : List D} : SqT K H a vs → Reps K H ok vs ds → Rep K H ok (.ref a) (.wt ds)
  | fz {a : Addr} {vs : List V} {ds : List D} : FzL K H a vs → Reps K H ok vs ds → Rep K H ok (.ref a) (.fz ds)
  | lst {a : Addr} {vs : List V} {ds : List D} : ok a → H a = some (.lst vs) → Reps K H ok vs ds → Rep K H ok (.ref a) (.lst ds)
  | dic {a : Addr} {vs : List V} {ks : List (List Key)} {ds : List D} : ok a → H a = some (.dT (ks.zip vs)) → ks.length = vs.length → Reps K H ok vs ds → Rep K H ok (.ref a) (.dic ks ds)
inductive Reps (K : PySem.W.Frag) (H : Hp) (ok : Addr → Prop) : List V → List D → Prop
  | nil : Reps K H ok [] []
  | cons {v : V} {vs : List V} {d : D} {ds : List D} : Rep K H ok v d → Reps K H ok vs ds → Reps K H ok (v :: vs) (d :: ds)
end

/-- what the law of keeping asks: everything at good addresses stays, and everything that never changes -/
def fixed : HO → Prop
  | .tup _ => True
  | .frz _ _ => True
  | _ => False
def Keeps (ok : Addr → Prop) (H H' : Hp) : Prop := ∀ a o, H a = some o → (ok a ∨ fixed o) → H' a = some o

theorem keeps_rd {ok : Addr → Prop} {H H' : Hp} {a : Addr} {o : HO} (k : Keeps ok H H') (g : ok a) (r : Rd H a o) : Rd H' a o := by
  rcases r with r | ⟨u, r⟩
  · exact .inl (k _ _ r (.inl g))
  · exact .inr ⟨u, k _ _ r (.inl g)⟩
theorem keeps_tup {K : PySem.W.Frag} {ok : Addr → Prop} {H H' : Hp} {a : Addr} {vs : List V} (k : Keeps ok H H') (r : SqT K H a vs) : SqT K H' a vs := by
  rcases r with (r | ⟨u, r⟩) | r
  · exact .inl (.inl (k _ _ r (.inr trivial)))
  · exact .inl (.inr ⟨u, k _ _ r (.inr trivial)⟩)
  · exact .inr r
theorem keeps_fz {K : PySem.W.Frag} {ok : Addr → Prop} {H H' : Hp} {a : Addr} {vs : List V} (k : Keeps ok H H') (r : FzL K H a vs) : FzL K H' a vs := r.elim (fun ⟨u, r⟩ => .inl ⟨u, k _ _ r (.inr trivial)⟩) .inr
mutual
theorem Rep.keeps {K : PySem.W.Frag} {ok ok' : Addr → Prop} {H H' : Hp} (k : Keeps ok H H') (g : ∀ a, ok a → ok' a) : ∀ (d : D) (v : V), Rep K H ok v d → Rep K H' ok' v d
  | .non, _, h => by cases h; exact .non
  | .bl b, _, h => by cases h; exact .bl b
  | .int i, _, h => by cases h; exact .int i
  | .str x, _, h => by cases h; exact .str x
  | .raw w, _, h => by cases h; exact .raw w
  | .tup ds, _, h => by
    cases h with
    | tup s r => exact .tup (k _ _ s (.inr trivial)) (Reps.keeps k g ds _ r)
  | .wt ds, _, h => by
    cases h with
    | wt s r => exact .wt (keeps_tup k s) (Reps.keeps k g ds _ r)
  | .fz ds, _, h => by
    cases h with
    | fz s r => exact .fz (keeps_fz k s) (Reps.keeps k g ds _ r)
  | .lst ds, _, h => by
    cases h with
    | lst o s r => exact .lst (g _ o) (k _ _ s (.inl o)) (Reps.keeps k g ds _ r)
  | .dic ks ds, _, h => by
    cases h with
    | dic o s e r => exact .dic (g _ o) (k _ _ s (.inl o)) e (Reps.keeps k g ds _ r)
theorem Reps.keeps {K : PySem.W.Frag} {ok ok' : Addr → Prop} {H H' : Hp} (k : Keeps ok H H') (g : ∀ a, ok a → ok' a) : ∀ (ds : List D) (vs : List V), Reps K H ok vs ds → Reps K H' ok' vs ds
  | [], _, h => by cases h; exact .nil
  | d :: ds, _, h => by
    cases h with
    | cons a r => exact .cons (Rep.keeps k g d _ a) (Reps.keeps k g ds _ r)
end
theorem Same.keeps {ok : Addr → Prop} {H H' : Hp} (s : Same H H') : Keeps ok H H' := fun a o e _ => s a o e

/- flat data: no list, no dict within -/
mutual
def flat : D → Bool
  | .tup ds => flats ds
  | .wt ds => flats ds
  | .fz ds => flats ds
  | .lst _ => false
  | .dic _ _ => false
  | _ => true
def flats : List D → Bool
  | [] => true
  | d :: ds => flat d && flats ds
end
mutual
theorem Rep.flat {K : PySem.W.Frag} {ok ok' : Addr → Prop} {H : Hp} : ∀ (d : D) (v : V), flat d = true → Rep K H ok v d → Rep K H ok' v d
  | .non, _, _, h => by cases h; exact .non
  | .bl b, _, _, h => by cases h; exact .bl b
  | .int i, _, _, h => by cases h; exact .int i
  | .str x, _, _, h => by cases h; exact .str x
  | .raw w, _, _, h => by cases h; exact .raw w
  | .tup ds, _, f, h => by
    cases h with
    | tup s r => exact .tup s (Reps.flat ds _ f r)
  | .wt ds, _, f, h => by
    cases h with
    | wt s r => exact .wt s (Reps.flat ds _ f r)
  | .fz ds, _, f, h => by
    cases h with
    | fz s r => exact .fz s (Reps.flat ds _ f r)
  | .lst ds, _, f, h => by cases f
  | .dic ks ds, _, f, h => by cases f
theorem Reps.flat {K : PySem.W.Frag} {ok ok' : Addr → Prop} {H : Hp} : ∀ (ds : List D) (vs : List V), flats ds = true → Reps K H ok vs ds → Reps K H ok' vs ds
  | [], _, _, h => by cases h; exact .nil
  | d :: ds, _, f, h => by
    have f' : (Ice.flat d && flats ds) = true := f
    rw [Bool.and_eq_true] at f'
    cases h with
    | cons a r => exact .cons (Rep.flat d _ f'.1 a) (Reps.flat ds _ f'.2 r)
end
theorem Reps.length {K : PySem.W.Frag} {ok : Addr → Prop} {H : Hp} : ∀ {vs : List V} {ds : List D}, Reps K H ok vs ds → vs.length = ds.length
  | _, _, .nil => rfl
  | _, _, .cons _ r => congrArg (· + 1) (Reps.length r)
theorem Reps.get {K : PySem.W.Frag} {ok : Addr → Prop} {H : Hp} : ∀ {vs : List V} {ds : List D} {i : Nat} {d : D}, Reps K H ok vs ds → ds[i]? = some d → ∃ v, vs[i]? = some v ∧ Rep K H ok v d
  | _, _, _, _, .nil, e => by simp at e
  | _, _, 0, _, .cons a _, e => by simp at e; subst e; exact ⟨_, rfl, a⟩
  | _, _, i + 1, _, .cons _ r, e => by
    obtain ⟨v, h1, h2⟩ := Reps.get (i := i) r (by simpa using e)
    exact ⟨v, by simpa using h1, h2⟩
theorem Reps.append {K : PySem.W.Frag} {ok : Addr → Prop} {H : Hp} : ∀ {vs ws : List V} {ds es : List D}, Reps K H ok vs ds → Reps K H ok ws es → Reps K H ok (vs ++ ws) (ds ++ es)
  | _, _, _, _, .nil, s => s
  | _, _, _, _, .cons a r, s => .cons a (Reps.append r s)
theorem Reps.of_get {K : PySem.W.Frag} {ok : Addr → Prop} {H : Hp} : ∀ {vs : List V} {ds : List D} {i : Nat} {v : V}, Reps K H ok vs ds → vs[i]? = some v → ∃ d, ds[i]? = some d ∧ Rep K H ok v d
  | _, _, _, _, .nil, e => by simp at e
  | _, _, 0, _, .cons a _, e => by simp at e; subst e; exact ⟨_, rfl, a⟩
  | _, _, i + 1, _, .cons _ r, e => by
    obtain ⟨v, h1, h2⟩ := Reps.of_get (i := i) r (by simpa using e)
    exact ⟨v, by simpa using h1, h2⟩
theorem Reps.reverse {K : PySem.W.Frag} {ok : Addr → Prop} {H : Hp} : ∀ {vs : List V} {ds : List D}, Reps K H ok vs ds → Reps K H ok vs.reverse ds.reverse
  | _, _, .nil => .nil
  | _, _, .cons a r => by
    rw [List.reverse_cons, List.reverse_cons]
    exact Reps.append (Reps.reverse r) (.cons a .nil)

/-! ### data as the library's own -/
mutual
def py : D → PyData
  | .non => .none
  | .bl b => .bool b
  | .int i => .int i
  | .str x => .str x
  | .tup ds => .tuple (pys ds)
  | .lst ds => .list (pys ds)
  | .wt ds => .tuple (pys ds)
  | .dic _ _ => .dict []
  | .raw _ => .dict []
  | .fz _ => .dict []
def pys : List D → List PyData
  | [] => []
  | d :: ds => py d :: pys ds
end
mutual
theorem Rep.dp {K : PySem.W.Frag} {ok : Addr → Prop} {H : Hp} : ∀ (d : D) (v : V), PyData.canLay0 (py d) = true → Rep K H ok v d → Dp K H v (py d)
  | .non, _, _, h => by cases h; exact .non
  | .bl b, _, _, h => by cases h; exact .bl b
  | .int i, _, _, h => by cases h; exact .int i
  | .str x, _, _, h => by cases h; exact .str x
  | .raw w, _, c, h => by cases c
  | .fz ds, _, c, h => by cases c
  | .tup ds, _, c, h => by
    cases h with
    | tup s r => exact .tup (SqT.of s) (Reps.dp ds _ c r)
  | .wt ds, _, c, h => by
    cases h with
    | wt s r => exact .tup s (Reps.dp ds _ c r)
  | .lst ds, _, c, h => by
    cases h with
    | lst o s r => exact .lst (SqL.of s) (Reps.dp ds _ c r)
  | .dic ks ds, _, c, h => by cases c
theorem Reps.dp {K : PySem.W.Frag} {ok : Addr → Prop} {H : Hp} : ∀ (ds : List D) (vs : List V), PyData.canLayAll0 (pys ds) = true → Reps K H ok vs ds → DpAll K H vs (pys ds)
  | [], _, _, h => by cases h; exact .nil
  | d :: ds, _, c, h => by
    have c' : (PyData.canLay0 (py d) && PyData.canLayAll0 (pys ds)) = true := c
    rw [Bool.and_eq_true] at c'
    cases h with
    | cons a r => exact .cons (Rep.dp d _ c'.1 a) (Reps.dp ds _ c'.2 r)
end

/-! ### the names' data, the readings -/
abbrev Sd := List (Option D)
def Rs (K : PySem.W.Frag) (H : Hp) (ok : Addr → Prop) (S : Sd) (σ : L2.St) : Prop := ∀ (i : Nat) (d : D), S[i]? = some (some d) → ∃ v, σ[i]? = some (some v) ∧ Rep K H ok v d
theorem Rs.keeps {K : PySem.W.Frag} {ok ok' : Addr → Prop} {H H' : Hp} {S : Sd} {σ : L2.St} (k : Keeps ok H H') (g : ∀ a, ok a → ok' a) (r : Rs K H ok S σ) : Rs K H' ok' S σ := fun i d e => by
  obtain ⟨v, h1, h2⟩ := r i d e
  exact ⟨v, h1, h2.keeps k g⟩
/-- good before, or new -/
def ex (ok : Addr → Prop) (H : Hp) : Addr → Prop := fun a => ok a ∨ H a = none
theorem ex_of {ok : Addr → Prop} {H : Hp} : ∀ a, ok a → ex ok H a := fun _ h => .inl h
theorem ex_ex {ok : Addr → Prop} {H H1 : Hp} (s : Same H H1) : ∀ a, ex ok H1 a → ex ok H a := fun a h => h.elim .inl fun n => .inr (s.free n)
theorem ex_ex2 {ok : Addr → Prop} {H H1 : Hp} (s : Same H H1) : ∀ a, ex (ex ok H) H1 a → ex ok H a := fun a h => h.elim (fun z => z) fun n => .inr (s.free n)

abbrev Mi := Sd → Option D
abbrev Mt := Sd → Option Bool
abbrev Ma := Sd → Option (List D)
def tE (K : PySem.W.Frag) (m : Mi) : TE := fun σ H Q => ∃ ok S d, Rs K H ok S σ ∧ m S = some d ∧ ∀ v H', Same H H' → Rep K H' (ex ok H) v d → Q v H'
def tT (K : PySem.W.Frag) (m : Mt) : TT := fun σ H Q => ∃ ok S b, Rs K H ok S σ ∧ m S = some b ∧ ∀ H', Same H H' → Q b H'
def tA (K : PySem.W.Frag) (m : Ma) : TA := fun σ H Q => ∃ ok S ds, Rs K H ok S σ ∧ m S = some ds ∧ ∀ vs H', Same H H' → Reps K H' (ex ok H) vs ds → Q vs H'

abbrev Ev (X : Cx) (e : Expr) (m : Mi) : Prop := PE X e (tE X.K m)
abbrev Et (X : Cx) (e : Expr) (m : Mt) : Prop := PT X e (tT X.K m)
abbrev Ew (X : Cx) (e : Expr) (m : Mt) : Prop := PW X e (tT X.K m)
abbrev Ea (X : Cx) (es : List Expr) (m : Ma) : Prop := PA X es (tA X.K m)

theorem PE.imp {X : Cx} {e : Expr} {t t' : TE} (h : PE X e t) (g : ∀ σ H Q, t' σ H Q → t σ H Q) : PE X e t' := ⟨fun pins s σ H Q I q => h.run pins s σ H Q I (g σ H Q q)⟩
theorem PT.imp {X : Cx} {e : Expr} {t t' : TT} (h : PT X e t) (g : ∀ σ H Q, t' σ H Q → t σ H Q) : PT X e t' := ⟨fun pins s σ H Q I q => h.run pins s σ H Q I (g σ H Q q)⟩
theorem PW.imp {X : Cx} {e : Expr} {t t' : TT} (h : PW X e t) (g : ∀ σ H Q, t' σ H Q → t σ H Q) : PW X e t' := ⟨fun wh pins s σ H Q I q => h.run wh pins s σ H Q I (g σ H Q q)⟩
theorem PA.imp {X : Cx} {es : List Expr} {t t' : TA} (h : PA X es t) (g : ∀ σ H Q, t' σ H Q → t σ H Q) : PA X es t' := ⟨fun pos pins s σ H Q I q => h.run pos pins s σ H Q I (g σ H Q q)⟩
theorem PS.imp {X : Cx} {st : Stmt} {t t' : TS} (h : PS X st t) (g : ∀ D σ H, t' D σ H → t D σ H) : PS X st t' := ⟨fun pins s σ H D I q => h.run pins s σ H D I (g D σ H q)⟩
theorem PSs.imp {X : Cx} {st : List Stmt} {t t' : TS} (h : PSs X st t) (g : ∀ D σ H, t' D σ H → t D σ H) : PSs X st t' := ⟨fun pins s σ H D I q => h.run pins s σ H D I (g D σ H q)⟩
theorem PI.imp {X : Cx} {tg e : Expr} {t t' : TI} (h : PI X tg e t) (g : ∀ σ H Q, t' σ H Q → t σ H Q) : PI X tg e t' := ⟨fun pins s σ H Q I q => h.run pins s σ H Q I (g σ H Q q)⟩

/-! ### mirrors' words -/
def mV (i : Nat) : Mi := fun S => match S[i]? with
  | some (some d) => some d
  | _ => none
def mC (d : D) : Mi := fun _ => some d
def m2 (f : D → D → Option D) (a b : Mi) : Mi := fun S => (a S).bind fun x => (b S).bind fun y => f x y
def m1 (f : D → Option D) (a : Mi) : Mi := fun S => (a S).bind f
def mA (f : List D → Option D) (a : Ma) : Mi := fun S => (a S).bind f
def aNil : Ma := fun _ => some []
def aCons (m : Mi) (r : Ma) : Ma := fun S => (m S).bind fun x => (r S).bind fun xs => some (x :: xs)

section
variable {X : Cx} {e a b : Expr} {es : List Expr} {ma mb : Mi} {mr : Ma} {pos : Pos}
theorem ev_v (i : Nat) {x : Str} (hN : X.N[i]? = some x := by rfl) (hv : Vis X.env.scope x := by first | exact Or.inl rfl | exact Or.inr (Or.inl rfl) | exact Or.inr (Or.inr rfl)) (hd : (x == ("__debug__" : Str)) = false := by decide)
    (hcd : (x == ("__classdict__" : Str)) = false := by decide) : Ev X (.Name x pos) (mV i) := by
  refine PE.imp (pe_var hN hv hd hcd) fun σ H Q h => ?_
  obtain ⟨ok, S, d, r, m, q⟩ := h
  unfold mV at m
  split at m
  · next d' e' =>
    cases m
    obtain ⟨v, h1, h2⟩ := r i _ e'
    exact ⟨v, h1, q v H (Same.refl H) (h2.keeps (Same.keeps (Same.refl H)) ex_of)⟩
  · cases m
theorem ev_c {v : V} {d : D} (h : PE X e (tC v)) (r : ∀ H ok, Rep X.K H ok v d) : Ev X e (mC d) := by
  refine PE.imp h fun σ H Q hh => ?_
  obtain ⟨ok, S, d', r', m, q⟩ := hh
  cases m
  exact q v H (Same.refl H) (r _ _)
theorem ev_int {i j} : Ev X (.Constant (.int i) j pos) (mC (.int i)) := ev_c pe_int fun _ _ => .int i
theorem ev_bl {c j} : Ev X (.Constant (.bool c) j pos) (mC (.bl c)) := ev_c pe_bl fun _ _ => .bl c
theorem ev_non {j} : Ev X (.Constant .none j pos) (mC .non) := ev_c pe_non fun _ _ => .non
theorem ev_str {x j} : Ev X (.Constant (.str x) j pos) (mC (.str x)) := ev_c pe_str fun _ _ => .str x
/-- a constant of the module: an int -/
theorem ev_gi {x : Str} {i : Int} (hg : Gl X x) (hm : ∃ t, X.mg x = some (.int i t)) (hd : (x == ("__debug__" : Str)) = false := by decide) : Ev X (.Name x pos) (mC (.int i)) := by
  obtain ⟨t, hm⟩ := hm
  exact ev_c (pe_glob hg hm (v := .int i) ⟨t, rfl⟩ hd) fun _ _ => .int i
/-- a constant of the module: a tuple of the written part -/
theorem ev_gr {x : Str} {d : D} (hg : Gl X x) (hm : ∃ p, X.mg x = some (.ref p) ∧ ∀ H ok, Rep X.K H ok (.ref p) d) (hd : (x == ("__debug__" : Str)) = false := by decide) : Ev X (.Name x pos) (mC d) := by
  obtain ⟨p, hm, r⟩ := hm
  exact ev_c (pe_glob hg hm (v := .ref p) rfl hd) r

/-- two readings in a row -/
theorem bind2 {K : PySem.W.Frag} {σ : L2.St} {H : Hp} {ok : Addr → Prop} {S : Sd} {x y : D} {R : V → V → Hp → Prop} (r : Rs K H ok S σ) (h1 : ma S = some x) (h2 : mb S = some y)
    (h : ∀ vx vy H2, Same H H2 → Rep K H2 (ex ok H) vx x → Rep K H2 (ex ok H) vy y → R vx vy H2) : tE K ma σ H fun vx H1 => tE K mb σ H1 fun vy H2 => R vx vy H2 :=
  ⟨ok, S, x, r, h1, fun vx H1 s1 r1 => ⟨ok, S, y, r.keeps (Same.keeps s1) (fun _ z => z), h2, fun vy H2 s2 r2 => h vx vy H2 (s1.trans s2) (r1.keeps (Same.keeps s2) fun _ z => z) (r2.keeps (Same.keeps (Same.refl _)) (ex_ex s1))⟩⟩
theorem bind_some {α β : Type} {o : Option α} {f : α → Option β} {z : β} (h : o.bind f = some z) : ∃ x, o = some x ∧ f x = some z := by
  cases o with
  | none => cases h
  | some x => exact ⟨x, rfl, h⟩
/-- an operator by values, over data -/
def OpD (K : PySem.W.Frag) (r : R2) (f : D → D → Option D) : Prop := ∀ (vx vy : V) (x y z : D) (H : Hp) (ok : Addr → Prop) (Q : VK), Rep K H ok vx x → Rep K H ok vy y → f x y = some z → (∀ v H', Same H H' → Rep K H' (ex ok H) v z → Q v H') → r vx vy H Q
def UnD (K : PySem.W.Frag) (r : V → Hp → VK → Prop) (f : D → Option D) : Prop := ∀ (vx : V) (x z : D) (H : Hp) (ok : Addr → Prop) (Q : VK), Rep K H ok vx x → f x = some z → (∀ v H', Same H H' → Rep K H' (ex ok H) v z → Q v H') → r vx H Q
def CaD (K : PySem.W.Frag) (r : List V → Hp → VK → Prop) (f : List D → Option D) : Prop := ∀ (vs : List V) (ds : List D) (z : D) (H : Hp) (ok : Addr → Prop) (Q : VK), Reps K H ok vs ds → f ds = some z → (∀ v H', Same H H' → Rep K H' (ex ok H) v z → Q v H') → r vs H Q
theorem back {K : PySem.W.Frag} {H H2 : Hp} {ok : Addr → Prop} {z : D} {Q : VK} (s : Same H H2) (q : ∀ v H', Same H H' → Rep K H' (ex ok H) v z → Q v H') : ∀ v H', Same H2 H' → Rep K H' (ex (ex ok H) H2) v z → Q v H' :=
  fun v H' s' r => q v H' (s.trans s') (r.keeps (Same.keeps (Same.refl _)) (ex_ex2 s))
theorem t_op {K : PySem.W.Frag} {r : R2} {f : D → D → Option D} {σ : L2.St} {H : Hp} {Q : VK} (hf : OpD K r f) (h : tE K (m2 f ma mb) σ H Q) : tOp r (tE K ma) (tE K mb) σ H Q := by
  obtain ⟨ok, S, d, rs, m, q⟩ := h
  obtain ⟨x, h1, m⟩ := bind_some m
  obtain ⟨y, h2, m⟩ := bind_some m
  exact bind2 rs h1 h2 fun vx vy H2 s rx ry => hf vx vy x y d H2 _ Q rx ry m (back s q)
theorem t_un {K : PySem.W.Frag} {r : V → Hp → VK → Prop} {f : D → Option D} {σ : L2.St} {H : Hp} {Q : VK} (hf : UnD K r f) (h : tE K (m1 f ma) σ H Q) : tE K ma σ H fun v H1 => r v H1 Q := by
  obtain ⟨ok, S, d, rs, m, q⟩ := h
  obtain ⟨x, h1, m⟩ := bind_some m
  exact ⟨ok, S, x, rs, h1, fun vx H1 s rx => hf vx x d H1 _ Q rx m (back s q)⟩
theorem ev_bin {op : Operator} {r : R2} {f : D → D → Option D} (ho : OpR X (binaryOp op) r) (hf : OpD X.K r f) (ha : Ev X a ma) (hb : Ev X b mb) : Ev X (.BinOp a op b pos) (m2 f ma mb) :=
  PE.imp (pe_op ho ha hb) fun _ _ _ h => t_op hf h
theorem ev_una {op : UnaryOp} {r : V → Hp → VK → Prop} {f : D → Option D} (ho : UnR X (unaryOp op) r) (hf : UnD X.K r f) (ha : Ev X a ma) : Ev X (.UnaryOp op a pos) (m1 f ma) :=
  PE.imp (pe_un ho ha) fun _ _ _ h => t_un hf h
theorem ev_cmp {op : CmpOp} {r : R2} {f : D → D → Option D} (ho : OpR X (compareOp op) r) (hf : OpD X.K r f) (ha : Ev X a ma) (hb : Ev X b mb) (hm : behindInMarks op b = false := by first | exact nomark _ | rfl) : Ev X (.Compare a [op] [b] pos) (m2 f ma mb) :=
  PE.imp (pe_cmpR ho ha hb hm) fun _ _ _ h => t_op hf h
theorem ev_sub {r : R2} {f : D → D → Option D} (hr : IxR X r) (hf : OpD X.K r f) (ha : Ev X a ma) (hb : Ev X b mb) (hs : PlainIx b := by exact fun _ _ => rfl) : Ev X (.Subscript a b pos) (m2 f ma mb) :=
  PE.imp (pe_ix hr ha hb hs) fun _ _ _ h => t_op hf h

/-! arguments -/
theorem ea_nil : Ea X [] aNil := PA.imp pa_nil fun σ H Q h => by
  obtain ⟨ok, S, ds, rs, m, q⟩ := h
  cases m
  exact q [] H (Same.refl H) .nil
theorem ea_cons (ha : Ev X e ma) (hr : Ea X es mr) (hs : starEach (e :: es) X.env = (false, eval e X.env) :: starEach es X.env := by rfl) : Ea X (e :: es) (aCons ma mr) := PA.imp (pa_cons ha hr hs) fun σ H Q h => by
  obtain ⟨ok, S, ds, rs, m, q⟩ := h
  obtain ⟨x, h1, m⟩ := bind_some m
  obtain ⟨xs, h2, m⟩ := bind_some m
  cases m
  exact ⟨ok, S, x, rs, h1, fun v H1 s1 r1 => ⟨ok, S, xs, rs.keeps (Same.keeps s1) (fun _ z => z), h2, fun vs H2 s2 r2 =>
    q _ H2 (s1.trans s2) (.cons (r1.keeps (Same.keeps s2) fun _ z => z) (r2.keeps (Same.keeps (Same.refl _)) (ex_ex s1)))⟩⟩
theorem t_ca {K : PySem.W.Frag} {r : List V → Hp → VK → Prop} {f : List D → Option D} {σ : L2.St} {H : Hp} {Q : VK} (hf : CaD K r f) (h : tE K (mA f mr) σ H Q) : tA K mr σ H fun vs H1 => r vs H1 Q := by
  obtain ⟨ok, S, d, rs, m, q⟩ := h
  obtain ⟨xs, h1, m⟩ := bind_some m
  exact ⟨ok, S, xs, rs, h1, fun vs H1 s r1 => hf vs xs d H1 _ Q r1 m (back s q)⟩
end
end Ice

/-! operations over data -/
namespace Ice
open PySem PySem.Spec PyProof.Rows L2

def addD : D → D → Option D
  | .int i, .int j => some (.int (i + j))
  | .lst xs, .lst ys => if xs.length + ys.length ≤ 1000000 then some (.lst (xs ++ ys)) else none
  | _, _ => none
def subD : D → D → Option D
  | .int i, .int j => some (.int (i - j))
  | _, _ => none
def mulD : D → D → Option D
  | .int i, .int j => if (-18446744073709551616 < i ∧ i < 18446744073709551616) ∨ (-18446744073709551616 < j ∧ j < 18446744073709551616) then some (.int (i * j)) else none
  | _, _ => none
def divD : D → D → Option D
  | .int i, .int j => if 0 < j ∧ j < 1073741824 then some (.int (i / j)) else none
  | _, _ => none
def modD : D → D → Option D
  | .int i, .int j => if 0 < j then some (.int (i % j)) else none
  | _, _ => none
def powD : D → D → Option D
  | .int i, .int j => if 0 ≤ j ∧ j ≤ 64 ∧ i.natAbs < 18446744073709551616 then some (.int (i ^ j.toNat)) else none
  | _, _ => none
def negD : D → Option D
  | .int i => some (.int (-i))
  | _ => none
def ltD : D → D → Option D
  | .int i, .int j => some (.bl (decide (i < j)))
  | _, _ => none
def leD : D → D → Option D
  | .int i, .int j => some (.bl (decide (i ≤ j)))
  | _, _ => none
def gtD : D → D → Option D
  | .int i, .int j => some (.bl (decide (j < i)))
  | _, _ => none
def geD : D → D → Option D
  | .int i, .int j => some (.bl (decide (j ≤ i)))
  | _, _ => none
def eqD (x y : D) : Option D := if SeqAt.shaped (py x) = true ∧ SeqAt.shaped (py y) = true then some (.bl (PyData.eqv (py x) (py y))) else none
def neD (x y : D) : Option D := if SeqAt.shaped (py x) = true ∧ SeqAt.shaped (py y) = true then some (.bl (!PyData.eqv (py x) (py y))) else none
def isN : D → Option Bool
  | .raw _ => none
  | .non => some true
  | _ => some false
def isD : D → D → Option D
  | x, .non => (isN x).map .bl
  | _, _ => none
def isnD : D → D → Option D
  | x, .non => (isN x).map fun b => .bl (!b)
  | _, _ => none
def inL : D → D → Option D
  | x, .lst ds => if SeqAt.shaped (py x) = true ∧ SeqAt.shaped (.list (pys ds)) = true then some (.bl ((pys ds).any fun z => PyData.eqv z (py x))) else none
  | _, _ => none
def ninL : D → D → Option D
  | x, .lst ds => if SeqAt.shaped (py x) = true ∧ SeqAt.shaped (.list (pys ds)) = true then some (.bl (!(pys ds).any fun z => PyData.eqv z (py x))) else none
  | _, _ => none
/-- a key of ints and texts -/
def keyOf : List D → Option (List Key)
  | [] => some []
  | .int i :: r => (keyOf r).map fun k => .inl i :: k
  | .str x :: r => (keyOf r).map fun k => .inr x :: k
  | _ :: _ => none
def inK : D → D → Option D
  | .tup xs, .dic ks _ => (keyOf xs).map fun k => .bl (ks.any fun j => decide (j = k))
  | _, _ => none
def ninK : D → D → Option D
  | .tup xs, .dic ks _ => (keyOf xs).map fun k => .bl (!ks.any fun j => decide (j = k))
  | _, _ => none
def ixD : D → D → Option D
  | .tup ds, .int i => atI ds i
  | .lst ds, .int i => atI ds i
  | .fz ds, .int i => atI ds i
  | _, _ => none
def tru : D → Option Bool
  | .non => some false
  | .bl b => some b
  | .int i => some (i != 0)
  | .tup ds => some (!ds.isEmpty)
  | .lst ds => some (!ds.isEmpty)
  | _ => none

section
variable {K : PySem.W.Frag}
theorem rep_here {H : Hp} {ok : Addr → Prop} {v : V} {d : D} (r : Rep K H ok v d) : Rep K H (ex ok H) v d := r.keeps (Same.keeps (Same.refl H)) ex_of
theorem same_new {H : Hp} {p : Addr} {o : HO} (h : H p = none) : Same H (upd H p o) := fun b x e => by
  rw [upd_ne (ne_of_none e h)]
  exact e
theorem odI {g : Int → Int → V} {f : D → D → Option D} {C : Int → Int → Prop} (h : ∀ x y z, f x y = some z → ∃ i j, x = .int i ∧ y = .int j ∧ C i j ∧ ∀ H ok, Rep K H ok (g i j) z) : OpD K (rI C g) f := fun vx vy x y z H ok Q rx ry e q => by
  obtain ⟨i, j, rfl, rfl, c, r⟩ := h x y z e
  cases rx
  cases ry
  exact ⟨i, j, rfl, rfl, c, q _ H (Same.refl H) (r _ _)⟩
theorem odI0 {g : Int → Int → V} {f : D → D → Option D} (h : ∀ x y z, f x y = some z → ∃ i j, x = .int i ∧ y = .int j ∧ ∀ H ok, Rep K H ok (g i j) z) : OpD K (rI0 g) f := fun vx vy x y z H ok Q rx ry e q => by
  obtain ⟨i, j, rfl, rfl, r⟩ := h x y z e
  cases rx
  cases ry
  exact ⟨i, j, rfl, rfl, q _ H (Same.refl H) (r _ _)⟩
theorem od_sub : OpD K (rI0 fun i j => .int (i - j)) subD := odI0 fun x y z e => by
  unfold subD at e
  split at e
  · next i j => cases e; exact ⟨i, j, rfl, rfl, fun _ _ => .int _⟩
  · cases e
theorem od_lt : OpD K (rI0 fun i j => .bl (decide (i < j))) ltD := odI0 fun x y z e => by
  unfold ltD at e
  split at e
  · next i j => cases e; exact ⟨i, j, rfl, rfl, fun _ _ => .bl _⟩
  · cases e
theorem od_le : OpD K (rI0 fun i j => .bl (decide (i ≤ j))) leD := odI0 fun x y z e => by
  unfold leD at e
  split at e
  · next i j => cases e; exact ⟨i, j, rfl, rfl, fun _ _ => .bl _⟩
  · cases e
theorem od_gt : OpD K (rI0 fun i j => .bl (decide (j < i))) gtD := odI0 fun x y z e => by
  unfold gtD at e
  split at e
  · next i j => cases e; exact ⟨i, j, rfl, rfl, fun _ _ => .bl _⟩
  · cases e
theorem od_ge : OpD K (rI0 fun i j => .bl (decide (j ≤ i))) geD := odI0 fun x y z e => by
  unfold geD at e
  split at e
  · next i j => cases e; exact ⟨i, j, rfl, rfl, fun _ _ => .bl _⟩
  · cases e
theorem od_mul : OpD K (rI CMul fun i j => .int (i * j)) mulD := odI fun x y z e => by
  unfold mulD at e
  split at e
  · next i j =>
    by_cases c : (-18446744073709551616 < i ∧ i < 18446744073709551616) ∨ (-18446744073709551616 < j ∧ j < 18446744073709551616)
    · rw [if_pos c] at e
      cases e
      exact ⟨i, j, rfl, rfl, c, fun _ _ => .int _⟩
    · rw [if_neg c] at e
      cases e
  · cases e
theorem od_div : OpD K (rI CDiv fun i j => .int (i / j)) divD := odI fun x y z e => by
  unfold divD at e
  split at e
  · next i j =>
    by_cases c : 0 < j ∧ j < 1073741824
    · rw [if_pos c] at e
      cases e
      exact ⟨i, j, rfl, rfl, c, fun _ _ => .int _⟩
    · rw [if_neg c] at e
      cases e
  · cases e
theorem od_mod : OpD K (rI (fun _ j => 0 < j) fun i j => .int (i % j)) modD := odI fun x y z e => by
  unfold modD at e
  split at e
  · next i j =>
    by_cases c : 0 < j
    · rw [if_pos c] at e
      cases e
      exact ⟨i, j, rfl, rfl, c, fun _ _ => .int _⟩
    · rw [if_neg c] at e
      cases e
  · cases e
theorem od_pow : OpD K (rI CPow fun i j => .int (i ^ j.toNat)) powD := odI fun x y z e => by
  unfold powD at e
  split at e
  · next i j =>
    by_cases c : 0 ≤ j ∧ j ≤ 64 ∧ i.natAbs < 18446744073709551616
    · rw [if_pos c] at e
      cases e
      exact ⟨i, j, rfl, rfl, ⟨c.1, by omega, c.2.2⟩, fun _ _ => .int _⟩
    · rw [if_neg c] at e
      cases e
  · cases e
theorem ud_neg : UnD K (rU fun i => .int (-i)) negD := fun vx x z H ok Q rx e q => by
  unfold negD at e
  split at e
  · next i =>
    cases e
    cases rx
    exact ⟨i, rfl, q _ H (Same.refl H) (.int _)⟩
  · cases e
theorem od_add : OpD K (fun x y H Q => (rI0 fun i j => .int (i + j)) x y H Q ∨ rCat x y H Q) addD := fun vx vy x y z H ok Q rx ry e q => by
  unfold addD at e
  split at e
  · next i j =>
    cases e
    cases rx
    cases ry
    exact .inl ⟨i, j, rfl, rfl, q _ H (Same.refl H) (.int _)⟩
  · next xs ys =>
    by_cases c : xs.length + ys.length ≤ 1000000
    · rw [if_pos c] at e
      cases e
      cases rx with
      | lst o1 h1 r1 =>
        cases ry with
        | lst o2 h2 r2 =>
          refine .inr ⟨_, _, _, _, rfl, rfl, h1, h2, ?_, fun p hp => ?_⟩
          · rw [r1.length, r2.length]
            exact Nat.le_trans c (by decide)
          · exact q _ _ (same_new hp) (.lst (.inr hp) upd_same (Reps.append (r1.keeps (Same.keeps (same_new hp)) ex_of) (r2.keeps (Same.keeps (same_new hp)) ex_of)))
    · rw [if_neg c] at e
      cases e
  · cases e
theorem od_eq : OpD K (rEqD K) eqD := fun vx vy x y z H ok Q rx ry e q => by
  unfold eqD at e
  split at e
  · next c =>
    cases e
    exact ⟨_, _, rx.dp x _ (SeqAt.canLay_of_shaped c.1), ry.dp y _ (SeqAt.canLay_of_shaped c.2), c.1, c.2, q _ H (Same.refl H) (.bl _)⟩
  · cases e
theorem od_ne : OpD K (rNeD K) neD := fun vx vy x y z H ok Q rx ry e q => by
  unfold neD at e
  split at e
  · next c =>
    cases e
    exact ⟨_, _, rx.dp x _ (SeqAt.canLay_of_shaped c.1), ry.dp y _ (SeqAt.canLay_of_shaped c.2), c.1, c.2, q _ H (Same.refl H) (.bl _)⟩
  · cases e
theorem isN_ok {H : Hp} {ok : Addr → Prop} {v : V} {x : D} {b : Bool} (r : Rep K H ok v x) (e : isN x = some b) : decide (v = .non) = b := by
  cases r <;> cases e <;> rfl
theorem od_is : OpD K (fun x y H Q => y = .non ∧ Q (.bl (decide (x = .non))) H) isD := fun vx vy x y z H ok Q rx ry e q => by
  unfold isD at e
  split at e
  · cases h : isN x with
    | none => rw [h] at e; cases e
    | some b =>
      rw [h] at e
      cases e
      cases ry
      refine ⟨rfl, ?_⟩
      rw [isN_ok rx h]
      exact q _ H (Same.refl H) (.bl _)
  · cases e
theorem od_isn : OpD K (fun x y H Q => y = .non ∧ Q (.bl (!decide (x = .non))) H) isnD := fun vx vy x y z H ok Q rx ry e q => by
  unfold isnD at e
  split at e
  · cases h : isN x with
    | none => rw [h] at e; cases e
    | some b =>
      rw [h] at e
      cases e
      cases ry
      refine ⟨rfl, ?_⟩
      rw [isN_ok rx h]
      exact q _ H (Same.refl H) (.bl _)
  · cases e
theorem od_inL : OpD K (rInD K) inL := fun vx vy x y z H ok Q rx ry e q => by
  unfold inL at e
  split at e
  · next ds =>
    split at e
    · next c =>
      cases e
      exact ⟨_, _, rx.dp _ _ (SeqAt.canLay_of_shaped c.1), Rep.dp (.lst ds) _ (SeqAt.canLay_of_shaped c.2) ry, c.1, c.2, q _ H (Same.refl H) (.bl _)⟩
    · cases e
  · cases e
theorem od_ninL : OpD K (rNotInD K) ninL := fun vx vy x y z H ok Q rx ry e q => by
  unfold ninL at e
  split at e
  · next ds =>
    split at e
    · next c =>
      cases e
      exact ⟨_, _, rx.dp _ _ (SeqAt.canLay_of_shaped c.1), Rep.dp (.lst ds) _ (SeqAt.canLay_of_shaped c.2) ry, c.1, c.2, q _ H (Same.refl H) (.bl _)⟩
    · cases e
  · cases e
theorem key_ok {H : Hp} {ok : Addr → Prop} : ∀ {xs : List D} {vs : List V} {k : List Key}, Reps K H ok vs xs → keyOf xs = some k → vs = k.map kV
  | [], _, _, r, e => by
    cases r
    cases e
    rfl
  | x :: xs, _, k, r, e => by
    cases r with
    | cons a r =>
      unfold keyOf at e
      split at e
      · cases ‹_ :: _ = _›
      · next i rr he =>
        cases he
        cases h : keyOf xs with
        | none => rw [h] at e; cases e
        | some k' =>
          rw [h] at e
          cases e
          cases a
          rw [key_ok r h]
          rfl
      · next i rr he =>
        cases he
        cases h : keyOf xs with
        | none => rw [h] at e; cases e
        | some k' =>
          rw [h] at e
          cases e
          cases a
          rw [key_ok r h]
          rfl
      · cases e
theorem zip_any (k : List Key) : ∀ (ks : List (List Key)) (vs : List V), ks.length = vs.length → ((ks.zip vs).any fun kv => decide (kv.1 = k)) = ks.any fun j => decide (j = k)
  | [], [], _ => rfl
  | j :: ks, v :: vs, h => by
    rw [List.zip_cons_cons, List.any_cons, List.any_cons, zip_any k ks vs (Nat.succ.inj h)]
theorem ix_ok {H : Hp} {ok : Addr → Prop} {vs : List V} {ds : List D} {i : Int} {d : D} (r : Reps K H ok vs ds) (e : atI ds i = some d) : ∃ v, atI vs i = some v ∧ Rep K H ok v d := by
  unfold atI at e ⊢
  rw [r.length]
  cases h : ixN ds.length i with
  | none => rw [h] at e; cases e
  | some j =>
    rw [h] at e
    exact r.get (i := j) e
theorem od_ix : OpD K (rIx K) ixD := fun vx vy x y z H ok Q rx ry e q => by
  unfold ixD at e
  split at e
  · next ds i =>
    cases ry
    cases rx with
    | tup h r =>
      obtain ⟨v, h1, h2⟩ := ix_ok r e
      exact .inr (.inl ⟨_, _, i, v, rfl, rfl, SqT.of h, h1, q v H (Same.refl H) (rep_here h2)⟩)
  · next ds i =>
    cases ry
    cases rx with
    | lst o h r =>
      obtain ⟨v, h1, h2⟩ := ix_ok r e
      exact .inl ⟨_, _, i, v, rfl, rfl, SqL.of h, h1, q v H (Same.refl H) (rep_here h2)⟩
  · next ds i =>
    cases ry
    cases rx with
    | fz h r =>
      obtain ⟨v, h1, h2⟩ := ix_ok r e
      exact .inl ⟨_, _, i, v, rfl, rfl, h.sq, h1, q v H (Same.refl H) (rep_here h2)⟩
  · cases e
theorem emp_ok {H : Hp} {ok : Addr → Prop} {vs : List V} {ds : List D} (r : Reps K H ok vs ds) : (!ds.isEmpty) = !vs.isEmpty := by
  cases r <;> rfl
theorem tru_of {H : Hp} {ok : Addr → Prop} {v : V} {d : D} {b : Bool} (r : Rep K H ok v d) (e : tru d = some b) : TruV K v H b := by
  cases r with
  | non => cases e; rfl
  | bl c => cases e; rfl
  | int i => cases e; rfl
  | str x => cases e
  | raw w => cases e
  | tup h r => cases e; exact .inr (.inl ⟨_, SqT.of h, emp_ok r⟩)
  | wt h r => cases e
  | fz h r => cases e
  | lst o h r => cases e; exact .inl ⟨_, SqL.of h, emp_ok r⟩
  | dic o h l r => cases e
end

/-! ### expressions -/
section
variable {X : Cx} {a b c e : Expr} {es rest : List Expr} {ma mb mc : Mi} {ta tb : Mt} {mr : Ma} {pos : Pos}
theorem ev_add (ha : Ev X a ma) (hb : Ev X b mb) : Ev X (.BinOp a .Add b pos) (m2 addD ma mb) := ev_bin (OpR.or op_add op_cat) od_add ha hb
theorem ev_subt (ha : Ev X a ma) (hb : Ev X b mb) : Ev X (.BinOp a .Sub b pos) (m2 subD ma mb) := ev_bin op_sub od_sub ha hb
theorem ev_mul (ha : Ev X a ma) (hb : Ev X b mb) : Ev X (.BinOp a .Mult b pos) (m2 mulD ma mb) := ev_bin op_mul od_mul ha hb
theorem ev_div (ha : Ev X a ma) (hb : Ev X b mb) : Ev X (.BinOp a .FloorDiv b pos) (m2 divD ma mb) := ev_bin op_fdiv od_div ha hb
theorem ev_mod (ha : Ev X a ma) (hb : Ev X b mb) : Ev X (.BinOp a .Mod b pos) (m2 modD ma mb) := ev_bin op_mod od_mod ha hb
theorem ev_pow (ha : Ev X a ma) (hb : Ev X b mb) : Ev X (.BinOp a .Pow b pos) (m2 powD ma mb) := ev_bin op_pow od_pow ha hb
theorem ev_neg (ha : Ev X a ma) : Ev X (.UnaryOp .USub a pos) (m1 negD ma) := ev_una un_neg ud_neg ha
theorem ev_lt (ha : Ev X a ma) (hb : Ev X b mb) : Ev X (.Compare a [.Lt] [b] pos) (m2 ltD ma mb) := ev_cmp op_lt od_lt ha hb
theorem ev_le (ha : Ev X a ma) (hb : Ev X b mb) : Ev X (.Compare a [.LtE] [b] pos) (m2 leD ma mb) := ev_cmp op_le od_le ha hb
theorem ev_gt (ha : Ev X a ma) (hb : Ev X b mb) : Ev X (.Compare a [.Gt] [b] pos) (m2 gtD ma mb) := ev_cmp op_gt od_gt ha hb
theorem ev_ge (ha : Ev X a ma) (hb : Ev X b mb) : Ev X (.Compare a [.GtE] [b] pos) (m2 geD ma mb) := ev_cmp op_ge od_ge ha hb
theorem ev_eq (hu : X.A.units + 64 < cLine) (ha : Ev X a ma) (hb : Ev X b mb) : Ev X (.Compare a [.Eq] [b] pos) (m2 eqD ma mb) := ev_cmp (op_eqD hu) od_eq ha hb
theorem ev_ne (hu : X.A.units + 64 < cLine) (ha : Ev X a ma) (hb : Ev X b mb) : Ev X (.Compare a [.NotEq] [b] pos) (m2 neD ma mb) := ev_cmp (op_neD hu) od_ne ha hb
theorem ev_is (ha : Ev X a ma) (hb : Ev X b mb) : Ev X (.Compare a [.Is] [b] pos) (m2 isD ma mb) := ev_cmp op_isN od_is ha hb
theorem ev_isn (ha : Ev X a ma) (hb : Ev X b mb) : Ev X (.Compare a [.IsNot] [b] pos) (m2 isnD ma mb) := ev_cmp op_notN od_isn ha hb
theorem ev_inL (hu : X.A.units + 65 < cLine) (ha : Ev X a ma) (hb : Ev X b mb) (hm : behindInMarks .In b = false := by rfl) : Ev X (.Compare a [.In] [b] pos) (m2 inL ma mb) := ev_cmp (op_inD hu) od_inL ha hb hm
theorem ev_ninL (hu : X.A.units + 65 < cLine) (ha : Ev X a ma) (hb : Ev X b mb) (hm : behindInMarks .NotIn b = false := by rfl) : Ev X (.Compare a [.NotIn] [b] pos) (m2 ninL ma mb) := ev_cmp (op_notInD hu) od_ninL ha hb hm
theorem key_in {K : PySem.W.Frag} {H : Hp} {ok : Addr → Prop} {vx vy : V} {xs : List D} {ks : List (List Key)} {ds : List D} {k : List Key} (rx : Rep K H ok vx (.tup xs)) (ry : Rep K H ok vy (.dic ks ds)) (hk : keyOf xs = some k) :
    ∃ a o, vy = V.ref a ∧ DGet H a vx o ∧ o.isSome = ks.any fun j => decide (j = k) := by
  cases rx with
  | tup ht rr =>
    have ek := key_ok rr hk
    subst ek
    cases ry with
    | dic o hd l rd => exact ⟨_, _, rfl, DGet.t hd ht, by rw [← valV_any, zip_any k _ _ l]⟩
theorem t_inK {K : PySem.W.Frag} {σ : L2.St} {H : Hp} {Q : VK} (h : tE K (m2 inK ma mb) σ H Q) : tDIn (tE K ma) (tE K mb) σ H Q := by
  obtain ⟨ok, S, d, rs, m, q⟩ := h
  obtain ⟨x, h1, m1⟩ := bind_some m
  obtain ⟨y, h2, m2⟩ := bind_some m1
  refine bind2 rs h1 h2 fun vx vy H2 s rx ry => ?_
  cases x <;> cases y <;> try cases m2
  next xs ks ds =>
  have m3 : (keyOf xs).map (fun k => D.bl (ks.any fun j => decide (j = k))) = some d := m2
  cases hk : keyOf xs with
  | none => rw [hk] at m3; cases m3
  | some k =>
    rw [hk] at m3
    cases m3
    obtain ⟨a, o, e1, e2, e3⟩ := key_in rx ry hk
    exact ⟨a, o, e1, e2, by rw [e3]; exact q _ H2 s (.bl _)⟩
theorem t_ninK {K : PySem.W.Frag} {σ : L2.St} {H : Hp} {Q : VK} (h : tE K (m2 ninK ma mb) σ H Q) : tDNotIn (tE K ma) (tE K mb) σ H Q := by
  obtain ⟨ok, S, d, rs, m, q⟩ := h
  obtain ⟨x, h1, m1⟩ := bind_some m
  obtain ⟨y, h2, m2⟩ := bind_some m1
  refine bind2 rs h1 h2 fun vx vy H2 s rx ry => ?_
  cases x <;> cases y <;> try cases m2
  next xs ks ds =>
  have m3 : (keyOf xs).map (fun k => D.bl (!ks.any fun j => decide (j = k))) = some d := m2
  cases hk : keyOf xs with
  | none => rw [hk] at m3; cases m3
  | some k =>
    rw [hk] at m3
    cases m3
    obtain ⟨a, o, e1, e2, e3⟩ := key_in rx ry hk
    exact ⟨a, o, e1, e2, by rw [e3]; exact q _ H2 s (.bl _)⟩
theorem ev_inK (hu : X.A.units + 1 < cLine) (ha : Ev X a ma) (hb : Ev X b mb) (hm : behindInMarks .In b = false := by rfl) : Ev X (.Compare a [.In] [b] pos) (m2 inK ma mb) :=
  PE.imp (pe_cmp (pc_din hu ha hb) hm) fun _ _ _ h => t_inK h
theorem ev_ninK (hu : X.A.units + 1 < cLine) (ha : Ev X a ma) (hb : Ev X b mb) (hm : behindInMarks .NotIn b = false := by rfl) : Ev X (.Compare a [.NotIn] [b] pos) (m2 ninK ma mb) :=
  PE.imp (pe_cmp (pc_dnotin hu ha hb) hm) fun _ _ _ h => t_ninK h
theorem ev_ix (ha : Ev X a ma) (hb : Ev X b mb) (hs : PlainIx b := by exact fun _ _ => rfl) : Ev X (.Subscript a b pos) (m2 ixD ma mb) := ev_sub ix_seq od_ix ha hb hs

/-! displays -/
def tupD (ds : List D) : Option D := if ds.length ≤ 1000000 then some (.tup ds) else none
def lstD (ds : List D) : Option D := if ds.length ≤ 1000000 then some (.lst ds) else none
theorem ev_tup {k : Nat} (h : Ea X es mr) : Ev X (.Tuple es k pos) (mA tupD mr) := PE.imp (pe_tup h) fun σ H Q hh => by
  refine t_ca (K := X.K) (r := fun xs H1 Q => xs.length ≤ sizeLine ∧ ∀ p, H1 p = none → Q (.ref p) (upd H1 p (.tup xs))) (f := tupD) (fun vs ds z H ok Q r e q => ?_) hh
  unfold tupD at e
  split at e
  · next c =>
    cases e
    refine ⟨by rw [r.length]; exact Nat.le_trans c (by decide), fun p hp => ?_⟩
    have s := same_new (o := .tup vs) hp
    exact q _ _ s (.tup upd_same (r.keeps (Same.keeps s) ex_of))
  · cases e
theorem ev_lst (h : Ea X es mr) : Ev X (.List es pos) (mA lstD mr) := PE.imp (pe_lst h) fun σ H Q hh => by
  refine t_ca (K := X.K) (r := fun xs H1 Q => xs.length ≤ sizeLine ∧ ∀ p, H1 p = none → Q (.ref p) (upd H1 p (.lst xs))) (f := lstD) (fun vs ds z H ok Q r e q => ?_) hh
  unfold lstD at e
  split at e
  · next c =>
    cases e
    refine ⟨by rw [r.length]; exact Nat.le_trans c (by decide), fun p hp => ?_⟩
    have s := same_new (o := .lst vs) hp
    exact q _ _ s (.lst (.inr hp) upd_same (r.keeps (Same.keeps s) ex_of))
  · cases e

/-! tests -/
def mB (m : Mi) : Mt := fun S => (m S).bind fun | .bl x => some x | _ => none
def mTr (m : Mi) : Mt := fun S => (m S).bind tru
def mNot (t : Mt) : Mt := fun S => (t S).map fun x => !x
def mAnd (t u : Mt) : Mt := fun S => (t S).bind fun x => if x = true then u S else some false
def mOr (t u : Mt) : Mt := fun S => (t S).bind fun x => if x = true then some true else u S
theorem t_B {K : PySem.W.Frag} {σ : L2.St} {H : Hp} {Q : Bool → Hp → Prop} (h : tT K (mB ma) σ H Q) : tE K ma σ H fun v H1 => ∃ x, v = .bl x ∧ Q x H1 := by
  obtain ⟨ok, S, d, rs, m, q⟩ := h
  obtain ⟨x, h1, m⟩ := bind_some m
  refine ⟨ok, S, x, rs, h1, fun v H1 s r => ?_⟩
  cases x with
  | bl y => cases r; cases m; exact ⟨_, rfl, q H1 s⟩
  | _ => cases m
/-- a comparison's value and its test -/
theorem et_op {op : CmpOp} {r : R2} {f : D → D → Option D} (ho : OpR X (compareOp op) r) (hf : OpD X.K r f) (ha : Ev X a ma) (hb : Ev X b mb) (hm : behindInMarks op b = false := by first | exact nomark _ | rfl) : Et X (.Compare a [op] [b] pos) (mB (m2 f ma mb)) :=
  PT.imp (pt_cmpR ho ha hb hm) fun σ H Q h => t_op hf (t_B h)
theorem et_lt (ha : Ev X a ma) (hb : Ev X b mb) : Et X (.Compare a [.Lt] [b] pos) (mB (m2 ltD ma mb)) := et_op op_lt od_lt ha hb
theorem et_le (ha : Ev X a ma) (hb : Ev X b mb) : Et X (.Compare a [.LtE] [b] pos) (mB (m2 leD ma mb)) := et_op op_le od_le ha hb
theorem et_gt (ha : Ev X a ma) (hb : Ev X b mb) : Et X (.Compare a [.Gt] [b] pos) (mB (m2 gtD ma mb)) := et_op op_gt od_gt ha hb
theorem et_ge (ha : Ev X a ma) (hb : Ev X b mb) : Et X (.Compare a [.GtE] [b] pos) (mB (m2 geD ma mb)) := et_op op_ge od_ge ha hb
theorem et_eq (hu : X.A.units + 64 < cLine) (ha : Ev X a ma) (hb : Ev X b mb) : Et X (.Compare a [.Eq] [b] pos) (mB (m2 eqD ma mb)) := et_op (op_eqD hu) od_eq ha hb
theorem et_ne (hu : X.A.units + 64 < cLine) (ha : Ev X a ma) (hb : Ev X b mb) : Et X (.Compare a [.NotEq] [b] pos) (mB (m2 neD ma mb)) := et_op (op_neD hu) od_ne ha hb
theorem et_is (ha : Ev X a ma) (hb : Ev X b mb) : Et X (.Compare a [.Is] [b] pos) (mB (m2 isD ma mb)) := et_op op_isN od_is ha hb
theorem et_isn (ha : Ev X a ma) (hb : Ev X b mb) : Et X (.Compare a [.IsNot] [b] pos) (mB (m2 isnD ma mb)) := et_op op_notN od_isn ha hb
theorem et_inL (hu : X.A.units + 65 < cLine) (ha : Ev X a ma) (hb : Ev X b mb) (hm : behindInMarks .In b = false := by rfl) : Et X (.Compare a [.In] [b] pos) (mB (m2 inL ma mb)) := et_op (op_inD hu) od_inL ha hb hm
theorem et_ninL (hu : X.A.units + 65 < cLine) (ha : Ev X a ma) (hb : Ev X b mb) (hm : behindInMarks .NotIn b = false := by rfl) : Et X (.Compare a [.NotIn] [b] pos) (mB (m2 ninL ma mb)) := et_op (op_notInD hu) od_ninL ha hb hm
theorem et_inK (hu : X.A.units + 1 < cLine) (ha : Ev X a ma) (hb : Ev X b mb) (hm : behindInMarks .In b = false := by rfl) : Et X (.Compare a [.In] [b] pos) (mB (m2 inK ma mb)) :=
  PT.imp (pt_cmp (pc_din hu ha hb) hm) fun _ _ _ h => t_inK (t_B h)
theorem et_ninK (hu : X.A.units + 1 < cLine) (ha : Ev X a ma) (hb : Ev X b mb) (hm : behindInMarks .NotIn b = false := by rfl) : Et X (.Compare a [.NotIn] [b] pos) (mB (m2 ninK ma mb)) :=
  PT.imp (pt_cmp (pc_dnotin hu ha hb) hm) fun _ _ _ h => t_ninK (t_B h)
theorem et_tr (ha : Ev X e ma) (he : ∀ whole, isTrue e X.env whole = (do let v ← whole; standAt e.pos; holding [v] (truthy v)) := by intro _; rfl) : Et X e (mTr ma) := PT.imp (pt_truth ha he) fun σ H Q h => by
  obtain ⟨ok, S, d, rs, m, q⟩ := h
  obtain ⟨x, h1, m⟩ := bind_some m
  exact ⟨ok, S, x, rs, h1, fun v H1 s r => ⟨d, tru_of r m, q H1 s⟩⟩
theorem et_not (h : Et X a ta) : Et X (.UnaryOp .Not a pos) (mNot ta) := PT.imp (pt_not h) fun σ H Q hh => by
  obtain ⟨ok, S, d, rs, m, q⟩ := hh
  unfold mNot at m
  cases h1 : ta S with
  | none => rw [h1] at m; cases m
  | some x =>
    rw [h1] at m
    cases m
    exact ⟨ok, S, x, rs, h1, fun H1 s => q H1 s⟩
theorem ew_and1 (h : Et X a ta) : Ew X (.BoolOp .And [a] pos) ta := pw_and1 h
theorem ew_or1 (h : Et X a ta) : Ew X (.BoolOp .Or [a] pos) ta := pw_or1 h
theorem ew_and (h1 : Et X a ta) (h2 : Ew X (.BoolOp .And (b :: rest) pos) tb) : Ew X (.BoolOp .And (a :: b :: rest) pos) (mAnd ta tb) := PW.imp (pw_and h1 h2) fun σ H Q hh => by
  obtain ⟨ok, S, d, rs, m, q⟩ := hh
  obtain ⟨x, e1, m⟩ := bind_some m
  refine ⟨ok, S, x, rs, e1, fun H1 s => ?_⟩
  cases x with
  | true => exact ⟨ok, S, d, rs.keeps (Same.keeps s) (fun _ z => z), m, fun H2 s2 => q H2 (s.trans s2)⟩
  | false => cases m; exact q H1 s
theorem ew_or (h1 : Et X a ta) (h2 : Ew X (.BoolOp .Or (b :: rest) pos) tb) : Ew X (.BoolOp .Or (a :: b :: rest) pos) (mOr ta tb) := PW.imp (pw_or h1 h2) fun σ H Q hh => by
  obtain ⟨ok, S, d, rs, m, q⟩ := hh
  obtain ⟨x, e1, m⟩ := bind_some m
  refine ⟨ok, S, x, rs, e1, fun H1 s => ?_⟩
  cases x with
  | false => exact ⟨ok, S, d, rs.keeps (Same.keeps s) (fun _ z => z), m, fun H2 s2 => q H2 (s.trans s2)⟩
  | true => cases m; exact q H1 s
theorem et_w (h : Ew X e ta) : Et X e ta := PW.pt h
/-- chains of two -/
def mCh (f g : D → D → Option D) (a b c : Mi) : Mi := fun S => (a S).bind fun x => (b S).bind fun y => (f x y).bind fun z => match z with
  | .bl true => (c S).bind fun w => g y w
  | .bl false => some (.bl false)
  | _ => none
theorem t_ch {K : PySem.W.Frag} {r r' : R2} {f g : D → D → Option D} {σ : L2.St} {H : Hp} {Q : VK} (hf : OpD K r f) (hg : OpD K r' g) (h : tE K (mCh f g ma mb mc) σ H Q) : tChain r r' (tE K ma) (tE K mb) (tE K mc) σ H Q := by
  obtain ⟨ok, S, d, rs, m, q⟩ := h
  obtain ⟨x, h1, m⟩ := bind_some m
  obtain ⟨y, h2, m⟩ := bind_some m
  obtain ⟨z, h3, m⟩ := bind_some m
  refine bind2 rs h1 h2 fun vx vy H2 s rx ry => hf vx vy x y z H2 _ _ rx ry h3 fun v H3 s3 rz => ?_
  split at m
  · obtain ⟨w, h4, m⟩ := bind_some m
    cases rz
    refine ⟨true, rfl, ?_⟩
    show tE K mc σ H3 _
    have s13 := s.trans s3
    refine ⟨ok, S, w, rs.keeps (Same.keeps s13) (fun _ z => z), h4, fun vw H4 s4 rw' => ?_⟩
    exact hg vy vw y w d H4 (ex ok H) Q (ry.keeps (Same.keeps (s3.trans s4)) fun _ z => z) (rw'.keeps (Same.keeps (Same.refl _)) (ex_ex s13)) m (back (s13.trans s4) q)
  · cases rz
    cases m
    exact ⟨false, rfl, q _ H3 (s.trans s3) (.bl _)⟩
  · cases m
theorem ev_chain {op op' : CmpOp} {r r' : R2} {f g : D → D → Option D} (ho : OpR X (compareOp op) r) (ho' : OpR X (compareOp op') r') (hf : OpD X.K r f) (hg : OpD X.K r' g) (ha : Ev X a ma) (hb : Ev X b mb) (hc : Ev X c mc)
    (hm : lastMarks [op, op'] [b, c] = false := by with_unfolding_all rfl) : Ev X (.Compare a [op, op'] [b, c] pos) (mCh f g ma mb mc) := PE.imp (pe_chain ho ho' ha hb hc hm) fun σ H Q h => t_ch hf hg h
theorem et_chain {op op' : CmpOp} {r r' : R2} {f g : D → D → Option D} (ho : OpR X (compareOp op) r) (ho' : OpR X (compareOp op') r') (hf : OpD X.K r f) (hg : OpD X.K r' g) (ha : Ev X a ma) (hb : Ev X b mb) (hc : Ev X c mc)
    (hm : lastMarks [op, op'] [b, c] = false := by with_unfolding_all rfl) : Et X (.Compare a [op, op'] [b, c] pos) (mB (mCh f g ma mb mc)) := PT.imp (pt_chain ho ho' ha hb hc hm) fun σ H Q h => t_ch hf hg (t_B h)
/-- and, or as values of bools -/
def mAndV (a b : Mi) : Mi := fun S => (a S).bind fun x => match x with
  | .bl true => b S
  | .bl false => some (.bl false)
  | _ => none
def mOrV (a b : Mi) : Mi := fun S => (a S).bind fun x => match x with
  | .bl false => b S
  | .bl true => some (.bl true)
  | _ => none
theorem ev_one {op} (h : Ev X a ma) : Ev X (.BoolOp op [a] pos) ma := pe_one h
theorem ev_and (ha : Ev X a ma) (hb : Ev X (.BoolOp .And (b :: rest) pos) mb) : Ev X (.BoolOp .And (a :: b :: rest) pos) (mAndV ma mb) := PE.imp (pe_and ha hb) fun σ H Q h => by
  obtain ⟨ok, S, d, rs, m, q⟩ := h
  obtain ⟨x, h1, m⟩ := bind_some m
  refine ⟨ok, S, x, rs, h1, fun v H1 s r => ?_⟩
  split at m
  · cases r
    exact ⟨true, rfl, ok, S, d, rs.keeps (Same.keeps s) (fun _ z => z), m, fun v2 H2 s2 r2 => q v2 H2 (s.trans s2) (r2.keeps (Same.keeps (Same.refl _)) (ex_ex s))⟩
  · cases r
    cases m
    exact ⟨false, rfl, q _ H1 s (.bl _)⟩
  · cases m
theorem ev_or (ha : Ev X a ma) (hb : Ev X (.BoolOp .Or (b :: rest) pos) mb) : Ev X (.BoolOp .Or (a :: b :: rest) pos) (mOrV ma mb) := PE.imp (pe_or ha hb) fun σ H Q h => by
  obtain ⟨ok, S, d, rs, m, q⟩ := h
  obtain ⟨x, h1, m⟩ := bind_some m
  refine ⟨ok, S, x, rs, h1, fun v H1 s r => ?_⟩
  split at m
  · cases r
    exact ⟨false, rfl, ok, S, d, rs.keeps (Same.keeps s) (fun _ z => z), m, fun v2 H2 s2 r2 => q v2 H2 (s.trans s2) (r2.keeps (Same.keeps (Same.refl _)) (ex_ex s))⟩
  · cases r
    cases m
    exact ⟨true, rfl, q _ H1 s (.bl _)⟩
  · cases m
def notD : D → Option D
  | .bl b => some (.bl (!b))
  | _ => none
theorem ev_not (ha : Ev X a ma) : Ev X (.UnaryOp .Not a pos) (m1 notD ma) := PE.imp (pe_not ha) fun σ H Q h => t_un (K := X.K) (r := fun x H1 Q => ∃ c, x = .bl c ∧ Q (.bl (!c)) H1) (f := notD) (fun vx x z H ok Q r e q => by
  cases r with
  | bl b => cases e; exact ⟨b, rfl, q _ H (Same.refl H) (.bl _)⟩
  | _ => cases e) h
def mIf (t : Mt) (a b : Mi) : Mi := fun S => (t S).bind fun x => if x = true then a S else b S
theorem ev_if (hc : Et X c ta) (ha : Ev X a ma) (hb : Ev X b mb) : Ev X (.IfExp c a b pos) (mIf ta ma mb) := PE.imp (pe_ifExp hc ha hb) fun σ H Q h => by
  obtain ⟨ok, S, d, rs, m, q⟩ := h
  obtain ⟨x, h1, m⟩ := bind_some m
  refine ⟨ok, S, x, rs, h1, fun H1 s => ?_⟩
  cases x with
  | true => exact ⟨ok, S, d, rs.keeps (Same.keeps s) (fun _ z => z), m, fun v2 H2 s2 r2 => q v2 H2 (s.trans s2) (r2.keeps (Same.keeps (Same.refl _)) (ex_ex s))⟩
  | false => exact ⟨ok, S, d, rs.keeps (Same.keeps s) (fun _ z => z), m, fun v2 H2 s2 r2 => q v2 H2 (s.trans s2) (r2.keeps (Same.keeps (Same.refl _)) (ex_ex s))⟩
end
end Ice

/-! calls, what is walked, comprehensions, over data -/
namespace Ice
open PySem PySem.Spec PyProof.Rows L2

/-! ### what a def promises over data -/
def spD (K : PySem.W.Frag) (n : Nat) (g : List D → Option D) : Sp := fun vs H Q _ => ∃ ds ok d, Reps K H ok vs ds ∧ ds.length = n ∧ g ds = some d ∧ ∀ v H', Same H H' → Rep K H' (ex ok H) v d → Q v H'
section
variable {X : Cx} {e a b : Expr} {es : List Expr} {ma mb : Mi} {mr : Ma} {pos p : Pos} {x : Str} {r : List V → Hp → VK → Prop} {f : List D → Option D} {id T : String}
def guardN (n : Nat) (g : List D → Option D) : List D → Option D := fun ds => if ds.length = n then g ds else none
theorem ev_call {k j n : Nat} {g : List D → Option D} (c : C8.Cal X.prog X.w X.K X.mg X.base k x (spD X.K n g) []) (hr : Room j X.A) (hk : k ≤ j) (hg : Gl X x) (ha : Ea X (e :: es) mr)
    (hdb : (x == ("__debug__" : Str)) = false := by decide) (he : starEach (e :: es) X.env = (false, eval e X.env) :: starEach es X.env := by rfl) (hpl : (backTo pos (starEach es X.env)).any (·.1) = false := by rfl) :
    Ev X (.Call (.Name x p) (e :: es) [] pos) (mA (guardN n g) mr) := PE.imp (C8.pe_c c hr hk hg ha hdb he hpl) fun σ H Q h =>
  t_ca (K := X.K) (r := fun vs H1 Q => spD X.K n g (vs ++ []) H1 Q C8.E0) (fun vs ds z H ok Q rs e q => by
    unfold guardN at e
    split at e
    · next hl => exact ⟨ds, ok, z, by rw [List.append_nil]; exact rs, hl, e, q⟩
    · cases e) h
theorem ev_callB (hc : CallR X (.builtin id) r) (hf : CaD X.K r f) (hg : Gl X x) (hm : X.mg x = none) (hv : bootBuiltins x = some (.builtin id)) (ha : Ea X (e :: es) mr) (hn : x ≠ "__name__" := by decide) (hdb : (x == ("__debug__" : Str)) = false := by decide)
    (he : starEach (e :: es) X.env = (false, eval e X.env) :: starEach es X.env := by rfl) (hpl : (backTo pos (starEach es X.env)).any (·.1) = false := by rfl) : Ev X (.Call (.Name x p) (e :: es) [] pos) (mA f mr) :=
  PE.imp (pe_callB hc hg hm hv ha hn hdb he hpl) fun σ H Q h => t_ca hf h
theorem ev_callT (hc : CallR X (.type T) r) (hf : CaD X.K r f) (hg : Gl X x) (hm : X.mg x = none) (hv : bootBuiltins x = some (.type T)) (ha : Ea X (e :: es) mr) (hn : x ≠ "__name__" := by decide) (hdb : (x == ("__debug__" : Str)) = false := by decide)
    (he : starEach (e :: es) X.env = (false, eval e X.env) :: starEach es X.env := by rfl) (hpl : (backTo pos (starEach es X.env)).any (·.1) = false := by rfl) : Ev X (.Call (.Name x p) (e :: es) [] pos) (mA f mr) :=
  PE.imp (pe_callTy hc hg hm hv ha hn hdb he hpl) fun σ H Q h => t_ca hf h
/-- a built-in class as a value -/
theorem ev_bty (T : String) (hg : Gl X x) (hm : X.mg x = none) (hv : bootBuiltins x = some (.type T)) (hn : x ≠ "__name__" := by decide) (hd : (x == ("__debug__" : Str)) = false := by decide) : Ev X (.Name x pos) (mC (.raw (.ty T))) :=
  ev_c (pe_bltn hg hm hv (v := .ty T) rfl hn hd) fun _ _ => .raw _
end

/-! ### built-ins -/
def lenF : List D → Option D
  | [.tup ds] => some (.int ds.length)
  | [.lst ds] => some (.int ds.length)
  | _ => none
def intsOf : List D → Option (List Int)
  | [] => some []
  | .int i :: r => (intsOf r).map fun k => i :: k
  | _ :: _ => none
def boolsOf : List D → Option (List Bool)
  | [] => some []
  | .bl i :: r => (boolsOf r).map fun k => i :: k
  | _ :: _ => none
def only {α : Type} (f : List D → Option α) : List D → Option α
  | [.lst es] => f es
  | _ => none
def sumF : List D → Option D := only fun es => (intsOf es).map fun ns => .int ns.sum
def allF : List D → Option D := only fun es => (boolsOf es).map fun bs => .bl (bs.all fun b => b)
def minL : List Int → Option Int
  | [] => none
  | i :: r => some (r.foldl (fun a b => if b < a then b else a) i)
def minF : List D → Option D
  | [.int i, .int j] => some (.int (if j < i then j else i))
  | [.lst ds] => (intsOf ds).bind fun ns => (minL ns).map .int
  | _ => none
def maxF : List D → Option D
  | [.int i, .int j] => some (.int (if j > i then j else i))
  | _ => none
def tupF : List D → Option D
  | [.lst ds] => some (.tup ds)
  | [.tup ds] => some (.tup ds)
  | _ => none
def lstF : List D → Option D
  | [.lst ds] => some (.lst ds)
  | [.tup ds] => some (.lst ds)
  | _ => none
def tyN : D → Option String
  | .non => some "NoneType"
  | .bl _ => some "bool"
  | .int _ => some "int"
  | .str _ => some "str"
  | .tup _ => some "tuple"
  | .lst _ => some "list"
  | .dic _ _ => some "dict"
  | _ => none
def isiF : List D → Option D
  | [x, .raw (.ty T)] => (tyN x).bind fun n => (kitB n T).map .bl
  | _ => none
section
variable {K : PySem.W.Frag} {H : Hp} {ok : Addr → Prop}
theorem ints_ok : ∀ {ds : List D} {vs : List V} {ns : List Int}, Reps K H ok vs ds → intsOf ds = some ns → vs = ns.map V.int
  | [], _, _, r, e => by cases r; cases e; rfl
  | d :: ds, _, ns, r, e => by
    cases r with
    | cons a r =>
      cases d with
      | int i =>
        have e' : (intsOf ds).map (fun k => i :: k) = some ns := e
        cases h : intsOf ds with
        | none => rw [h] at e'; cases e'
        | some k =>
          rw [h] at e'
          cases e'
          cases a
          rw [ints_ok r h]
          rfl
      | _ => cases e
theorem bools_ok : ∀ {ds : List D} {vs : List V} {ns : List Bool}, Reps K H ok vs ds → boolsOf ds = some ns → vs = ns.map V.bl
  | [], _, _, r, e => by cases r; cases e; rfl
  | d :: ds, _, ns, r, e => by
    cases r with
    | cons a r =>
      cases d with
      | bl i =>
        have e' : (boolsOf ds).map (fun k => i :: k) = some ns := e
        cases h : boolsOf ds with
        | none => rw [h] at e'; cases e'
        | some k =>
          rw [h] at e'
          cases e'
          cases a
          rw [bools_ok r h]
          rfl
      | _ => cases e
theorem min_fold : ∀ (r : List Int) (i : Int), (r.foldl (fun a b => if b < a then b else a) i = i ∨ r.foldl (fun a b => if b < a then b else a) i ∈ r) ∧ r.foldl (fun a b => if b < a then b else a) i ≤ i ∧ ∀ j ∈ r, r.foldl (fun a b => if b < a then b else a) i ≤ j
  | [], i => ⟨.inl rfl, Int.le_refl _, fun _ h => nomatch h⟩
  | b :: r, i => by
    obtain ⟨h1, h2, h3⟩ := min_fold r (if b < i then b else i)
    show (r.foldl _ (if b < i then b else i) = i ∨ r.foldl _ (if b < i then b else i) ∈ b :: r) ∧ r.foldl _ (if b < i then b else i) ≤ i ∧ ∀ j ∈ b :: r, r.foldl _ (if b < i then b else i) ≤ j
    generalize hg : r.foldl (fun a b => if b < a then b else a) (if b < i then b else i) = m at *
    refine ⟨?_, ?_, fun j hj => ?_⟩
    · rcases h1 with h1 | h1
      · rw [h1]
        by_cases c : b < i
        · rw [if_pos c]; exact .inr List.mem_cons_self
        · rw [if_neg c]; exact .inl rfl
      · exact .inr (List.mem_cons_of_mem _ h1)
    · by_cases c : b < i
      · rw [if_pos c] at h2; omega
      · rw [if_neg c] at h2; exact h2
    · rcases List.mem_cons.mp hj with e | hj
      · subst e
        by_cases c : j < i
        · rw [if_pos c] at h2; exact h2
        · rw [if_neg c] at h2; omega
      · exact h3 j hj
theorem min_uniq {ns : List Int} {m n : Int} (h : minL ns = some m) (h1 : n ∈ ns) (h2 : ∀ j ∈ ns, n ≤ j) : n = m := by
  cases ns with
  | nil => cases h
  | cons i r =>
    obtain ⟨a, b, c⟩ := min_fold r i
    have e : r.foldl (fun a b => if b < a then b else a) i = m := Option.some.inj h
    rw [e] at a b c
    have g : m ∈ i :: r := by
      rcases a with a | a
      · rw [a]; exact List.mem_cons_self
      · exact List.mem_cons_of_mem _ a
    have g1 := h2 m g
    have g2 : m ≤ n := by
      rcases List.mem_cons.mp h1 with z | z
      · rw [z]; exact b
      · exact c n z
    omega
theorem cd_len : CaD K (fun xs H Q => ∃ p ys, xs = [.ref p] ∧ (SqL K H p ys ∨ SqT K H p ys) ∧ Q (.int ys.length) H) lenF := fun vs ds z H ok Q rs e q => by
  cases rs with
  | nil => cases e
  | cons a r =>
    cases r with
    | nil =>
      cases a with
      | tup h r => cases e; exact ⟨_, _, rfl, .inr (SqT.of h), by rw [r.length]; exact q _ H (Same.refl H) (.int _)⟩
      | lst o h r => cases e; exact ⟨_, _, rfl, .inl (SqL.of h), by rw [r.length]; exact q _ H (Same.refl H) (.int _)⟩
      | _ => cases e
    | cons a2 r2 => cases a <;> cases e
theorem one_lst {α : Type} {vs : List V} {ds : List D} {f : List D → Option α} {z : α} (rs : Reps K H ok vs ds) (e : only f ds = some z) :
    ∃ p ws es, vs = [.ref p] ∧ ds = [.lst es] ∧ H p = some (.lst ws) ∧ Reps K H ok ws es ∧ f es = some z := by
  cases rs with
  | nil => cases e
  | cons a r =>
    cases r with
    | nil =>
      cases a with
      | lst o h r => exact ⟨_, _, _, rfl, rfl, h, r, e⟩
      | _ => cases e
    | cons a2 r2 => cases a <;> cases e
theorem cd_sum : CaD K (rSum K) sumF := fun vs ds z H ok Q rs e q => by
  obtain ⟨p, ws, es, rfl, rfl, h, r, e⟩ := one_lst rs e
  cases hn : intsOf es with
  | none => rw [hn] at e; cases e
  | some ns =>
    rw [hn] at e
    cases e
    have := ints_ok r hn
    subst this
    exact ⟨p, ns, rfl, SqL.of h, q _ H (Same.refl H) (.int _)⟩
theorem cd_all : CaD K (rAll K) allF := fun vs ds z H ok Q rs e q => by
  obtain ⟨p, ws, es, rfl, rfl, h, r, e⟩ := one_lst rs e
  cases hn : boolsOf es with
  | none => rw [hn] at e; cases e
  | some ns =>
    rw [hn] at e
    cases e
    have := bools_ok r hn
    subst this
    exact ⟨p, ns, rfl, SqL.of h, q _ H (Same.refl H) (.bl _)⟩
theorem two_ints {vs : List V} {i j : Int} (rs : Reps K H ok vs [.int i, .int j]) : vs = [.int i, .int j] := by
  cases rs with
  | cons a r => cases r with
    | cons b r => cases r; cases a; cases b; rfl
theorem cd_max : CaD K (fun xs H Q => ∃ i j, xs = [.int i, .int j] ∧ Q (.int (if j > i then j else i)) H) maxF := fun vs ds z H ok Q rs e q => by
  unfold maxF at e
  split at e
  · cases e
    exact ⟨_, _, two_ints rs, q _ H (Same.refl H) (.int _)⟩
  · cases e
theorem cd_min : CaD K (fun xs H Q => (∃ i j, xs = [.int i, .int j] ∧ Q (.int (if j < i then j else i)) H) ∨ rMin K xs H Q) minF := fun vs ds z H ok Q rs e q => by
  unfold minF at e
  split at e
  · cases e
    exact .inl ⟨_, _, two_ints rs, q _ H (Same.refl H) (.int _)⟩
  · next ds =>
    obtain ⟨ns, hn, e⟩ := bind_some e
    cases hm : minL ns with
    | none => rw [hm] at e; cases e
    | some m =>
      rw [hm] at e
      cases e
      cases rs with
      | cons a r =>
        cases r
        cases a with
        | lst o h r =>
          have := ints_ok r hn
          subst this
          refine .inr ⟨_, ns, rfl, SqL.of h, ?_, fun k h1 h2 => ?_⟩
          · cases ns with
            | nil => cases hm
            | cons i r => exact Nat.succ_pos _
          · rw [min_uniq hm h1 h2]
            exact q _ H (Same.refl H) (.int _)
  · cases e
theorem cd_list : CaD K (fun xs H Q => ∃ p ys, xs = [.ref p] ∧ (SqL K H p ys ∨ SqT K H p ys) ∧ ∀ l, H l = none → Q (.ref l) (upd H l (.lst ys))) lstF := fun vs ds z H ok Q rs e q => by
  cases rs with
  | nil => cases e
  | cons a r =>
    cases r with
    | nil =>
      cases a with
      | tup h r => cases e; exact ⟨_, _, rfl, .inr (SqT.of h), fun l hl => q _ _ (same_new hl) (.lst (.inr hl) upd_same (r.keeps (Same.keeps (same_new hl)) ex_of))⟩
      | lst o h r => cases e; exact ⟨_, _, rfl, .inl (SqL.of h), fun l hl => q _ _ (same_new hl) (.lst (.inr hl) upd_same (r.keeps (Same.keeps (same_new hl)) ex_of))⟩
      | _ => cases e
    | cons a2 r2 => cases a <;> cases e
theorem cd_tuple : CaD K (fun xs H Q => ∃ p ys, xs = [.ref p] ∧ ((SqL K H p ys ∧ ∀ l, H l = none → Q (.ref l) (upd H l (.tup ys))) ∨ (SqT K H p ys ∧ Q (.ref p) H))) tupF := fun vs ds z H ok Q rs e q => by
  cases rs with
  | nil => cases e
  | cons a r =>
    cases r with
    | nil =>
      cases a with
      | tup h r => cases e; exact ⟨_, _, rfl, .inr ⟨SqT.of h, q _ H (Same.refl H) (rep_here (.tup h r))⟩⟩
      | lst o h r => cases e; exact ⟨_, _, rfl, .inl ⟨SqL.of h, fun l hl => q _ _ (same_new hl) (.tup upd_same (r.keeps (Same.keeps (same_new hl)) ex_of))⟩⟩
      | _ => cases e
    | cons a2 r2 => cases a <;> cases e
theorem ty_ok {v : V} {d : D} {n : String} (r : Rep K H ok v d) (e : tyN d = some n) : TyX K H v (.type n) := by
  cases r with
  | non => cases e; exact .base .non
  | bl b => cases e; exact .base (.bl b)
  | int i => cases e; exact .base (.int i)
  | str x => cases e; exact .base (.str x)
  | raw v => cases e
  | tup h r => cases e; exact .base (.tup h)
  | wt h r => cases e
  | fz h r => cases e
  | lst o h r => cases e; exact .base (.lst h)
  | dic o h l r => cases e; exact .base (.dT h)
theorem cd_isi : CaD K (rIsi K) isiF := fun vs ds z H ok Q rs e q => by
  unfold isiF at e
  split at e
  · next x T =>
    obtain ⟨n, hn, e⟩ := bind_some e
    cases hk : kitB n T with
    | none => rw [hk] at e; cases e
    | some b =>
      rw [hk] at e
      cases e
      cases rs with
      | cons a r => cases r with
        | cons c r =>
          cases r
          cases c
          exact ⟨_, _, _, _, b, rfl, .ty T, ty_ok a hn, kit_ty hk, q _ H (Same.refl H) (.bl _)⟩
  · cases e
end

/-! ### what is walked -/
mutual
theorem Rep.dom {K : PySem.W.Frag} {H : Hp} {ok : Addr → Prop} : ∀ (d : D) (v : V), Rep K H ok v d → Rep K H (fun a => ok a ∧ H a ≠ none) v d
  | .non, _, h => by cases h; exact .non
  | .bl b, _, h => by cases h; exact .bl b
  | .int i, _, h => by cases h; exact .int i
  | .str x, _, h => by cases h; exact .str x
  | .raw w, _, h => by cases h; exact .raw w
  | .tup ds, _, h => by
    cases h with
    | tup s r => exact .tup s (Reps.dom ds _ r)
  | .wt ds, _, h => by
    cases h with
    | wt s r => exact .wt s (Reps.dom ds _ r)
  | .fz ds, _, h => by
    cases h with
    | fz s r => exact .fz s (Reps.dom ds _ r)
  | .lst ds, _, h => by
    cases h with
    | lst o s r => exact .lst ⟨o, fun n => by rw [n] at s; cases s⟩ s (Reps.dom ds _ r)
  | .dic ks ds, _, h => by
    cases h with
    | dic o s e r => exact .dic ⟨o, fun n => by rw [n] at s; cases s⟩ s e (Reps.dom ds _ r)
theorem Reps.dom {K : PySem.W.Frag} {H : Hp} {ok : Addr → Prop} : ∀ (ds : List D) (vs : List V), Reps K H ok vs ds → Reps K H (fun a => ok a ∧ H a ≠ none) vs ds
  | [], _, h => by cases h; exact .nil
  | d :: ds, _, h => by
    cases h with
    | cons a r => exact .cons (Rep.dom d _ a) (Reps.dom ds _ r)
end
def Walk (K : PySem.W.Frag) (H : Hp) (ok : Addr → Prop) (J : It) (ds : List D) : Prop := ∀ Hb, Keeps (fun a => ok a ∧ H a ≠ none) H Hb → ∀ (i : Nat) (H' : Hp), Same Hb H' →
  (∀ d, ds[i]? = some d → J.go i H' ∧ ∀ x H'', J.yld i H' x H'' → Same H' H'' ∧ Rep K H'' (fun a => ok a ∧ H a ≠ none) x d) ∧ (ds[i]? = none → J.stop i H')
def tI (K : PySem.W.Frag) (m : Ma) : TI := fun σ H R => ∃ ok S ds, Rs K H ok S σ ∧ m S = some ds ∧ ∀ J H', Same H H' → Walk K H' (ex ok H) J ds → R J H'
abbrev Ei (X : Cx) (tg e : Expr) (m : Ma) : Prop := PI X tg e (tI X.K m)
section
variable {K : PySem.W.Frag} {H : Hp} {ok : Addr → Prop}
theorem walk_list {p : Addr} {ws : List V} {es : List D} (o : ok p) (h : H p = some (.lst ws)) (r : Reps K H ok ws es) : Walk K H ok (Itl K p) es := fun Hb k i H' s => by
  have hp : H' p = some (.lst ws) := s _ _ (k _ _ h (.inl ⟨o, fun n => by rw [n] at h; cases h⟩))
  have r' : Reps K H' (fun a => ok a ∧ H a ≠ none) ws es := ((Reps.dom es ws r).keeps k fun _ z => z).keeps (Same.keeps s) fun _ z => z
  refine ⟨fun d hd => ?_, fun hn => ⟨ws, SqL.of hp, ?_⟩⟩
  · obtain ⟨v, hv, rv⟩ := r'.get hd
    exact ⟨⟨ws, v, SqL.of hp, hv⟩, fun x H'' y => by
      obtain ⟨e, y⟩ := y
      subst e
      have := y ws (SqL.of hp)
      rw [hv] at this
      cases this
      exact ⟨Same.refl _, rv⟩⟩
  · rw [r'.length]
    exact List.getElem?_eq_none_iff.mp hn
theorem walk_sqt {p : Addr} {ws : List V} {es : List D} (h : SqT K H p ws) (r : Reps K H ok ws es) : Walk K H ok (Itt K p) es := fun Hb k i H' s => by
  have hp : SqT K H' p ws := keeps_tup (Same.keeps (ok := fun _ => True) s) (keeps_tup k h)
  have r' : Reps K H' (fun a => ok a ∧ H a ≠ none) ws es := ((Reps.dom es ws r).keeps k fun _ z => z).keeps (Same.keeps s) fun _ z => z
  refine ⟨fun d hd => ?_, fun hn => ⟨ws, hp, ?_⟩⟩
  · obtain ⟨v, hv, rv⟩ := r'.get hd
    exact ⟨⟨ws, v, hp, hv⟩, fun x H'' y => by
      obtain ⟨e, y⟩ := y
      subst e
      have := y ws hp
      rw [hv] at this
      cases this
      exact ⟨Same.refl _, rv⟩⟩
  · rw [r'.length]
    exact List.getElem?_eq_none_iff.mp hn
def rangeL (lo : Int) (n : Nat) : List D := (List.range n).map fun (i : Nat) => .int (lo + i)
theorem rangeL_get (lo : Int) (n i : Nat) : (rangeL lo n)[i]? = if i < n then some (.int (lo + i)) else none := by
  unfold rangeL
  by_cases h : i < n
  · rw [if_pos h, List.getElem?_map, List.getElem?_range h]
    rfl
  · rw [if_neg h, List.getElem?_eq_none_iff.mpr (by rw [List.length_map, List.length_range]; omega)]
theorem walk_range {lo : Int} {n : Nat} : Walk K H ok (Itr lo n) (rangeL lo n) := fun Hb k i H' s => by
  rw [rangeL_get]
  refine ⟨fun d hd => ?_, fun hn => ?_⟩
  · by_cases h : i < n
    · rw [if_pos h] at hd
      cases hd
      exact ⟨h, fun x H'' y => by
        obtain ⟨e, y⟩ := y
        subst e y
        exact ⟨Same.refl _, .int _⟩⟩
    · rw [if_neg h] at hd
      cases hd
  · by_cases h : i < n
    · rw [if_pos h] at hn; cases hn
    · exact Nat.le_of_not_lt h
end
section
variable {X : Cx} {tg e e2 a b : Expr} {ma mb : Mi} {mr : Ma} {pos p tpos : Pos}
def itL (m : Mi) : Ma := fun S => (m S).bind fun | .lst ds => some ds | _ => none
def itT (m : Mi) : Ma := fun S => (m S).bind fun | .tup ds => some ds | .wt ds => some ds | _ => none
theorem ei_list (h : Ev X e ma) : Ei X tg e (itL ma) := PI.imp (pi_list h) fun σ H R hh => by
  obtain ⟨ok, S, ds, rs, m, q⟩ := hh
  obtain ⟨d, h1, m1⟩ := bind_some m
  refine ⟨ok, S, d, rs, h1, fun v H1 s r => ?_⟩
  cases r with
  | lst o h r => cases m1; exact ⟨_, rfl, ⟨_, SqL.of h⟩, q _ H1 s (walk_list o h r)⟩
  | _ => cases m1
theorem ei_tup (h : Ev X e ma) : Ei X tg e (itT ma) := PI.imp (pi_tup h) fun σ H R hh => by
  obtain ⟨ok, S, ds, rs, m, q⟩ := hh
  obtain ⟨d, h1, m1⟩ := bind_some m
  refine ⟨ok, S, d, rs, h1, fun v H1 s r => ?_⟩
  cases r with
  | tup h r => cases m1; exact ⟨_, rfl, ⟨_, SqT.of h⟩, q _ H1 s (walk_sqt (SqT.of h) r)⟩
  | wt h r => cases m1; exact ⟨_, rfl, ⟨_, h⟩, q _ H1 s (walk_sqt h r)⟩
  | fz h r => cases m1
  | _ => cases m1
def itR1 (m : Ma) : Ma := fun S => (m S).bind fun
  | [.int n] => if -4611686018427387904 ≤ n ∧ n < 4611686018427387904 then some (rangeL 0 n.toNat) else none
  | _ => none
def itR2 (m : Ma) : Ma := fun S => (m S).bind fun
  | [.int k, .int n] => if -4611686018427387904 ≤ k ∧ k < 4611686018427387904 ∧ -4611686018427387904 ≤ n ∧ n < 4611686018427387904 then some (rangeL k (n - k).toNat) else none
  | _ => none
theorem ei_range1 (hg : Gl X "range") (hm : X.mg "range" = none) (ha : Ea X [a] mr) (hs : starEach [a] X.env = [(false, eval a X.env)] := by rfl) : Ei X tg (.Call (.Name "range" p) [a] [] pos) (itR1 mr) :=
  PI.imp (pi_range1 hg hm ha hs) fun σ H R hh => by
    obtain ⟨ok, S, ds, rs, m, q⟩ := hh
    obtain ⟨xs, h1, m1⟩ := bind_some m
    refine ⟨ok, S, xs, rs, h1, fun vs H1 s r => ?_⟩
    split at m1
    · split at m1
      · next c =>
        cases m1
        cases r with
        | cons x r => cases r; cases x; exact ⟨_, rfl, c.1, c.2, q _ H1 s walk_range⟩
      · cases m1
    · cases m1
theorem ei_range2 (hg : Gl X "range") (hm : X.mg "range" = none) (ha : Ea X [a, b] mr) (hs : starEach [a, b] X.env = [(false, eval a X.env), (false, eval b X.env)] := by rfl) (hs2 : starEach [b] X.env = [(false, eval b X.env)] := by rfl) : Ei X tg (.Call (.Name "range" p) [a, b] [] pos) (itR2 mr) :=
  PI.imp (pi_range2 hg hm ha hs hs2) fun σ H R hh => by
    obtain ⟨ok, S, ds, rs, m, q⟩ := hh
    obtain ⟨xs, h1, m1⟩ := bind_some m
    refine ⟨ok, S, xs, rs, h1, fun vs H1 s r => ?_⟩
    split at m1
    · split at m1
      · next c =>
        cases m1
        cases r with
        | cons x r => cases r with
          | cons y r => cases r; cases x; cases y; exact ⟨_, _, rfl, ⟨c.1, c.2.1, c.2.2.1, c.2.2.2⟩, q _ H1 s walk_range⟩
      · cases m1
    · cases m1
end

/-! ### targets -/
inductive Tg where
  | nm (i : Nat)
  | tp (ts : List Tg)
mutual
def asg : Tg → D → Sd → Option Sd
  | .nm i, d, S => some (S.set i (some d))
  | .tp ts, .tup ds, S => asgs ts ds S
  | .tp ts, .wt ds, S => asgs ts ds S
  | .tp _, _, _ => none
def asgs : List Tg → List D → Sd → Option Sd
  | [], [], S => some S
  | t :: ts, d :: ds, S => (asg t d S).bind fun S1 => asgs ts ds S1
  | _, _, _ => none
end
end Ice

/-! targets, comprehensions, statements, defs -/
namespace Ice
open PySem PySem.Spec PyProof.Rows L2

/-! ### slots that are stored -/
mutual
def sl : Tg → List Nat
  | .nm i => [i]
  | .tp ts => sls ts
def sls : List Tg → List Nat
  | [] => []
  | t :: ts => sl t ++ sls ts
end
/-- σ' is σ but for the slots in l -/
def But (l : List Nat) (σ σ' : L2.St) : Prop := σ'.length = σ.length ∧ ∀ (i : Nat), i ∉ l → σ'[i]? = σ[i]?
theorem But.refl (σ : L2.St) : But [] σ σ := ⟨rfl, fun _ _ => rfl⟩
theorem But.trans {l m : List Nat} {σ σ1 σ2 : L2.St} (a : But l σ σ1) (b : But m σ1 σ2) : But (l ++ m) σ σ2 :=
  ⟨b.1.trans a.1, fun i h => (b.2 i fun z => h (List.mem_append_right _ z)).trans (a.2 i fun z => h (List.mem_append_left _ z))⟩
theorem But.mono {l m : List Nat} {σ σ1 : L2.St} (a : But l σ σ1) (h : ∀ i ∈ l, i ∈ m) : But m σ σ1 := ⟨a.1, fun i g => a.2 i fun z => g (h i z)⟩
theorem wipe_get (σ : L2.St) (i : Nat) : ∀ vs : List Nat, (wipe σ vs)[i]? = if i ∈ vs then (if i < σ.length then some none else none) else σ[i]?
  | [] => by simp [wipe]
  | v :: vs => by
    unfold wipe
    have ih := wipe_get σ i vs
    by_cases e : v = i
    · subst e
      rw [if_pos List.mem_cons_self, List.getElem?_set, if_pos rfl, wipe_length]
    · rw [List.getElem?_set_ne e, ih]
      have : i ∈ v :: vs ↔ i ∈ vs := ⟨fun h => (List.mem_cons.mp h).elim (fun z => absurd z.symm e) (fun z => z), List.mem_cons_of_mem _⟩
      by_cases h : i ∈ vs
      · rw [if_pos h, if_pos (this.mpr h)]
      · rw [if_neg h, if_neg fun z => h (this.mp z)]
theorem wipe_but {vs : List Nat} {σ σ' : L2.St} (h : But vs σ σ') : wipe σ' vs = wipe σ vs := by
  refine List.ext_getElem? fun i => ?_
  rw [wipe_get, wipe_get, h.1]
  by_cases c : i ∈ vs
  · rw [if_pos c, if_pos c]
  · rw [if_neg c, if_neg c, h.2 i c]
def wipeD (S : Sd) : List Nat → Sd
  | [] => S
  | v :: vs => (wipeD S vs).set v none
theorem wipeD_get (S : Sd) (i : Nat) : ∀ vs : List Nat, ∀ d, (wipeD S vs)[i]? = some (some d) → S[i]? = some (some d) ∧ i ∉ vs
  | [], d, h => ⟨h, by simp⟩
  | v :: vs, d, h => by
    unfold wipeD at h
    by_cases e : v = i
    · subst e
      rw [List.getElem?_set, if_pos rfl] at h
      split at h <;> cases h
    · rw [List.getElem?_set_ne e] at h
      obtain ⟨h1, h2⟩ := wipeD_get S i vs d h
      exact ⟨h1, fun z => (List.mem_cons.mp z).elim (fun z => e z.symm) h2⟩
theorem Rs.wipe {K : PySem.W.Frag} {H : Hp} {ok : Addr → Prop} {S : Sd} {σ : L2.St} (r : Rs K H ok S σ) (vs : List Nat) : Rs K H ok (wipeD S vs) (L2.wipe σ vs) := fun i d e => by
  obtain ⟨h1, h2⟩ := wipeD_get S i vs d e
  obtain ⟨v, e1, e2⟩ := r i d h1
  exact ⟨v, by rw [wipe_get, if_neg h2]; exact e1, e2⟩

theorem Rs.put {K : PySem.W.Frag} {H : Hp} {ok : Addr → Prop} {S : Sd} {σ : L2.St} {i : Nat} {d : D} {v : V} (r : Rs K H ok S σ) (hi : i < σ.length) (rv : Rep K H ok v d) : Rs K H ok (S.set i (some d)) (σ.set i (some v)) := fun j e h => by
  by_cases c : i = j
  · subst c
    rw [List.getElem?_set, if_pos rfl] at h
    split at h
    · cases h
      exact ⟨v, List.getElem?_set_self hi, rv⟩
    · cases h
  · rw [List.getElem?_set_ne c] at h
    obtain ⟨u, e1, e2⟩ := r j e h
    exact ⟨u, by rw [List.getElem?_set_ne c]; exact e1, e2⟩

/-- a target's reading -/
def tG (K : PySem.W.Frag) (t : Tg) : TG := fun v σ H Q => ∃ ok S d S', (∀ i ∈ sl t, i < σ.length) ∧ Rs K H ok S σ ∧ Rep K H ok v d ∧ asg t d S = some S' ∧ ∀ σ', But (sl t) σ σ' → Rs K H ok S' σ' → Q σ' H
def tGs (K : PySem.W.Frag) (ts : List Tg) : TGs := fun vs σ H Q => ∃ ok S ds S', (∀ i ∈ sls ts, i < σ.length) ∧ Rs K H ok S σ ∧ Reps K H ok vs ds ∧ asgs ts ds S = some S' ∧ ∀ σ', But (sls ts) σ σ' → Rs K H ok S' σ' → Q σ' H
abbrev Eg (X : Cx) (e : Expr) (t : Tg) : Prop := PG X e (tG X.K t)
abbrev Egs (X : Cx) (es : List Expr) (ts : List Tg) : Prop := PGs X es (tGs X.K ts)
theorem PG.imp {X : Cx} {e : Expr} {t t' : TG} (h : PG X e t) (g : ∀ v σ H Q, t' v σ H Q → t v σ H Q) : PG X e t' := ⟨fun pins s σ H x u Q I r q => h.run pins s σ H x u Q I r (g x σ H Q q)⟩
theorem PGs.imp {X : Cx} {es : List Expr} {t t' : TGs} (h : PGs X es t) (g : ∀ v σ H Q, t' v σ H Q → t v σ H Q) : PGs X es t' := ⟨fun pins s σ H x u Q I r q => h.run pins s σ H x u Q I r (g x σ H Q q)⟩
section
variable {X : Cx} {e : Expr} {es : List Expr} {pos : Pos}
theorem eg_nm (i : Nat) {x : Str} (hN : X.N.Nodup) (hi : X.N[i]? = some x := by rfl) (hx : Loc X.env.scope x := by first | exact Or.inl rfl | exact Or.inr rfl) (hf : X.fn x = true ∨ X.env.scope.names.lookup x = some .local := by first | exact .inl rfl | exact .inr rfl) : Eg X (.Name x pos) (.nm i) :=
  PG.imp (pg_name hN hi hx hf) fun v σ H Q h => by
    obtain ⟨ok, S, d, S', hl, rs, rv, a, q⟩ := h
    have a' : some (S.set i (some d)) = some S' := a
    cases a'
    have hi : i < σ.length := hl i (by simp [sl])
    exact q _ ⟨List.length_set, fun j hj => List.getElem?_set_ne fun z => hj (by simp [sl, z])⟩ (rs.put hi rv)
theorem egs_nil : Egs X [] [] := PGs.imp pgs_nil fun v σ H Q h => by
  obtain ⟨ok, S, ds, S', hl, rs, rv, a, q⟩ := h
  cases rv with
  | nil =>
    have a' : some S = some S' := a
    cases a'
    exact ⟨rfl, q σ (But.refl σ) rs⟩
  | cons _ _ => cases a
theorem egs_cons {t : Tg} {ts : List Tg} (h1 : Eg X e t) (h2 : Egs X es ts) (hs : (assignEach (e :: es) X.env).map (fun x => x.2) = assign e X.env :: (assignEach es X.env).map (fun x => x.2) := by rfl) : Egs X (e :: es) (t :: ts) := PGs.imp (pgs_cons h1 h2 hs) fun v σ H Q h => by
  obtain ⟨ok, S, ds, S', hl, rs, rv, a, q⟩ := h
  cases rv with
  | nil => cases a
  | cons rv rr =>
    obtain ⟨S1, a1, a2⟩ := bind_some (show (asg t _ S).bind (fun S1 => asgs ts _ S1) = some S' from a)
    refine ⟨_, _, rfl, ok, S, _, S1, fun i hi => hl i (List.mem_append_left _ hi), rs, rv, a1, fun σ1 b1 rs1 => ?_⟩
    exact ⟨ok, S1, _, S', fun i hi => by rw [b1.1]; exact hl i (List.mem_append_right _ hi), rs1, rr, a2, fun σ2 b2 rs2 => q σ2 (b1.trans b2) rs2⟩
theorem eg_tp {k : Nat} {ts : List Tg} (h : Egs X es ts) (hn : (assignEach es X.env).length = ts.length := by rfl) (hst : (assignEach es X.env).findIdx? (fun x => x.1) = none := by rfl) (hc : X.calm = true := by rfl) : Eg X (.Tuple es k pos) (.tp ts) := PG.imp (pg_tup (n := (assignEach es X.env).length) hc h rfl hst) fun v σ H Q h => by
  obtain ⟨ok, S, d, S', hl, rs, rv, a, q⟩ := h
  have len : ∀ {ts : List Tg} {ds : List D} {S S' : Sd}, asgs ts ds S = some S' → ds.length = ts.length := by
    intro ts
    induction ts with
    | nil => intro ds S S' h; cases ds with
      | nil => rfl
      | cons _ _ => cases h
    | cons t ts ih => intro ds S S' h; cases ds with
      | nil => cases h
      | cons d ds =>
        obtain ⟨S1, _, h2⟩ := bind_some (show (asg t d S).bind (fun S1 => asgs ts ds S1) = some S' from h)
        exact congrArg (· + 1) (ih h2)
  cases rv with
  | tup h r =>
    have a' : asgs ts _ S = some S' := a
    exact ⟨_, _, rfl, SqT.of h, by rw [r.length, len a', ← hn], ok, S, _, S', hl, rs, r, a', q⟩
  | wt h r =>
    have a' : asgs ts _ S = some S' := a
    exact ⟨_, _, rfl, h, by rw [r.length, len a', ← hn], ok, S, _, S', hl, rs, r, a', q⟩
  | _ => cases a
end

/-! ### list comprehensions of one clause -/
def compM (vs : List Nat) (t : Tg) (tt : Mt) (me : Mi) (S : Sd) : List D → Option (List D)
  | [] => some []
  | d :: r => (asg t d (wipeD S vs)).bind fun S1 => (tt S1).bind fun c => if c = true then (me S1).bind fun y => (compM vs t tt me S r).map fun ys => y :: ys else compM vs t tt me S r
def mLc (mi : Ma) (vs : List Nat) (t : Tg) (tt : Mt) (me : Mi) : Mi := fun S => (mi S).bind fun ds => if ds.length ≤ 1000000 then (compM vs t tt me S ds).map .lst else none
def mYes : Mt := fun _ => some true
theorem Keeps.trans {ok : Addr → Prop} {H H1 H2 : Hp} (a : Keeps ok H H1) (b : Keeps ok H1 H2) : Keeps ok H H2 := fun c o e g => b c o (a c o e g) g
abbrev Ets (X : Cx) (ifs : List Expr) (m : Mt) : Prop := PTs X ifs (tT X.K m)
theorem PTs.imp {X : Cx} {ifs : List Expr} {t t' : TT} (h : PTs X ifs t) (g : ∀ σ H Q, t' σ H Q → t σ H Q) : PTs X ifs t' := ⟨fun pins s σ H Q I q => h.run pins s σ H Q I (g σ H Q q)⟩
theorem ets_nil {X : Cx} : Ets X [] mYes := PTs.imp pts_nil fun σ H Q h => by
  obtain ⟨ok, S, b, rs, m, q⟩ := h
  cases m
  exact q H (Same.refl H)
theorem ets_one {X : Cx} {c : Expr} {m : Mt} (h : Et X c m) : Ets X [c] m := pts_one h
theorem t_lc {K : PySem.W.Frag} {mi : Ma} {vs : List Nat} {t : Tg} {tt : Mt} {me : Mi} {σ : L2.St} {H : Hp} {Q : VK} (hv : ∀ i ∈ sl t, i ∈ vs ∧ i < σ.length) (h : tE K (mLc mi vs t tt me) σ H Q) : tLc (tI K mi) (tG K t) (tT K tt) (tE K me) vs σ H Q := by
  obtain ⟨ok, S, dz, rs, m, q⟩ := h
  obtain ⟨ds, h1, m1⟩ := bind_some m
  by_cases hlen : ds.length ≤ 1000000
  case neg => rw [if_neg hlen] at m1; cases m1
  rw [if_pos hlen] at m1
  cases hys : compM vs t tt me S ds with
  | none => rw [hys] at m1; cases m1
  | some ys =>
  rw [hys] at m1
  cases m1
  refine ⟨ok, S, ds, rs, h1, fun J H1 s1 wk D hD => ?_⟩
  have hD0 : H D = none := s1.free hD
  -- the good ones: all but D
  let okD : Addr → Prop := fun a => ex ok H a ∧ a ≠ D
  let okc : Addr → Prop := fun a => ex ok H a ∧ H1 a ≠ none
  have okcD : ∀ a, okc a → okD a := fun a h => ⟨h.1, fun z => h.2 (by rw [z]; exact hD)⟩
  refine ⟨fun i n H' => n = ds.length - i ∧ i ≤ ds.length ∧ Same H1 H' ∧ ∃ acc accd rest, H' D = some (.lst acc) ∧ acc.length ≤ i ∧ Reps K H' okD acc accd ∧ compM vs t tt me S (ds.drop i) = some rest ∧ accd ++ rest = ys,
    ⟨ds.length, rfl, Nat.zero_le _, same_new hD, [], [], ys, upd_same, Nat.le_refl _, .nil, hys, rfl⟩, ?_⟩
  rintro i n H' ⟨rfl, hi, s2, acc, accd, rest, hacc, hal, racc, hrest, hcat⟩
  have wk' := wk H1 (fun a o e _ => e) i H' s2
  by_cases hlt : i < ds.length
  · have hg : ds[i]? = some ds[i] := List.getElem?_eq_getElem hlt
    have hdrop : ds.drop i = ds[i] :: ds.drop (i + 1) := List.drop_eq_getElem_cons hlt
    obtain ⟨go, yl⟩ := wk'.1 _ hg
    rw [hdrop] at hrest
    obtain ⟨S1, ha, hrest⟩ := bind_some (show (asg t ds[i] (wipeD S vs)).bind _ = some rest from hrest)
    obtain ⟨c, hc, hrest⟩ := bind_some hrest
    let Nx : Hp → Prop := fun H'' => i + 1 ≤ ds.length ∧ Same H1 H'' ∧ ∃ acc accd rest, H'' D = some (.lst acc) ∧ acc.length ≤ i + 1 ∧ Reps K H'' okD acc accd ∧ compM vs t tt me S (ds.drop (i + 1)) = some rest ∧ accd ++ rest = ys
    refine .inr ⟨go, Nx, fun H'' nx => ⟨ds.length - (i + 1), by omega, rfl, nx⟩, fun x H3 y => ?_⟩
    obtain ⟨s3, rx⟩ := yl x H3 y
    have s13 := s2.trans s3
    have rs3 : Rs K H3 okc (wipeD S vs) (wipe σ vs) := ((Rs.wipe (fun i d e => by
      obtain ⟨v, e1, e2⟩ := rs i d e
      exact ⟨v, e1, Rep.dom d v e2⟩ : Rs K H (fun a => ok a ∧ H a ≠ none) S σ) vs)).keeps (Same.keeps (s1.trans s13)) fun a h => ⟨.inl h.1, fun z => h.2 (s1.free z)⟩
    refine ⟨okc, wipeD S vs, ds[i], S1, fun j hj => by rw [wipe_length]; exact (hv j hj).2, rs3, rx, ha, fun σ2 b2 rs2 => ⟨?_, okc, S1, c, rs2, hc, fun H4 s4 => ?_⟩⟩
    · have hw : wipe (wipe σ vs) vs = wipe σ vs := wipe_but ⟨wipe_length σ vs, fun j hj => by rw [wipe_get, if_neg hj]⟩
      rw [wipe_but (b2.mono fun j hj => (hv j hj).1), hw]
    have hacc4 : H4 D = some (.lst acc) := s4 _ _ (s3 _ _ hacc)
    have racc4 : Reps K H4 okD acc accd := racc.keeps (Same.keeps (s3.trans s4)) fun _ z => z
    cases c with
    | false =>
      rw [if_neg Bool.false_ne_true] at hrest
      exact ⟨hlt, s13.trans s4, acc, accd, rest, hacc4, Nat.le_succ_of_le hal, racc4, hrest, hcat⟩
    | true =>
      rw [if_pos rfl] at hrest
      obtain ⟨yd, hy, hrest⟩ := bind_some hrest
      cases hr2 : compM vs t tt me S (ds.drop (i + 1)) with
      | none => rw [hr2] at hrest; cases hrest
      | some rest2 =>
      rw [hr2] at hrest
      cases hrest
      refine ⟨okc, S1, yd, rs2.keeps (Same.keeps s4) (fun _ z => z), hy, fun yv H5 s5 ry => ?_⟩
      have hacc5 : H5 D = some (.lst acc) := s5 _ _ hacc4
      refine ⟨acc, hacc5, Nat.lt_of_le_of_lt hal (Nat.lt_of_lt_of_le hlt (Nat.le_trans hlen (by decide))), hlt, ?_, acc ++ [yv], accd ++ [yd], rest2, upd_same, ?_, ?_, hr2, ?_⟩
      · intro a o e
        have ne : a ≠ D := ne_of_none e hD
        rw [upd_ne ne]
        exact s5 _ _ (s4 _ _ (s13 _ _ e))
      · rw [List.length_append]
        exact Nat.succ_le_succ hal
      · have kp : Keeps okD H5 (upd H5 D (.lst (acc ++ [yv]))) := fun a o e g => by
          have ne : a ≠ D := fun z => by
            rw [z] at e g
            rw [hacc5] at e
            cases e
            exact g.elim (fun g => g.2 rfl) fun g => g
          rw [upd_ne ne]
          exact e
        refine Reps.append ((racc4.keeps (Same.keeps s5) fun _ z => z).keeps kp fun _ z => z) (.cons ((ry.keeps (Same.keeps (Same.refl _)) fun a h => ?_).keeps kp fun _ z => z) .nil)
        rcases h with h | h
        · exact okcD a h
        · refine ⟨.inr ?_, fun z => ?_⟩
          · exact s1.free (s13.free (s4.free h))
          · rw [z, hacc4] at h
            cases h
      · rw [List.append_assoc]
        exact hcat
  · have e : i = ds.length := by omega
    subst e
    rw [List.drop_length] at hrest
    cases hrest
    rw [List.append_nil] at hcat
    subst hcat
    refine .inl ⟨wk'.2 (List.getElem?_eq_none_iff.mpr (Nat.le_refl _)), q _ H' (s1.trans s2) (.lst (.inr hD0) hacc (racc.keeps (Same.keeps (Same.refl _)) fun a h => h.1))⟩
section
variable {X : Cx}
theorem lt_of_own {own : List (Str × Nat)} {σ : L2.St} {scope sc : Scope} (ok : BlkOk X.N sc scope own) (hl : σ.length = X.N.length) {i : Nat} (h : i ∈ own.map (·.2)) : i < σ.length := by
  obtain ⟨p, hp, e⟩ := List.mem_map.mp h
  subst e
  rw [hl]
  exact (List.getElem?_eq_some_iff.mp (ok.ix p hp)).1
theorem ev_lc {elt tg iter : Expr} {ifs : List Expr} {scope : Scope} {pos : Pos} {mi : Ma} {t : Tg} {tt : Mt} {me : Mi} (own : List (Str × Nat)) (hN : X.N.Nodup) (hi : Ei X tg iter mi) (ok : BlkOk X.N X.env.scope scope own)
    (hg : ∀ (s : Shared) (H : Hp) (C : Addr) (cl : List (Str × Addr)) (fp : List Addr), Eg (X.blk s H scope (compEnvC scope cl C X.env) fp) tg t) (ht : ∀ (s : Shared) (H : Hp) (C : Addr) (cl : List (Str × Addr)) (fp : List Addr), Ets (X.blk s H scope (compEnvC scope cl C X.env) fp) ifs tt)
    (he : ∀ (s : Shared) (H : Hp) (C : Addr) (cl : List (Str × Addr)) (fp : List Addr), Ev (X.blk s H scope (compEnvC scope cl C X.env) fp) elt me) (hs : ∀ x, foldedSetIterable iter X.env x = pure x := by intro _; rfl)
    (hv : ∀ i ∈ sl t, i ∈ own.map (·.2) := by decide) (hc : X.calm = true := by rfl) : Ev X (.ListComp elt [⟨tg, iter, ifs, 0⟩] scope pos) (mLc mi (own.map (·.2)) t tt me) := by
  refine ⟨fun pins s σ H Q I h => (pe_lc hc hN hi ok hg ht he hs).run pins s σ H Q I (t_lc (fun i h => ⟨hv i h, lt_of_own ok I.len (hv i h)⟩) h)⟩
end
end Ice

/-! statements over data, defs by their mirrors -/
namespace Ice
open PySem PySem.Spec PyProof.Rows L2

/-- a name's state: unknown, data, a list of its own (that may grow) -/
inductive SL where
  | un
  | dat (d : D)
  | own (ds : List D)
  /- the one list that a caller lends to be changed -/
  | din (ds : List D)
abbrev Sl := List SL
inductive Out where
  | nx (S : Sl)
  | rt (d : D) (S : Sl)
  | bk (S : Sl)
  | ct (S : Sl)
/-- what stands of the names: O the addresses of the lists that are owned -/
structure RO (K : PySem.W.Frag) (p0 : Addr) (H0 : Hp) (ok0 O : Addr → Prop) (S : Sl) (σ : L2.St) (H : Hp) : Prop where
  same : Same H0 H
  len : S.length = σ.length
  own0 : ∀ a, O a → H0 a = none ∧ ∃ vs, H a = some (.lst vs)
  dat : ∀ (i : Nat) (d : D), S[i]? = some (.dat d) → ∃ v, σ[i]? = some (some v) ∧ Rep K H (fun a => ex ok0 H0 a ∧ ¬ O a) v d
  own : ∀ (i : Nat) (ds : List D), S[i]? = some (.own ds) → ∃ p vs, σ[i]? = some (some (.ref p)) ∧ O p ∧ H p = some (.lst vs) ∧ Reps K H (fun a => ex ok0 H0 a ∧ ¬ O a) vs ds
  inj : ∀ (i j : Nat) (ds es : List D) (p : Addr), i ≠ j → S[i]? = some (.own ds) → S[j]? = some (.own es) → σ[i]? = some (some (.ref p)) → σ[j]? = some (some (.ref p)) → False
  din : ∀ (i : Nat) (ds : List D), S[i]? = some (.din ds) → ∃ vs, σ[i]? = some (some (.ref p0)) ∧ O p0 ∧ H p0 = some (.lst vs) ∧ Reps K H (fun a => ex ok0 H0 a ∧ ¬ O a) vs ds
  inj0 : ∀ (i j : Nat) (ds es : List D), S[i]? = some (.own ds) → S[j]? = some (.din es) → σ[i]? = some (some (.ref p0)) → False
  one : ∀ (i j : Nat) (ds es : List D), S[i]? = some (.din ds) → S[j]? = some (.din es) → i = j
def RS (K : PySem.W.Frag) (p0 : Addr) (H0 : Hp) (ok0 : Addr → Prop) (S : Sl) (σ : L2.St) (H : Hp) : Prop := ∃ O, RO K p0 H0 ok0 O S σ H
def clos : SL → Option D
  | .dat d => some d
  | _ => none
def opn : SL → Option D
  | .dat d => some d
  | .own ds => some (.lst ds)
  | .din ds => some (.lst ds)
  | .un => none
def flt : SL → Option D
  | .dat d => if flat d = true then some d else none
  | _ => none
abbrev cl (S : Sl) : Sd := S.map clos
abbrev op (S : Sl) : Sd := S.map opn
abbrev fl (S : Sl) : Sd := S.map flt
section
variable {K : PySem.W.Frag} {p0 : Addr} {H0 H H' : Hp} {ok0 O : Addr → Prop} {S : Sl} {σ : L2.St}
theorem map_get {f : SL → Option D} {i : Nat} {d : D} (h : (S.map f)[i]? = some (some d)) : ∃ s, S[i]? = some s ∧ f s = some d := by
  rw [List.getElem?_map] at h
  cases e : S[i]? with
  | none => rw [e] at h; cases h
  | some s => rw [e] at h; exact ⟨s, rfl, Option.some.inj h⟩
theorem set_back {i j : Nat} {s t : SL} (h : (S.set i s)[j]? = some t) (ne : s ≠ t) : i ≠ j ∧ S[j]? = some t := by
  by_cases c : i = j
  · subst c
    rw [List.getElem?_set, if_pos rfl] at h
    split at h
    · cases h; exact absurd rfl ne
    · cases h
  · rw [List.getElem?_set_ne c] at h; exact ⟨c, h⟩
theorem RO.closed (r : RO K p0 H0 ok0 O S σ H) : Rs K H (fun a => ex ok0 H0 a ∧ ¬ O a) (cl S) σ := fun i d h => by
  obtain ⟨s, e, f⟩ := map_get h
  cases s with
  | dat d' => cases f; exact r.dat i _ e
  | _ => cases f
theorem RO.opened (r : RO K p0 H0 ok0 O S σ H) : Rs K H (ex ok0 H0) (op S) σ := fun i d h => by
  obtain ⟨s, e, f⟩ := map_get h
  cases s with
  | dat d' =>
    cases f
    obtain ⟨v, h1, h2⟩ := r.dat i _ e
    exact ⟨v, h1, h2.keeps (Same.keeps (Same.refl _)) fun _ z => z.1⟩
  | own ds =>
    cases f
    obtain ⟨p, vs, h1, h2, h3, h4⟩ := r.own i _ e
    exact ⟨_, h1, .lst (.inr (r.own0 p h2).1) h3 (h4.keeps (Same.keeps (Same.refl _)) fun _ z => z.1)⟩
  | din ds =>
    cases f
    obtain ⟨vs, h1, h2, h3, h4⟩ := r.din i _ e
    exact ⟨_, h1, .lst (.inr (r.own0 p0 h2).1) h3 (h4.keeps (Same.keeps (Same.refl _)) fun _ z => z.1)⟩
  | un => cases f
theorem RO.flatly (r : RO K p0 H0 ok0 O S σ H) : Rs K H (fun _ => False) (fl S) σ := fun i d h => by
  obtain ⟨s, e, f⟩ := map_get h
  cases s with
  | dat d' =>
    have f' : (if flat d' = true then some d' else none) = some d := f
    by_cases c : flat d' = true
    · rw [if_pos c] at f'
      cases f'
      obtain ⟨v, h1, h2⟩ := r.dat i _ e
      exact ⟨v, h1, h2.flat _ _ c⟩
    · rw [if_neg c] at f'
      cases f'
  | _ => cases f
/-- the heap has grown -/
theorem RO.grow (r : RO K p0 H0 ok0 O S σ H) (s : Same H H') : RO K p0 H0 ok0 O S σ H' :=
  ⟨r.same.trans s, r.len, fun a h => let ⟨h1, vs, h2⟩ := r.own0 a h; ⟨h1, vs, s _ _ h2⟩, fun i d h => let ⟨v, h1, h2⟩ := r.dat i d h; ⟨v, h1, h2.keeps (Same.keeps s) fun _ z => z⟩,
    fun i ds h => let ⟨p, vs, h1, h2, h3, h4⟩ := r.own i ds h; ⟨p, vs, h1, h2, s _ _ h3, h4.keeps (Same.keeps s) fun _ z => z⟩, r.inj,
    fun i ds h => let ⟨vs, h1, h2, h3, h4⟩ := r.din i ds h; ⟨vs, h1, h2, s _ _ h3, h4.keeps (Same.keeps s) fun _ z => z⟩, r.inj0, r.one⟩
theorem good_new (r : RO K p0 H0 ok0 O S σ H) {a : Addr} (h : ex (fun a => ex ok0 H0 a ∧ ¬ O a) H a) : ex ok0 H0 a ∧ ¬ O a := by
  rcases h with h | h
  · exact h
  · exact ⟨.inr (r.same.free h), fun o => by
      obtain ⟨_, vs, e⟩ := r.own0 a o
      rw [h] at e
      cases e⟩
theorem good_open (r : RO K p0 H0 ok0 O S σ H) {a : Addr} (h : ex (ex ok0 H0) H a) : ex ok0 H0 a := h.elim (fun z => z) fun z => .inr (r.same.free z)
/-- a slot is stored: data -/
theorem RO.put (r : RO K p0 H0 ok0 O S σ H) {i : Nat} {d : D} {v : V} (rv : Rep K H (fun a => ex ok0 H0 a ∧ ¬ O a) v d) : RO K p0 H0 ok0 O (S.set i (.dat d)) (σ.set i (some v)) H := by
  have len : (S.set i (.dat d)).length = (σ.set i (some v)).length := by rw [List.length_set, List.length_set, r.len]
  refine ⟨r.same, len, r.own0, fun j e h => ?_, fun j ds h => ?_, fun j k ds es p ne h1 h2 h3 h4 => ?_, fun j ds h => ?_, fun j k ds es h1 h2 h3 => ?_, fun j k ds es h1 h2 => ?_⟩
  · by_cases c : i = j
    · subst c
      rw [List.getElem?_set, if_pos rfl] at h
      split at h
      · next hl =>
        cases h
        exact ⟨v, List.getElem?_set_self (by rw [← r.len]; exact hl), rv⟩
      · cases h
    · rw [List.getElem?_set_ne c] at h
      obtain ⟨u, e1, e2⟩ := r.dat j e h
      exact ⟨u, by rw [List.getElem?_set_ne c]; exact e1, e2⟩
  · obtain ⟨c, h⟩ := set_back h (by intro z; cases z)
    obtain ⟨p, vs, e1, e2⟩ := r.own j ds h
    exact ⟨p, vs, by rw [List.getElem?_set_ne c]; exact e1, e2⟩
  · obtain ⟨cj, h1⟩ := set_back h1 (by intro z; cases z)
    obtain ⟨ck, h2⟩ := set_back h2 (by intro z; cases z)
    rw [List.getElem?_set_ne cj] at h3
    rw [List.getElem?_set_ne ck] at h4
    exact r.inj j k ds es p ne h1 h2 h3 h4
  · obtain ⟨c, h⟩ := set_back h (by intro z; cases z)
    obtain ⟨vs, e1, e2⟩ := r.din j ds h
    exact ⟨vs, by rw [List.getElem?_set_ne c]; exact e1, e2⟩
  · obtain ⟨cj, h1⟩ := set_back h1 (by intro z; cases z)
    obtain ⟨ck, h2⟩ := set_back h2 (by intro z; cases z)
    rw [List.getElem?_set_ne cj] at h3
    exact r.inj0 j k ds es h1 h2 h3
  · exact r.one j k ds es (set_back h1 (by intro z; cases z)).2 (set_back h2 (by intro z; cases z)).2
/-- a new list of one's own -/
theorem RO.putOwn (r : RO K p0 H0 ok0 O S σ H) {i : Nat} {ds : List D} {p : Addr} {vs : List V} (hp : H p = none) (hx : H' p = some (.lst vs)) (s : Same H H') (fd : flats ds = true) (rv : Reps K H' (ex (fun _ => False) H) vs ds) :
    RO K p0 H0 ok0 (fun a => O a ∨ a = p) (S.set i (.own ds)) (σ.set i (some (.ref p))) H' := by
  have r' := r.grow s
  have imp : ∀ {v : V} {d : D}, Rep K H (fun a => ex ok0 H0 a ∧ ¬ O a) v d → Rep K H' (fun a => ex ok0 H0 a ∧ ¬ (O a ∨ a = p)) v d := fun {v d} h =>
    (Rep.dom d v h).keeps (Same.keeps s) fun a g => ⟨g.1.1, fun z => z.elim g.1.2 fun z => g.2 (by rw [z]; exact hp)⟩
  have imps : ∀ {v : List V} {d : List D}, Reps K H (fun a => ex ok0 H0 a ∧ ¬ O a) v d → Reps K H' (fun a => ex ok0 H0 a ∧ ¬ (O a ∨ a = p)) v d := fun {v d} h =>
    (Reps.dom d v h).keeps (Same.keeps s) fun a g => ⟨g.1.1, fun z => z.elim g.1.2 fun z => g.2 (by rw [z]; exact hp)⟩
  have old : ∀ {m : Nat} {gs : List D} {q : Addr}, i ≠ m → (S.set i (.own ds))[m]? = some (.own gs) → (σ.set i (some (.ref p)))[m]? = some (some (.ref q)) → q ≠ p := fun {m gs q} c g1 g2 z => by
      rw [List.getElem?_set_ne c] at g1 g2
      obtain ⟨q', ws, e1, e2, e3, e4⟩ := r.own m gs g1
      rw [e1] at g2
      cases g2
      rw [z, hp] at e3
      cases e3
  have hl : ∀ {gs : List D} {q : Addr}, (S.set i (.own ds))[i]? = some (.own gs) → (σ.set i (some (.ref p)))[i]? = some (some (.ref q)) → q = p := fun {gs q} g1 g2 => by
      rw [List.getElem?_set, if_pos rfl] at g2
      split at g2
      · cases g2; rfl
      · cases g2
  refine ⟨r'.same, by rw [List.length_set, List.length_set, r.len], fun a h => h.elim (r'.own0 a) fun h => by rw [h]; exact ⟨r.same.free hp, vs, hx⟩, fun j e h => ?_, fun j es h => ?_, fun j k es fs q ne h1 h2 h3 h4 => ?_, fun j es h => ?_, fun j k es fs h1 h2 h3 => ?_, fun j k es fs h1 h2 => ?_⟩
  · by_cases c : i = j
    · subst c
      rw [List.getElem?_set, if_pos rfl] at h
      split at h <;> cases h
    · rw [List.getElem?_set_ne c] at h
      obtain ⟨u, e1, e2⟩ := r.dat j e h
      exact ⟨u, by rw [List.getElem?_set_ne c]; exact e1, imp e2⟩
  · by_cases c : i = j
    · subst c
      rw [List.getElem?_set, if_pos rfl] at h
      split at h
      · next hl =>
        cases h
        exact ⟨p, vs, List.getElem?_set_self (by rw [← r.len]; exact hl), .inr rfl, hx, rv.flat _ _ fd⟩
      · cases h
    · rw [List.getElem?_set_ne c] at h
      obtain ⟨q, ws, e1, e2, e3, e4⟩ := r.own j es h
      exact ⟨q, ws, by rw [List.getElem?_set_ne c]; exact e1, .inl e2, s _ _ e3, imps e4⟩
  · by_cases cj : i = j
    · by_cases ck : i = k
      · exact ne (cj.symm.trans ck)
      · subst cj
        exact old ck h2 h4 (hl h1 h3)
    · by_cases ck : i = k
      · subst ck
        exact old cj h1 h3 (hl h2 h4)
      · rw [List.getElem?_set_ne cj] at h1 h3
        rw [List.getElem?_set_ne ck] at h2 h4
        exact r.inj j k es fs q ne h1 h2 h3 h4
  · obtain ⟨c, h⟩ := set_back h (by intro z; cases z)
    obtain ⟨ws, e1, e2, e3, e4⟩ := r.din j es h
    exact ⟨ws, by rw [List.getElem?_set_ne c]; exact e1, .inl e2, s _ _ e3, imps e4⟩
  · obtain ⟨ck, h2⟩ := set_back h2 (by intro z; cases z)
    obtain ⟨ws, e1, e2, e3, e4⟩ := r.din k fs h2
    by_cases cj : i = j
    · subst cj
      rw [hl h1 h3, hp] at e3
      cases e3
    · rw [List.getElem?_set_ne cj] at h1 h3
      exact r.inj0 j k es fs h1 h2 h3
  · exact r.one j k es fs (set_back h1 (by intro z; cases z)).2 (set_back h2 (by intro z; cases z)).2
/-- all but one address stays -/
def SameX (p : Addr) (H H' : Hp) : Prop := ∀ a o, a ≠ p → H a = some o → H' a = some o
theorem sameX_upd {p : Addr} {o : HO} : SameX p H (upd H p o) := fun a x ne e => by
  rw [upd_ne ne]
  exact e
theorem RO.keepX (r : RO K p0 H0 ok0 O S σ H) {p : Addr} (hO : O p) {vs : List V} (hp : H p = some (.lst vs)) (x : SameX p H H') : Keeps (fun a => ex ok0 H0 a ∧ ¬ O a) H H' := fun a o e g => by
  have ne : a ≠ p := fun z => by
    rw [z] at e g
    rw [hp] at e
    cases e
    exact g.elim (fun g => g.2 hO) fun g => g
  exact x a o ne e
/-- an own list is changed -/
theorem RO.updOwn (r : RO K p0 H0 ok0 O S σ H) {i : Nat} {ds es : List D} {p : Addr} {ws : List V} (hS : S[i]? = some (.own ds)) (hσ : σ[i]? = some (some (.ref p))) (x : SameX p H H') (hp : H' p = some (.lst ws)) (rv : Reps K H' (fun a => ex ok0 H0 a ∧ ¬ O a) ws es) :
    RO K p0 H0 ok0 O (S.set i (.own es)) σ H' := by
  obtain ⟨p', vs', e1, e2, e3, e4⟩ := r.own i ds hS
  rw [hσ] at e1
  cases e1
  have kp := r.keepX e2 e3 x
  have back : ∀ {m : Nat} {gs : List D}, (S.set i (.own es))[m]? = some (.own gs) → ∃ hs, S[m]? = some (.own hs) := fun {m gs} g => by
      by_cases c : i = m
      · subst c; exact ⟨ds, hS⟩
      · rw [List.getElem?_set_ne c] at g; exact ⟨gs, g⟩
  refine ⟨fun a o e => x a o (ne_of_none e (r.own0 p e2).1) (r.same a o e), by rw [List.length_set, r.len], fun a h => ?_, fun j e h => ?_, fun j gs h => ?_, fun j k gs fs q ne h1 h2 h3 h4 => ?_, fun j gs h => ?_, fun j k gs fs h1 h2 h3 => ?_, fun j k gs fs h1 h2 => ?_⟩
  · obtain ⟨h1, us, h2⟩ := r.own0 a h
    by_cases c : a = p
    · subst c
      exact ⟨h1, _, hp⟩
    · exact ⟨h1, us, x a _ c h2⟩
  · obtain ⟨c, h⟩ := set_back h (by intro z; cases z)
    obtain ⟨u, e1, e2⟩ := r.dat j e h
    exact ⟨u, e1, e2.keeps kp fun _ z => z⟩
  · by_cases c : i = j
    · subst c
      rw [List.getElem?_set, if_pos rfl] at h
      split at h
      · cases h
        exact ⟨p, _, hσ, e2, hp, rv⟩
      · cases h
    · rw [List.getElem?_set_ne c] at h
      obtain ⟨q, us, f1, f2, f3, f4⟩ := r.own j gs h
      have ne : q ≠ p := fun z => by
        subst z
        exact r.inj i j ds gs q c hS h hσ f1
      exact ⟨q, us, f1, f2, x q _ ne f3, f4.keeps kp fun _ z => z⟩
  · obtain ⟨_, g1⟩ := back h1
    obtain ⟨_, g2⟩ := back h2
    exact r.inj j k _ _ q ne g1 g2 h3 h4
  · obtain ⟨c, h⟩ := set_back h (by intro z; cases z)
    obtain ⟨us, f1, f2, f3, f4⟩ := r.din j gs h
    have ne : p0 ≠ p := fun z => by
      subst z
      exact r.inj0 i j ds gs hS h hσ
    exact ⟨us, f1, f2, x _ _ ne f3, f4.keeps kp fun _ z => z⟩
  · obtain ⟨_, g1⟩ := back h1
    exact r.inj0 j k _ _ g1 (set_back h2 (by intro z; cases z)).2 h3
  · exact r.one j k gs fs (set_back h1 (by intro z; cases z)).2 (set_back h2 (by intro z; cases z)).2
/-- the lent list is changed -/
theorem RO.updDin (r : RO K p0 H0 ok0 O S σ H) {i : Nat} {ds es : List D} {ws : List V} (hS : S[i]? = some (.din ds)) (x : SameX p0 H H') (hp : H' p0 = some (.lst ws)) (rv : Reps K H' (fun a => ex ok0 H0 a ∧ ¬ O a) ws es) :
    RO K p0 H0 ok0 O (S.set i (.din es)) σ H' := by
  obtain ⟨vs', e1, e2, e3, e4⟩ := r.din i ds hS
  have kp := r.keepX e2 e3 x
  have back : ∀ {m : Nat} {gs : List D}, (S.set i (.din es))[m]? = some (.din gs) → ∃ hs, S[m]? = some (.din hs) := fun {m gs} g => by
      by_cases c : i = m
      · subst c; exact ⟨ds, hS⟩
      · rw [List.getElem?_set_ne c] at g; exact ⟨gs, g⟩
  refine ⟨fun a o e => x a o (ne_of_none e (r.own0 p0 e2).1) (r.same a o e), by rw [List.length_set, r.len], fun a h => ?_, fun j e h => ?_, fun j gs h => ?_, fun j k gs fs q ne h1 h2 h3 h4 => ?_, fun j gs h => ?_, fun j k gs fs h1 h2 h3 => ?_, fun j k gs fs h1 h2 => ?_⟩
  · obtain ⟨h1, us, h2⟩ := r.own0 a h
    by_cases c : a = p0
    · subst c
      exact ⟨h1, _, hp⟩
    · exact ⟨h1, us, x a _ c h2⟩
  · obtain ⟨c, h⟩ := set_back h (by intro z; cases z)
    obtain ⟨u, e1, e2⟩ := r.dat j e h
    exact ⟨u, e1, e2.keeps kp fun _ z => z⟩
  · obtain ⟨c, h⟩ := set_back h (by intro z; cases z)
    obtain ⟨q, us, f1, f2, f3, f4⟩ := r.own j gs h
    have ne : q ≠ p0 := fun z => by
      subst z
      exact r.inj0 j i gs ds h hS f1
    exact ⟨q, us, f1, f2, x q _ ne f3, f4.keeps kp fun _ z => z⟩
  · exact r.inj j k _ _ q ne (set_back h1 (by intro z; cases z)).2 (set_back h2 (by intro z; cases z)).2 h3 h4
  · by_cases c : i = j
    · subst c
      rw [List.getElem?_set, if_pos rfl] at h
      split at h
      · cases h
        exact ⟨_, e1, e2, hp, rv⟩
      · cases h
    · rw [List.getElem?_set_ne c] at h
      exact absurd (r.one i j ds gs hS h) c
  · obtain ⟨_, g2⟩ := back h2
    exact r.inj0 j k _ _ (set_back h1 (by intro z; cases z)).2 g2 h3
  · obtain ⟨_, g1⟩ := back h1
    obtain ⟨_, g2⟩ := back h2
    exact r.one j k _ _ g1 g2
/-- an own list grows by data -/
theorem RO.app (r : RO K p0 H0 ok0 O S σ H) {i : Nat} {ds : List D} {d : D} {p : Addr} {v : V} {vs : List V} (hS : S[i]? = some (.own ds)) (hσ : σ[i]? = some (some (.ref p))) (hp : H p = some (.lst vs)) (rv : Rep K H (fun a => ex ok0 H0 a ∧ ¬ O a) v d) :
    RO K p0 H0 ok0 O (S.set i (.own (ds ++ [d]))) σ (upd H p (.lst (vs ++ [v]))) := by
  obtain ⟨p', vs', e1, e2, e3, e4⟩ := r.own i ds hS
  rw [hσ] at e1
  cases e1
  rw [hp] at e3
  cases e3
  have kp := r.keepX e2 hp (sameX_upd (o := .lst (vs ++ [v])))
  exact r.updOwn hS hσ sameX_upd upd_same (Reps.append (e4.keeps kp fun _ z => z) (.cons (rv.keeps kp fun _ z => z) .nil))
/-- a slot is forgotten -/
theorem RO.drop (r : RO K p0 H0 ok0 O S σ H) (i : Nat) : RO K p0 H0 ok0 O (S.set i .un) σ H :=
  ⟨r.same, by rw [List.length_set, r.len], r.own0, fun j d h => r.dat j d (set_back h (by intro z; cases z)).2, fun j d h => r.own j d (set_back h (by intro z; cases z)).2,
    fun j k ds es p ne h1 h2 h3 h4 => r.inj j k ds es p ne (set_back h1 (by intro z; cases z)).2 (set_back h2 (by intro z; cases z)).2 h3 h4,
    fun j d h => r.din j d (set_back h (by intro z; cases z)).2, fun j k ds es h1 h2 h3 => r.inj0 j k ds es (set_back h1 (by intro z; cases z)).2 (set_back h2 (by intro z; cases z)).2 h3,
    fun j k ds es h1 h2 => r.one j k ds es (set_back h1 (by intro z; cases z)).2 (set_back h2 (by intro z; cases z)).2⟩
/-- an own list is owned no more: it is data -/
theorem RO.lend (r : RO K p0 H0 ok0 O S σ H) {i : Nat} {ds : List D} {p : Addr} (hS : S[i]? = some (.own ds)) (hσ : σ[i]? = some (some (.ref p))) : RO K p0 H0 ok0 (fun a => O a ∧ a ≠ p) (S.set i (.dat (.lst ds))) σ H := by
  obtain ⟨p', vs, e1, e2, e3, e4⟩ := r.own i ds hS
  rw [hσ] at e1
  cases e1
  have wk : ∀ a, (ex ok0 H0 a ∧ ¬ O a) → (ex ok0 H0 a ∧ ¬ (O a ∧ a ≠ p)) := fun a h => ⟨h.1, fun z => h.2 z.1⟩
  refine ⟨r.same, by rw [List.length_set, r.len], fun a h => r.own0 a h.1, fun j e h => ?_, fun j es h => ?_, fun j k es fs q ne h1 h2 h3 h4 => ?_, fun j es h => ?_, fun j k es fs h1 h2 h3 => ?_, fun j k es fs h1 h2 => ?_⟩
  · by_cases c : i = j
    · subst c
      rw [List.getElem?_set, if_pos rfl] at h
      split at h
      · cases h
        exact ⟨_, hσ, .lst ⟨.inr (r.own0 p e2).1, fun z => z.2 rfl⟩ e3 (e4.keeps (Same.keeps (Same.refl _)) wk)⟩
      · cases h
    · rw [List.getElem?_set_ne c] at h
      obtain ⟨u, f1, f2⟩ := r.dat j e h
      exact ⟨u, f1, f2.keeps (Same.keeps (Same.refl _)) wk⟩
  · obtain ⟨c, h⟩ := set_back h (by intro z; cases z)
    obtain ⟨q, ws, f1, f2, f3, f4⟩ := r.own j es h
    exact ⟨q, ws, f1, ⟨f2, fun z => by subst z; exact r.inj i j ds es q c hS h hσ f1⟩, f3, f4.keeps (Same.keeps (Same.refl _)) wk⟩
  · exact r.inj j k es fs q ne (set_back h1 (by intro z; cases z)).2 (set_back h2 (by intro z; cases z)).2 h3 h4
  · obtain ⟨c, h⟩ := set_back h (by intro z; cases z)
    obtain ⟨ws, f1, f2, f3, f4⟩ := r.din j es h
    exact ⟨ws, f1, ⟨f2, fun z => by subst z; exact r.inj0 i j ds es hS h hσ⟩, f3, f4.keeps (Same.keeps (Same.refl _)) wk⟩
  · exact r.inj0 j k es fs (set_back h1 (by intro z; cases z)).2 (set_back h2 (by intro z; cases z)).2 h3
  · exact r.one j k es fs (set_back h1 (by intro z; cases z)).2 (set_back h2 (by intro z; cases z)).2
end

/-! ### the ends -/
def Reach (K : PySem.W.Frag) (p0 : Addr) (H0 : Hp) (ok0 : Addr → Prop) (E : Ends) : Out → Prop
  | .nx S => ∀ σ H, RS K p0 H0 ok0 S σ H → E.nx σ H
  | .rt d S => ∀ v σ H, RS K p0 H0 ok0 S σ H → Rep K H (ex ok0 H0) v d → E.rt v H
  | .bk S => ∀ σ H, RS K p0 H0 ok0 S σ H → E.bk σ H
  | .ct S => ∀ σ H, RS K p0 H0 ok0 S σ H → E.ct σ H
abbrev Ms := Sl → Option Out
def tS (K : PySem.W.Frag) (m : Ms) : TS := fun E σ H => ∃ p0 H0 ok0 S o, RS K p0 H0 ok0 S σ H ∧ m S = some o ∧ Reach K p0 H0 ok0 E o
abbrev Es (X : Cx) (st : Stmt) (m : Ms) : Prop := PS X st (tS X.K m)
abbrev Ess (X : Cx) (st : List Stmt) (m : Ms) : Prop := PSs X st (tS X.K m)
def sSeq (a b : Ms) : Ms := fun S => (a S).bind fun o => match o with
  | .nx S1 => b S1
  | o => some o
def sNext : Ms := fun S => some (.nx S)
def sNever : Ms := fun _ => none
def sRet (m : Mi) : Ms := fun S => (m (op S)).map fun d => .rt d S
def sRetN : Ms := fun S => some (.rt .non S)
def sSet (i : Nat) (m : Mi) : Ms := fun S => (m (cl S)).map fun d => .nx (S.set i (.dat d))
def sSetF (i : Nat) (m : Mi) : Ms := fun S => (m (op S)).bind fun d => if flat d = true then some (.nx (S.set i (.dat d))) else none
def sSetO (i : Nat) (m : Mi) : Ms := fun S => (m (fl S)).bind fun d => match d with
  | .lst ds => if flats ds = true then some (.nx (S.set i (.own ds))) else none
  | _ => none
def sDrop (m : Mi) : Ms := fun S => (m (op S)).map fun _ => .nx S
def sIf (t : Mt) (a b : Ms) : Ms := fun S => (t (op S)).bind fun c => if c = true then a S else b S
def sAugI (i : Nat) (m : Mi) : Ms := fun S => match S[i]? with
  | some (.dat (.int a)) => (m (op S)).bind fun d => match d with
    | .int b => some (.nx (S.set i (.dat (.int (a + b)))))
    | _ => none
  | _ => none
def sApp (i : Nat) (m : Mi) : Ms := fun S => match S[i]? with
  | some (.own ds) => if ds.length < 1000000 then (m (cl S)).map fun d => .nx (S.set i (.own (ds ++ [d]))) else none
  | _ => none
def sAppF (i : Nat) (m : Mi) : Ms := fun S => match S[i]? with
  | some (.own ds) => if ds.length < 1000000 then (m (op S)).bind fun d => if flat d = true then some (.nx (S.set i (.own (ds ++ [d])))) else none else none
  | _ => none
def sLend (i : Nat) (m : Ms) : Ms := fun S => match S[i]? with
  | some (.own ds) => m (S.set i (.dat (.lst ds)))
  | _ => m S
section
variable {X : Cx} {st : Stmt} {rest a b : List Stmt} {e c : Expr} {me : Mi} {t : Mt} {m1 m2 : Ms} {pos pos' : Pos}
theorem ess_nil : Ess X [] sNext := PSs.imp pss_nil fun E σ H h => by
  obtain ⟨p0, H0, ok0, S, o, r, m, q⟩ := h
  cases m
  exact q σ H r
theorem ess_cons (h1 : Es X st m1) (h2 : Ess X rest m2) : Ess X (st :: rest) (sSeq m1 m2) := PSs.imp (pss_cons h1 h2) fun E σ H h => by
  obtain ⟨p0, H0, ok0, S, o, r, m, q⟩ := h
  obtain ⟨o1, e1, m⟩ := bind_some m
  refine ⟨p0, H0, ok0, S, o1, r, e1, ?_⟩
  cases o1 with
  | nx S1 => exact fun σ1 H1 r1 => ⟨p0, H0, ok0, S1, o, r1, m, q⟩
  | rt d S1 => cases m; exact q
  | bk S1 => cases m; exact q
  | ct S1 => cases m; exact q
theorem ess_one (h1 : Es X st m1) : Ess X [st] m1 := PSs.imp (pss_one h1) fun E σ H h => h
theorem es_never : Es X st sNever := PS.imp ps_never fun E σ H h => by
  obtain ⟨p0, H0, ok0, S, o, r, m, q⟩ := h
  cases m
theorem es_pass : Es X (.Pass pos) sNext := PS.imp ps_pass fun E σ H h => by
  obtain ⟨p0, H0, ok0, S, o, r, m, q⟩ := h
  cases m
  exact q σ H r
theorem es_cont : Es X (.Continue pos) (fun S => some (.ct S)) := PS.imp ps_continue fun E σ H h => by
  obtain ⟨p0, H0, ok0, S, o, r, m, q⟩ := h
  cases m
  exact q σ H r
theorem es_break : Es X (.Break pos) (fun S => some (.bk S)) := PS.imp ps_break fun E σ H h => by
  obtain ⟨p0, H0, ok0, S, o, r, m, q⟩ := h
  cases m
  exact q σ H r
theorem map_some {α β : Type} {o : Option α} {f : α → β} {z : β} (h : o.map f = some z) : ∃ x, o = some x ∧ f x = z := by
  cases o with
  | none => cases h
  | some x => exact ⟨x, rfl, Option.some.inj h⟩
theorem es_ret (he : Ev X e me) : Es X (.Return (some e) pos) (sRet me) := PS.imp (ps_ret he) fun E σ H h => by
  obtain ⟨p0, H0, ok0, S, o, ⟨O, r⟩, m, q⟩ := h
  obtain ⟨d, e1, m⟩ := map_some m
  subst m
  exact ⟨_, _, d, r.opened, e1, fun v H' s rv => q v σ H' ⟨O, r.grow s⟩ (rv.keeps (Same.keeps (Same.refl _)) fun a h => good_open r h)⟩
theorem es_retN : Es X (.Return none pos) sRetN := PS.imp ps_retN fun E σ H h => by
  obtain ⟨p0, H0, ok0, S, o, ⟨O, r⟩, m, q⟩ := h
  cases m
  exact q _ σ H ⟨O, r⟩ .non
theorem es_set (i : Nat) {x : Str} (hN : X.N.Nodup) (he : Ev X e me) (hi : X.N[i]? = some x := by rfl) (hx : Loc X.env.scope x := by first | exact Or.inl rfl | exact Or.inr rfl) (hs : swapsWith e (some (.Name x pos')) pos.line X.env = pure false := by rfl)
    (hf : X.fn x = true ∨ X.env.scope.names.lookup x = some .local := by first | exact .inl rfl | exact .inr rfl) : Es X (.Assign [.Name x pos'] e pos) (sSet i me) := PS.imp (ps_set hN hi hx he hs hf) fun E σ H h => by
  obtain ⟨p0, H0, ok0, S, o, ⟨O, r⟩, m, q⟩ := h
  obtain ⟨d, e1, m⟩ := map_some m
  subst m
  exact ⟨_, _, d, r.closed, e1, fun v H' s rv => q _ H' ⟨O, (r.grow s).put (rv.keeps (Same.keeps (Same.refl _)) fun a h => good_new r h)⟩⟩
theorem es_setF (i : Nat) {x : Str} (hN : X.N.Nodup) (he : Ev X e me) (hi : X.N[i]? = some x := by rfl) (hx : Loc X.env.scope x := by first | exact Or.inl rfl | exact Or.inr rfl) (hs : swapsWith e (some (.Name x pos')) pos.line X.env = pure false := by rfl)
    (hf : X.fn x = true ∨ X.env.scope.names.lookup x = some .local := by first | exact .inl rfl | exact .inr rfl) : Es X (.Assign [.Name x pos'] e pos) (sSetF i me) := PS.imp (ps_set hN hi hx he hs hf) fun E σ H h => by
  obtain ⟨p0, H0, ok0, S, o, ⟨O, r⟩, m, q⟩ := h
  obtain ⟨d, e1, m⟩ := bind_some m
  split at m
  · next fd =>
    cases m
    exact ⟨_, _, d, r.opened, e1, fun v H' s rv => q _ H' ⟨O, (r.grow s).put (rv.flat _ _ fd)⟩⟩
  · cases m
theorem es_setO (i : Nat) {x : Str} (hN : X.N.Nodup) (he : Ev X e me) (hi : X.N[i]? = some x := by rfl) (hx : Loc X.env.scope x := by first | exact Or.inl rfl | exact Or.inr rfl) (hs : swapsWith e (some (.Name x pos')) pos.line X.env = pure false := by rfl)
    (hf : X.fn x = true ∨ X.env.scope.names.lookup x = some .local := by first | exact .inl rfl | exact .inr rfl) : Es X (.Assign [.Name x pos'] e pos) (sSetO i me) := PS.imp (ps_set hN hi hx he hs hf) fun E σ H h => by
  obtain ⟨p0, H0, ok0, S, o, ⟨O, r⟩, m, q⟩ := h
  obtain ⟨d, e1, m⟩ := bind_some m
  split at m
  · next ds =>
    split at m
    · next fd =>
      cases m
      refine ⟨_, _, _, r.flatly, e1, fun v H' s rv => ?_⟩
      cases rv with
      | lst g h rr => exact q _ H' ⟨_, r.putOwn (g.elim (fun z => z.elim) fun z => z) h s fd rr⟩
    · cases m
  · cases m
theorem es_drop (he : Ev X e me) (hs : swapsWith e none pos.line X.env = pure false := by rfl) : Es X (.Expr e pos) (sDrop me) := PS.imp (ps_expr he hs) fun E σ H h => by
  obtain ⟨p0, H0, ok0, S, o, ⟨O, r⟩, m, q⟩ := h
  obtain ⟨d, e1, m⟩ := map_some m
  subst m
  exact ⟨_, _, d, r.opened, e1, fun v H' s rv => q _ H' ⟨O, r.grow s⟩⟩
theorem es_doc {x j} : Es X (.Expr (.Constant (.str x) j pos) pos') sNext := PS.imp ps_doc fun E σ H h => by
  obtain ⟨p0, H0, ok0, S, o, r, m, q⟩ := h
  cases m
  exact q σ H r
theorem es_if (hc : Et X c t) (ha : Ess X a m1) (hb : Ess X b m2) : Es X (.If c a b pos) (sIf t m1 m2) := PS.imp (ps_if hc ha hb) fun E σ H h => by
  obtain ⟨p0, H0, ok0, S, o, ⟨O, r⟩, m, q⟩ := h
  obtain ⟨d, e1, m⟩ := bind_some m
  refine ⟨_, _, d, r.opened, e1, fun H' s => ?_⟩
  cases d with
  | true => exact ⟨p0, H0, ok0, S, o, ⟨O, r.grow s⟩, m, q⟩
  | false => exact ⟨p0, H0, ok0, S, o, ⟨O, r.grow s⟩, m, q⟩
theorem es_aug (i : Nat) {x : Str} (hN : X.N.Nodup) (he : Ev X e me) (hi : X.N[i]? = some x := by rfl) (hx : Loc X.env.scope x := by first | exact Or.inl rfl | exact Or.inr rfl)
    (hf : X.fn x = true ∨ X.env.scope.names.lookup x = some .local := by first | exact .inl rfl | exact .inr rfl) : Es X (.AugAssign (.Name x pos') .Add e pos) (sAugI i me) := PS.imp (ps_aug hN hi hx he ip_add hf) fun E σ H h => by
  obtain ⟨p0, H0, ok0, S, o, ⟨O, r⟩, m, q⟩ := h
  unfold sAugI at m
  split at m
  · next x' hS =>
    obtain ⟨d, e1, m⟩ := bind_some m
    split at m
    · cases m
      obtain ⟨v, h1, h2⟩ := r.dat i _ hS
      cases h2
      refine ⟨_, h1, _, _, _, r.opened, e1, fun y H' s ry => ?_⟩
      cases ry
      exact ⟨_, _, rfl, rfl, q _ H' ⟨O, (r.grow s).put (.int _)⟩⟩
    · cases m
  · cases m
theorem pe_app {x : Str} {p1 p2 p3 : Pos} (i : Nat) (he : Ev X e me) (hi : X.N[i]? = some x := by rfl) (hv : Vis X.env.scope x := by first | exact Or.inl rfl | exact Or.inr (Or.inl rfl) | exact Or.inr (Or.inr rfl))
    (hd : (x == ("__debug__" : Str)) = false := by decide) (hcd : (x == ("__classdict__" : Str)) = false := by decide)
    (hbase : attributeBase (.Name x p1) "append" X.env (eval (.Name x p1) X.env) = eval (.Name x p1) X.env := by rfl)
    (hfew : ((backTo p3 (starEach [e] X.env)).all (fun x => !x.1) && (backToKw p3 (keywordEach [] X.env)).all (fun x => x.1.isSome) && decide ([e].length + ([] : List Keyword).length + (if ([] : List Keyword).isEmpty then 0 else 1) < 30)) = true := by rfl)
    (hline : (p2.endLine == p3.line) = true := by rfl) (hs : starEach [e] X.env = (false, eval e X.env) :: starEach [] X.env := by rfl) (hplain : (backTo p3 (starEach [] X.env)).any (fun x => x.1) = false := by rfl) :
    PE X (.Call (.Attribute (.Name x p1) "append" p2) [e] [] p3) (tBM X.K "list" rAppend (tVar i) (tA X.K (aCons me aNil))) :=
  pe_bm PySem.F.plainAttrs_list PySem.F.slot_list_append PySem.F.type_list_append mt_append (pe_var hi hv hd hcd) (ea_cons he ea_nil hs) hbase hfew hline hs hplain
theorem t_app {K : PySem.W.Frag} {p0 : Addr} {i : Nat} {E : Ends} {σ : L2.St} {H H0 : Hp} {ok0 O : Addr → Prop} {S : Sl} {ds : List D} {d : D} {ok : Addr → Prop} {Sd0 : Sd} (r : RO K p0 H0 ok0 O S σ H) (hS : S[i]? = some (.own ds)) (hl : ds.length < 1000000) (rs : Rs K H ok Sd0 σ) (e1 : me Sd0 = some d)
    (hr : ∀ v H', Same H H' → Rep K H' (ex ok H) v d → Rep K H' (fun a => ex ok0 H0 a ∧ ¬ O a) v d) (q : ∀ σ' H', RS K p0 H0 ok0 (S.set i (.own (ds ++ [d]))) σ' H' → E.nx σ' H') : tDrop (tBM K "list" rAppend (tVar i) (tA K (aCons me aNil))) E σ H := by
  obtain ⟨p, vs, h1, h2, h3, h4⟩ := r.own i ds hS
  refine ⟨_, h1, .inl ⟨rfl, _, SqL.of h3⟩, ok, Sd0, [d], rs, ?_, fun us H' s ru => ?_⟩
  · show (me Sd0).bind (fun x => some [x]) = some [d]
    rw [e1]
    rfl
  · cases ru with
    | cons rv ru =>
      cases ru
      have hp : H' p = some (.lst vs) := s _ _ h3
      refine ⟨p, vs, _, rfl, rfl, hp, ?_, q σ _ ⟨O, (r.grow s).app hS h1 hp (hr _ H' s rv)⟩⟩
      rw [h4.length]
      exact Nat.lt_trans hl (by decide)
theorem es_app {x : Str} {p1 p2 p3 : Pos} (i : Nat) (h : PE X (.Call (.Attribute (.Name x p1) "append" p2) [e] [] p3) (tBM X.K "list" rAppend (tVar i) (tA X.K (aCons me aNil))))
    (hs : swapsWith (.Call (.Attribute (.Name x p1) "append" p2) [e] [] p3) none pos.line X.env = pure false := by rfl) : Es X (.Expr (.Call (.Attribute (.Name x p1) "append" p2) [e] [] p3) pos) (sApp i me) := PS.imp (ps_expr h hs) fun E σ H hh => by
  obtain ⟨p0, H0, ok0, S, o, ⟨O, r⟩, m, q⟩ := hh
  unfold sApp at m
  split at m
  · next ds hS =>
    split at m
    · next hl =>
      obtain ⟨d, e1, m⟩ := map_some m
      subst m
      exact t_app r hS hl r.closed e1 (fun v H' s rv => rv.keeps (Same.keeps (Same.refl _)) fun a h => good_new r h) q
    · cases m
  · cases m
theorem es_appF {x : Str} {p1 p2 p3 : Pos} (i : Nat) (h : PE X (.Call (.Attribute (.Name x p1) "append" p2) [e] [] p3) (tBM X.K "list" rAppend (tVar i) (tA X.K (aCons me aNil))))
    (hs : swapsWith (.Call (.Attribute (.Name x p1) "append" p2) [e] [] p3) none pos.line X.env = pure false := by rfl) : Es X (.Expr (.Call (.Attribute (.Name x p1) "append" p2) [e] [] p3) pos) (sAppF i me) := PS.imp (ps_expr h hs) fun E σ H hh => by
  obtain ⟨p0, H0, ok0, S, o, ⟨O, r⟩, m, q⟩ := hh
  unfold sAppF at m
  split at m
  · next ds hS =>
    split at m
    · next hl =>
      obtain ⟨d, e1, m⟩ := bind_some m
      split at m
      · next fd =>
        cases m
        exact t_app r hS hl r.opened e1 (fun v H' s rv => rv.flat _ _ fd) q
      · cases m
    · cases m
  · cases m
theorem es_lend (i : Nat) (h : Es X st m1) : Es X st (sLend i m1) := PS.imp h fun E σ H hh => by
  obtain ⟨p0, H0, ok0, S, o, ⟨O, r⟩, m, q⟩ := hh
  unfold sLend at m
  split at m
  · next ds hS =>
    obtain ⟨p, vs, h1, h2, h3, h4⟩ := r.own i ds hS
    exact ⟨p0, H0, ok0, _, o, ⟨_, r.lend hS h1⟩, m, q⟩
  · exact ⟨p0, H0, ok0, _, o, ⟨O, r⟩, m, q⟩
end
end Ice

/-! stores to tuples of names, loops, defs -/
namespace Ice
open PySem PySem.Spec PyProof.Rows L2

mutual
def asgL : Tg → D → Sl → Option Sl
  | .nm i, d, S => some (S.set i (.dat d))
  | .tp ts, .tup ds, S => asgsL ts ds S
  | .tp ts, .wt ds, S => asgsL ts ds S
  | .tp _, _, _ => none
def asgsL : List Tg → List D → Sl → Option Sl
  | [], [], S => some S
  | t :: ts, d :: ds, S => (asgL t d S).bind fun S1 => asgsL ts ds S1
  | _, _, _ => none
end
def tGL (K : PySem.W.Frag) (t : Tg) : TG := fun v σ H Q => ∃ p0 H0 ok0 O S d S', RO K p0 H0 ok0 O S σ H ∧ Rep K H (fun a => ex ok0 H0 a ∧ ¬ O a) v d ∧ asgL t d S = some S' ∧ ∀ σ', RO K p0 H0 ok0 O S' σ' H → Q σ' H
def tGLs (K : PySem.W.Frag) (ts : List Tg) : TGs := fun vs σ H Q => ∃ p0 H0 ok0 O S ds S', RO K p0 H0 ok0 O S σ H ∧ Reps K H (fun a => ex ok0 H0 a ∧ ¬ O a) vs ds ∧ asgsL ts ds S = some S' ∧ ∀ σ', RO K p0 H0 ok0 O S' σ' H → Q σ' H
abbrev El (X : Cx) (e : Expr) (t : Tg) : Prop := PG X e (tGL X.K t)
abbrev Els (X : Cx) (es : List Expr) (ts : List Tg) : Prop := PGs X es (tGLs X.K ts)
section
variable {X : Cx} {e : Expr} {es : List Expr} {pos : Pos}
theorem el_nm (i : Nat) {x : Str} (hN : X.N.Nodup) (hi : X.N[i]? = some x := by rfl) (hx : Loc X.env.scope x := by first | exact Or.inl rfl | exact Or.inr rfl) (hf : X.fn x = true ∨ X.env.scope.names.lookup x = some .local := by first | exact .inl rfl | exact .inr rfl) : El X (.Name x pos) (.nm i) :=
  PG.imp (pg_name hN hi hx hf) fun v σ H Q h => by
    obtain ⟨p0, H0, ok0, O, S, d, S', r, rv, a, q⟩ := h
    have a' : some (S.set i (.dat d)) = some S' := a
    cases a'
    exact q _ (r.put rv)
theorem els_nil : Els X [] [] := PGs.imp pgs_nil fun v σ H Q h => by
  obtain ⟨p0, H0, ok0, O, S, ds, S', r, rv, a, q⟩ := h
  cases rv with
  | nil =>
    have a' : some S = some S' := a
    cases a'
    exact ⟨rfl, q σ r⟩
  | cons _ _ => cases a
theorem els_cons {t : Tg} {ts : List Tg} (h1 : El X e t) (h2 : Els X es ts) (hs : (assignEach (e :: es) X.env).map (fun x => x.2) = assign e X.env :: (assignEach es X.env).map (fun x => x.2) := by rfl) : Els X (e :: es) (t :: ts) := PGs.imp (pgs_cons h1 h2 hs) fun v σ H Q h => by
  obtain ⟨p0, H0, ok0, O, S, ds, S', r, rv, a, q⟩ := h
  cases rv with
  | nil => cases a
  | cons rv rr =>
    obtain ⟨S1, a1, a2⟩ := bind_some (show (asgL t _ S).bind (fun S1 => asgsL ts _ S1) = some S' from a)
    exact ⟨_, _, rfl, p0, H0, ok0, O, S, _, S1, r, rv, a1, fun σ1 r1 => ⟨p0, H0, ok0, O, S1, _, S', r1, rr, a2, q⟩⟩
theorem asgsL_len : ∀ {ts : List Tg} {ds : List D} {S S' : Sl}, asgsL ts ds S = some S' → ds.length = ts.length
  | [], [], _, _, _ => rfl
  | [], _ :: _, _, _, h => by cases h
  | _ :: _, [], _, _, h => by cases h
  | t :: ts, d :: ds, S, S', h => by
    obtain ⟨S1, _, h2⟩ := bind_some (show (asgL t d S).bind (fun S1 => asgsL ts ds S1) = some S' from h)
    exact congrArg (· + 1) (asgsL_len h2)
theorem el_tp {k : Nat} {ts : List Tg} (h : Els X es ts) (hn : (assignEach es X.env).length = ts.length := by rfl) (hst : (assignEach es X.env).findIdx? (fun x => x.1) = none := by rfl) (hc : X.calm = true := by rfl) : El X (.Tuple es k pos) (.tp ts) := PG.imp (pg_tup (n := (assignEach es X.env).length) hc h rfl hst) fun v σ H Q h => by
  obtain ⟨p0, H0, ok0, O, S, d, S', r, rv, a, q⟩ := h
  cases rv with
  | tup h rr =>
    have a' : asgsL ts _ S = some S' := a
    exact ⟨_, _, rfl, SqT.of h, by rw [rr.length, asgsL_len a', ← hn], p0, H0, ok0, O, S, _, S', r, rr, a', q⟩
  | wt h rr =>
    have a' : asgsL ts _ S = some S' := a
    exact ⟨_, _, rfl, h, by rw [rr.length, asgsL_len a', ← hn], p0, H0, ok0, O, S, _, S', r, rr, a', q⟩
  | _ => cases a
def sUnp (t : Tg) (m : Mi) : Ms := fun S => (m (cl S)).bind fun d => (asgL t d S).map .nx
theorem es_unp {tg : Expr} {me : Mi} {t : Tg} (he : Ev X e me) (hg : El X tg t) (hs : swapsWithSole [tg] e pos.line X.env = pure false := by rfl) (hw : swappedStores [tg] e X.env = pure none := by rfl) (h1 : (assignEach [tg] X.env).map (fun x => x.2) = [assign tg X.env] := by rfl) : Es X (.Assign [tg] e pos) (sUnp t me) :=
  PS.imp (ps_asg he hg hs hw (h1 := h1)) fun E σ H h => by
    obtain ⟨p0, H0, ok0, S, o, ⟨O, r⟩, m, q⟩ := h
    obtain ⟨d, e1, m⟩ := bind_some m
    obtain ⟨S1, e2, m⟩ := map_some m
    subst m
    exact ⟨_, _, d, r.closed, e1, fun v H' s rv => ⟨p0, H0, ok0, O, S, d, S1, r.grow s, rv.keeps (Same.keeps (Same.refl _)) (fun a h => good_new r h), e2, fun σ' r' => q σ' H' ⟨O, r'⟩⟩⟩
end

/-! ### a fixed part: all that is not owned now -/
open Classical in
noncomputable def off (H : Hp) (O : Addr → Prop) : Hp := fun a => if O a then none else H a
section
variable {K : PySem.W.Frag} {p0 : Addr} {H0 H H' : Hp} {ok0 O : Addr → Prop} {S : Sl} {σ : L2.St}
theorem off_some {a : Addr} {o : HO} (h : off H O a = some o) : ¬ O a ∧ H a = some o := by
  unfold off at h
  by_cases c : O a
  · rw [if_pos c] at h; cases h
  · rw [if_neg c] at h; exact ⟨c, h⟩
theorem off_of {a : Addr} (c : ¬ O a) : off H O a = H a := by
  unfold off
  rw [if_neg c]
theorem off_in {a : Addr} (c : O a) : off H O a = none := by
  unfold off
  rw [if_pos c]
/-- the entry moved up to here -/
theorem RO.base (r : RO K p0 H0 ok0 O S σ H) : RO K p0 (off H O) (ex ok0 H0) O S σ H := by
  have s : Same (off H O) H := fun a o e => (off_some e).2
  have g : ∀ a, (ex ok0 H0 a ∧ ¬ O a) → (ex (ex ok0 H0) (off H O) a ∧ ¬ O a) := fun a h => ⟨.inl h.1, h.2⟩
  exact ⟨s, r.len, fun a h => ⟨off_in h, (r.own0 a h).2⟩, fun i d h => let ⟨v, h1, h2⟩ := r.dat i d h; ⟨v, h1, h2.keeps (Same.keeps (Same.refl _)) g⟩,
    fun i ds h => let ⟨p, vs, h1, h2, h3, h4⟩ := r.own i ds h; ⟨p, vs, h1, h2, h3, h4.keeps (Same.keeps (Same.refl _)) g⟩, r.inj,
    fun i ds h => let ⟨vs, h1, h2, h3, h4⟩ := r.din i ds h; ⟨vs, h1, h2, h3, h4.keeps (Same.keeps (Same.refl _)) g⟩, r.inj0, r.one⟩
theorem base_same (r : RO K p0 H0 ok0 O S σ H) : Same H0 (off H O) := fun a o e => by
  have c : ¬ O a := fun z => by
    have := (r.own0 a z).1
    rw [e] at this
    cases this
  rw [off_of c]
  exact r.same a o e
/-- and back -/
theorem RO.unbase {Hb : Hp} {O' : Addr → Prop} {S' : Sl} {σ' : L2.St} (s : Same H0 Hb) (r : RO K p0 Hb (ex ok0 H0) O' S' σ' H') : RO K p0 H0 ok0 O' S' σ' H' := by
  have g : ∀ a, (ex (ex ok0 H0) Hb a ∧ ¬ O' a) → (ex ok0 H0 a ∧ ¬ O' a) := fun a h => ⟨h.1.elim (fun z => z) fun z => .inr (s.free z), h.2⟩
  exact ⟨s.trans r.same, r.len, fun a h => ⟨s.free (r.own0 a h).1, (r.own0 a h).2⟩, fun i d h => let ⟨v, h1, h2⟩ := r.dat i d h; ⟨v, h1, h2.keeps (Same.keeps (Same.refl _)) g⟩,
    fun i ds h => let ⟨p, vs, h1, h2, h3, h4⟩ := r.own i ds h; ⟨p, vs, h1, h2, h3, h4.keeps (Same.keeps (Same.refl _)) g⟩, r.inj,
    fun i ds h => let ⟨vs, h1, h2, h3, h4⟩ := r.din i ds h; ⟨vs, h1, h2, h3, h4.keeps (Same.keeps (Same.refl _)) g⟩, r.inj0, r.one⟩
theorem Reach.rebase {Hb : Hp} {E : Ends} (s : Same H0 Hb) : ∀ {o : Out}, Reach K p0 H0 ok0 E o → Reach K p0 Hb (ex ok0 H0) E o
  | .nx _, q => fun σ H ⟨O, r⟩ => q σ H ⟨O, r.unbase s⟩
  | .bk _, q => fun σ H ⟨O, r⟩ => q σ H ⟨O, r.unbase s⟩
  | .ct _, q => fun σ H ⟨O, r⟩ => q σ H ⟨O, r.unbase s⟩
  | .rt _ _, q => fun v σ H ⟨O, r⟩ rv => q v σ H ⟨O, r.unbase s⟩ (rv.keeps (Same.keeps (Same.refl _)) fun a h => h.elim (fun z => z) fun z => .inr (s.free z))
end

/-! ### loops -/
def forM (t : Tg) (b : Ms) : List D → Sl → Option Out
  | [], S => some (.nx S)
  | d :: r, S => (asgL t d S).bind fun S1 => (b S1).bind fun o => match o with
    | .nx S2 => forM t b r S2
    | .ct S2 => forM t b r S2
    | .bk S2 => some (.nx S2)
    | .rt d S2 => some (.rt d S2)
def sFor (mi : Ma) (t : Tg) (b : Ms) : Ms := fun S => (mi (cl S)).bind fun ds => forM t b ds S
theorem t_for {K : PySem.W.Frag} {mi : Ma} {t : Tg} {b : Ms} {E : Ends} {σ : L2.St} {H : Hp} (h : tS K (sFor mi t b) E σ H) : tFor (tI K mi) (tGL K t) (tS K b) E σ H := by
  obtain ⟨p0, H0, ok0, S, o, ⟨O, r⟩, m, q⟩ := h
  obtain ⟨ds, e1, m⟩ := bind_some m
  refine ⟨_, _, ds, r.closed, e1, fun J H1 s wk => ?_⟩
  have r1 := r.grow s
  have sb := base_same r1
  have q1 := q.rebase (K := K) sb
  -- what the walk leans on is not owned
  have kp : Keeps (fun a => ex (fun a => ex ok0 H0 a ∧ ¬ O a) H a ∧ H1 a ≠ none) H1 (off H1 O) := fun a o e g => by
    have c : ¬ O a := fun z => by
      rcases g with g | g
      · exact (good_new r g.1).2 z
      · obtain ⟨_, vs, e2⟩ := r1.own0 a z
        rw [e2] at e
        cases e
        exact g
    rw [off_of c]
    exact e
  refine ⟨fun i n σ' H' => n = ds.length - i ∧ i ≤ ds.length ∧ ∃ S' o', RS K p0 (off H1 O) (ex ok0 H0) S' σ' H' ∧ forM t b (ds.drop i) S' = some o' ∧ Reach K p0 (off H1 O) (ex ok0 H0) E o', ⟨ds.length, rfl, Nat.zero_le _, S, o, ⟨O, r1.base⟩, m, q1⟩, ?_⟩
  rintro i n σ' H' ⟨rfl, hi, S', o', ⟨O', r'⟩, hm, hq⟩
  have wk' := wk _ kp i H' r'.same
  by_cases hlt : i < ds.length
  · have hg : ds[i]? = some ds[i] := List.getElem?_eq_getElem hlt
    have hdrop : ds.drop i = ds[i] :: ds.drop (i + 1) := List.drop_eq_getElem_cons hlt
    obtain ⟨go, yl⟩ := wk'.1 _ hg
    rw [hdrop] at hm
    obtain ⟨S1, ha, hm⟩ := bind_some (show (asgL t ds[i] S').bind _ = some o' from hm)
    obtain ⟨ob, hb, hm⟩ := bind_some hm
    let Nx : L2.St → Hp → Prop := fun σ'' H'' => i + 1 ≤ ds.length ∧ ∃ S' o', RS K p0 (off H1 O) (ex ok0 H0) S' σ'' H'' ∧ forM t b (ds.drop (i + 1)) S' = some o' ∧ Reach K p0 (off H1 O) (ex ok0 H0) E o'
    refine .inr ⟨go, Nx, fun σ'' H'' nx => ⟨ds.length - (i + 1), by omega, rfl, nx⟩, fun x H3 y => ?_⟩
    obtain ⟨s3, rx⟩ := yl x H3 y
    refine ⟨_, _, _, O', S', ds[i], S1, r'.grow s3, rx.keeps (Same.keeps (Same.refl _)) (fun a g => ?_), ha, fun σ2 r2 => ⟨_, _, _, S1, ob, ⟨O', r2⟩, hb, ?_⟩⟩
    · obtain ⟨g1, g2⟩ := g
      have gg := good_new r g1
      refine ⟨.inl gg.1, fun z => ?_⟩
      obtain ⟨z1, _⟩ := r'.own0 a z
      rw [off_of gg.2] at z1
      exact g2 z1
    · cases ob with
      | nx S2 => exact fun σ4 H4 r4 => ⟨hlt, S2, o', r4, hm, hq⟩
      | ct S2 => exact fun σ4 H4 r4 => ⟨hlt, S2, o', r4, hm, hq⟩
      | bk S2 => cases hm; exact fun σ4 H4 r4 => hq σ4 H4 r4
      | rt d S2 => cases hm; exact fun v σ4 H4 r4 rv => hq v σ4 H4 r4 rv
  · have e : i = ds.length := by omega
    subst e
    rw [List.drop_length] at hm
    cases hm
    exact .inl ⟨wk'.2 (List.getElem?_eq_none_iff.mpr (Nat.le_refl _)), hq σ' H' ⟨O', r'⟩⟩
def whM (t : Mt) (b : Ms) : Nat → Sl → Option Out
  | 0, _ => none
  | n + 1, S => (t (op S)).bind fun c => if c = true then (b S).bind fun o => match o with
      | .nx S2 => whM t b n S2
      | .ct S2 => whM t b n S2
      | .bk S2 => some (.nx S2)
      | .rt d S2 => some (.rt d S2)
    else some (.nx S)
def sWhile (f : Sl → Nat) (t : Mt) (b : Ms) : Ms := fun S => whM t b (f S) S
theorem t_while {K : PySem.W.Frag} {f : Sl → Nat} {t : Mt} {b : Ms} {E : Ends} {σ : L2.St} {H : Hp} (h : tS K (sWhile f t b) E σ H) : tWhile (tT K t) (tS K b) E σ H := by
  obtain ⟨p0, H0, ok0, S, o, ⟨O, r⟩, m, q⟩ := h
  refine ⟨fun n σ' H' => ∃ S' o', RS K p0 H0 ok0 S' σ' H' ∧ whM t b n S' = some o' ∧ Reach K p0 H0 ok0 E o', ⟨f S, S, o, ⟨O, r⟩, m, q⟩, ?_⟩
  rintro n σ' H' ⟨S', o', ⟨O', r'⟩, hm, hq⟩
  cases n with
  | zero => cases hm
  | succ n =>
    obtain ⟨c, hc, hm⟩ := bind_some (show (t (op S')).bind _ = some o' from hm)
    refine ⟨_, _, c, r'.opened, hc, fun H2 s => ?_⟩
    have r2 := r'.grow s
    cases c with
    | false =>
      rw [if_neg Bool.false_ne_true] at hm
      cases hm
      exact hq σ' H2 ⟨O', r2⟩
    | true =>
      rw [if_pos rfl] at hm
      obtain ⟨ob, hb, hm⟩ := bind_some hm
      refine iteT ?_
      refine ⟨fun σ'' H'' => ∃ S' o', RS K p0 H0 ok0 S' σ'' H'' ∧ whM t b n S' = some o' ∧ Reach K p0 H0 ok0 E o', fun σ'' H'' nx => ⟨n, Nat.lt_succ_self n, nx⟩, p0, H0, ok0, S', ob, ⟨O', r2⟩, hb, ?_⟩
      cases ob with
      | nx S2 => exact fun σ4 H4 r4 => ⟨S2, o', r4, hm, hq⟩
      | ct S2 => exact fun σ4 H4 r4 => ⟨S2, o', r4, hm, hq⟩
      | bk S2 => cases hm; exact fun σ4 H4 r4 => hq σ4 H4 r4
      | rt d S2 => cases hm; exact fun v σ4 H4 r4 rv => hq v σ4 H4 r4 rv
section
variable {X : Cx} {tg iter c : Expr} {body : List Stmt} {mi : Ma} {t : Tg} {tt : Mt} {mb : Ms} {pos : Pos}
theorem es_for (hi : Ei X tg iter mi) (hg : El X tg t) (hb : Ess X body mb) (hp : PassesOwn (model X.prog X.w) X.A X.env X.xe := by exact PassesOwn.never) (hc : X.calm = true := by rfl) (hs : ∀ x, foldedSetIterable iter X.env x = pure x := by intro _; rfl) :
    Es X (.For tg iter body [] pos) (sFor mi t mb) := PS.imp (ps_for hp hc hi hg hb hs) fun E σ H h => t_for h
theorem es_while (f : Sl → Nat) (hc : Et X c tt) (hb : Ess X body mb) (hp : PassesOwn (model X.prog X.w) X.A X.env X.xe := by exact PassesOwn.never) : Es X (.While c body [] pos) (sWhile f tt mb) := PS.imp (ps_while hp hc hb) fun E σ H h => t_while h
end

/-! ### defs -/
def initS (n : Nat) (ds : List D) : Sl := ds.map .dat ++ List.replicate (n - ds.length) .un
def outD : Out → Option D
  | .rt d _ => some d
  | .nx _ => some .non
  | _ => none
def runF (n : Nat) (m : Ms) (ds : List D) : Option D := (m (initS n ds)).bind outD
theorem init_RO {K : PySem.W.Frag} {p0 : Addr} {H : Hp} {ok : Addr → Prop} {vs : List V} {ds : List D} {N : List Str} (r : Reps K H ok vs ds) : RO K p0 H ok (fun _ => False) (initS N.length ds) (L2.start N vs) H := by
  have hl : vs.length = ds.length := r.length
  have at_ : ∀ (i : Nat) (s : SL), (initS N.length ds)[i]? = some s → s ≠ .un → ∃ d, s = .dat d ∧ ds[i]? = some d := fun i s h hs => by
    unfold initS at h
    by_cases c : i < ds.length
    · rw [List.getElem?_append_left (by rw [List.length_map]; exact c), List.getElem?_map] at h
      cases e : ds[i]? with
      | none => rw [e] at h; cases h
      | some d => rw [e] at h; exact ⟨d, (Option.some.inj h).symm, rfl⟩
    · rw [List.getElem?_append_right (by rw [List.length_map]; omega), List.getElem?_replicate] at h
      split at h
      · cases h; exact absurd rfl hs
      · cases h
  refine ⟨Same.refl H, by unfold initS L2.start; rw [List.length_append, List.length_append, List.length_map, List.length_map, List.length_replicate, List.length_replicate, hl], fun a h => h.elim, fun i d h => ?_, fun i es h => ?_, fun i j es fs p ne h => ?_, fun i es h => ?_, fun i j es fs h => ?_, fun i j es fs h => ?_⟩
  · obtain ⟨d', e1, e2⟩ := at_ i _ h (by intro z; cases z)
    cases e1
    obtain ⟨v, h1, h2⟩ := r.get e2
    have hi : i < vs.length := (List.getElem?_eq_some_iff.mp h1).1
    refine ⟨v, ?_, h2.keeps (Same.keeps (Same.refl _)) fun a g => ⟨.inl g, fun z => z⟩⟩
    unfold L2.start
    rw [List.getElem?_append_left (by rw [List.length_map]; exact hi), List.getElem?_map, h1]
    rfl
  · obtain ⟨d', e1, e2⟩ := at_ i _ h (by intro z; cases z)
    cases e1
  · obtain ⟨d', e1, e2⟩ := at_ i _ h (by intro z; cases z)
    cases e1
  · obtain ⟨d', e1, e2⟩ := at_ i _ h (by intro z; cases z)
    cases e1
  · obtain ⟨d', e1, e2⟩ := at_ i _ h (by intro z; cases z)
    cases e1
  · obtain ⟨d', e1, e2⟩ := at_ i _ h (by intro z; cases z)
    cases e1
theorem hu65 {A : Around} {k : Nat} (hr : Room k A) : A.units + 65 < cLine := by
  have := hr.un
  omega
section
variable {P : Program} {w : World} {K : PySem.W.Frag} {mg : Str → Option Value} {base : Heap} {x qual : Str} {st : Stmt} {f : Addr} {fd : FuncData} {N ps : List Str} {k : Nat} {mb : Ms}
/-- a def by its mirror -/
theorem fn_ok (F : Fun K x qual st f fd) (S : FnScope N ps (defScope st))
    (hb : ∀ (cdv : Value) (A : Around) (outer : List Env) (s : Shared) (H : Hp) (E : XK), Room k (A.deeper (envOfC qual (defScope st) s.heap.objs.size f cdv)) → Ess (cxOf CX0 P w K mg base N qual (defScope st) f cdv A outer s H E).nox (defBody st) mb) :
    FnOk P w K mg base CX0 (k + 1) f fd ps (spD K ps.length (runF N.length mb)) := by
  refine F.ok S (fun vs H Q E h => ?_) (fun cdv A outer s H vs Q E hr h => ?_)
  · obtain ⟨ds, ok, d, r, hl, _⟩ := h
    rw [r.length, hl]
  · obtain ⟨ds, ok, d, r, hl, hg, q⟩ := h
    obtain ⟨o, e1, e2⟩ := bind_some hg
    refine ⟨_, hb cdv A outer s H E hr, 0, H, ok, _, o, ⟨_, init_RO r⟩, e1, ?_⟩
    cases o with
    | rt d' S' => cases e2; exact fun v σ' H' ⟨O, r'⟩ rv => q v H' r'.same rv
    | nx S' => cases e2; exact fun σ' H' ⟨O, r'⟩ => q .non H' r'.same .non
    | bk S' => cases e2
    | ct S' => cases e2
/-- .. said by another function -/
theorem spD_imp {n : Nat} {g g' : List D → Option D} (h : ∀ ds d, ds.length = n → g' ds = some d → g ds = some d) : ∀ vs H Q E, spD K n g' vs H Q E → spD K n g vs H Q E := fun vs H Q E ⟨ds, ok, d, r, hl, e, q⟩ => ⟨ds, ok, d, r, hl, h ds d hl e, q⟩
end
end Ice

/-! enumerate of a tuple -/
namespace Ice
open PySem PySem.Spec PyProof.Rows L2

theorem enum_new1 {u : Value} {ob : Obj} {Hs : Heap → Prop} (B : Begins u ob Hs) : Meets (Builtin.«enumerate.__new__» ⟨[.type "enumerate", u], []⟩) (fun _ R st => Hs st.heap ∧ R (.ok (.ret (.ref (st.heap.push ob).objs.size)))
    { st with heap := (st.heap.push ob).push { cls := .type "enumerate", data := .fields #[.none, .bool false, .ref st.heap.objs.size, rawInt 0, .none, .none] } }) := .of_wp fun prg wd Ar R st hh => by
  obtain ⟨hp, gg, dd, tt, oo⟩ := st
  obtain ⟨hb, hh⟩ := hh
  have sb := sub_enumerate
  have it1 : ∀ {Ar' : Around} {E' : Value → Shared → Prop} {Q' : Value → Shared → Prop}, Q' (.ref hp.objs.size) ⟨hp.push ob, gg, dd, tt, oo⟩ → wpAny (model prg wd) Ar' (pyIter u) Q' E' ⟨hp, gg, dd, tt, oo⟩ := fun q => B.iter prg wd _ _ ⟨hp, gg, dd, tt, oo⟩ _ hb q
  wp_walk using it1
  refine wpAny_stack_any fun sk => wpAny_pure ?_
  split
  · rename_i cc _ _ _ _ _
    cases (cc == Value.type "enumerate") <;> (wp_walk using it1; exact ⟨_, rfl, hh⟩)
  · wp_walk using it1
    exact ⟨_, rfl, hh⟩
theorem call_enum1 {prog : Program} {w : World} {A : Around} {E : Value → Shared → Prop} {s : Shared} {u : Value} {ob : Obj} {Hs : Heap → Prop} {Q : Value → Shared → Prop} (B : Begins u ob Hs) (hb : Hs s.heap)
    (h : ∀ h', IsEnum h' (s.heap.objs.size + 1) s.heap.objs.size 0 .none → h'.get? s.heap.objs.size = some ob → (∀ b o, s.heap.get? b = some o → h'.get? b = some o) → Q (.ref (s.heap.objs.size + 1)) { s with heap := h' }) :
    wpAny (model prog w) A (call (.type "enumerate") [u]) Q E s := by
  refine callType_new F.called_enumerate (by decide) (F.typeCall_enumerate_1 _) (F.newCall_enumerate_1 _) (fun obj => F.args_object_init_2 obj _) F.entry_enumerate_new (enum_new1 B) ⟨hb, ?_⟩
  have z : (s.heap.push ob).objs.size = s.heap.objs.size + 1 := Heap.size_push ..
  show _ ∧ _
  rw [z]
  have e1 := Heap.get?_push_size (s.heap.push ob) (o := { cls := .type "enumerate", data := .fields #[.none, .bool false, .ref s.heap.objs.size, rawInt 0, .none, .none] }) rfl
  rw [z] at e1
  exact ⟨⟨_, e1, rfl⟩, h _ e1 (Heap.get?_push_of_some _ (Heap.get?_push_size _ B.free)) fun b o x => Heap.get?_push_of_some _ (Heap.get?_push_of_some _ x)⟩

/-- the tuple at a, item by item, each in a new pair with its number -/
def ItE (K : PySem.W.Frag) (a : Addr) : It where
  go := fun i H => ∃ (ys : List V) (y : V), SqT K H a ys ∧ ys[i]? = some y
  yld := fun i H v H' => ∃ (T : Addr) (y : V), v = .ref T ∧ H T = none ∧ H' = upd H T (.tup [.int (i : Nat), y]) ∧ ∀ ys, SqT K H a ys → ys[i]? = some y
  stop := fun i H => ∃ ys : List V, SqT K H a ys ∧ ys.length ≤ i
theorem turn_enumT {P : Program} {w : World} {K : PySem.W.Frag} {elts : List Expr} {kk : Nat} {tpos : Pos} {a en it : Addr} (hae : a ≠ it) (hen : a ≠ en) :
    Turn P w K (.Tuple elts kk tpos) (ItE K a) [en, it] en (fun i h => (∃ old, IsEnum h en it ((i : Nat) : Int) old) ∧ h.IsTupleIter it a i ∧ en ≠ it) where
  mem := by simp
  obj := fun i h st b hb => by
    obtain ⟨⟨old, he⟩, ⟨o, ho, hc, hd⟩, _⟩ := st
    rcases (by simpa using hb : b = en ∨ b = it) with z | z
    · rw [z]
      exact ⟨_, he, fun v q => nomatch q⟩
    · rw [z]
      exact ⟨o, ho, fun v q => by rw [hd] at q; cases q⟩
  keep := fun i h h' st k => let ⟨⟨old, he⟩, hi, hne⟩ := st; ⟨⟨old, k en (by simp) _ he⟩, hi.at fun o q => k it (by simp) o q, hne⟩
  item := by
    intro X hP hw hK hc i pins s σ H E I hf st hg
    subst hP hw hK
    obtain ⟨⟨old, he⟩, hit, hne⟩ := st
    obtain ⟨ys, y, hq, hy⟩ := hg
    obtain ⟨its, rv, p, hz⟩ := I.tuple hq
    obtain ⟨u, hu, ru⟩ := rv.get hy
    have el : en < s.heap.objs.size := Heap.lt_size he
    have il : it < s.heap.objs.size := by
      obtain ⟨_, q, _⟩ := hit
      exact Heap.lt_size q
    have D := Draws.tuple (prog := X.prog) (w := X.w) (A := X.A.in1) (I.ok.hd hc) it a hae its.toArray
    have lt : i < its.toArray.size := by
      have := (List.getElem?_eq_some_iff.mp hu).1
      simpa using this
    refine wpAny_pyNext_enum_itemD D he ⟨hit, p⟩ lt hne (by simp [hne, Ne.symm hen]) fun x h' tk hx ho hst hT hsz hk => ?_
    have ex : x = u := by
      have e1 : its[i]? = some x := by simpa using hx
      rw [hu] at e1
      exact (Option.some.inj e1).symm
    subst ex
    refine ⟨_, rfl, wpAny_letOwnedTupleGo_enum (s := { s with heap := h', toks := tk + 1 }) ho fun h'' he' sb => ?_⟩
    have hT2 : h''.get? s.heap.objs.size = some { cls := .type "tuple", data := .seq #[.int i tk, x] } := (sb.2 _ (Nat.ne_of_gt el)).trans hT
    have new : ObjOk X.prog X.w (upd H s.heap.objs.size (.tup [.int (i : Nat), y])) h'' s.heap.objs.size (.tup [.int (i : Nat), y]) := ⟨by show 2 ≤ sizeLine; decide, [.int i tk, x], .cons ⟨_, rfl⟩ (.cons ru .nil), ⟨_, hT2, rfl, _, rfl⟩⟩
    have I1 : Inv X pins σ (upd H s.heap.objs.size (.tup [.int (i : Nat), y])) { s with heap := h'', toks := tk + 1 } :=
      I.turnedNew (ch := [en, it]) (fun b ob hb q => (sb.2 b fun z => hb (by simp [z])).trans (hk b ob (fun z => hb (by simp [z])) (fun z => hb (by simp [z])) q)) hf (Nat.le_refl _) new
    refine ⟨.ref s.heap.objs.size, _, I1, rfl, ⟨_, y, rfl, I.hok.fresh (Nat.le_refl _), rfl, fun zs hz' => by rw [I.tuple_inj hz' hq]; exact hy⟩, ⟨⟨x, ?_⟩, hst.1.at fun o q => (sb.2 it (Ne.symm hne)).trans q, hne⟩, fun b hb => ?_⟩
    · rw [show ((i + 1 : Nat) : Int) = (i : Int) + 1 by omega]
      exact he'
    · have hb' : b < s.heap.objs.size := by
        rcases (by simpa using hb : b = en ∨ b = it) with z | z
        · rw [z]; exact el
        · rw [z]; exact il
      rw [upd_ne (Nat.ne_of_lt hb')]
      exact (hf b hb).1
  done := by
    intro X hP hw hK hc i pins s σ H E I hf st hg
    subst hP hw hK
    obtain ⟨⟨old, he⟩, hit, hne⟩ := st
    obtain ⟨ys, hq, hx⟩ := hg
    obtain ⟨its, rv, p, hz⟩ := I.tuple hq
    obtain ⟨f0, f1, f2, f3, f4, f5⟩ := hf it (by simp)
    have hl := rv.length
    have hh : X.A.in1.handled = none := I.ok.hd hc
    have D : Draws X.prog X.w X.A.in1 it [it, a] i (fun _ _ => False) (fun j h => (h.IsTupleIter it a j ∧ h.IsTuple a its.toArray) ∧ i ≤ j) :=
      ⟨fun j h z => let ⟨o, ho, _⟩ := z.1.1; ⟨o, ho⟩, fun j h h' z k => ⟨⟨z.1.1.at fun o q => k it (by simp) o q, z.1.2.at fun o q => k a (by simp) o q⟩, z.2⟩,
        fun j st Q E' lt z _ => absurd z.2 (Nat.not_le_of_lt lt), fun st Q E' z k => wpAny_nextOf_tuple_end hh z.1.1 z.1.2 (by simp; omega) k⟩
    exact wpAny_pyNext_enum_endD D he ⟨⟨hit, p⟩, Nat.le_refl _⟩ fun h' eb => ⟨rfl, I.turned (t' := s.toks) (fun b o hb q => eb b o hb q) f0 f1 f3 f4 f5⟩
  self := fun A i s Q E st h => let ⟨⟨_, he⟩, _⟩ := st; wpAny_pyIter_enum he h
def iEnumT (K : PySem.W.Frag) (ta : TA) : TI := fun σ H R => ta σ H fun vs H1 => ∃ a ys, vs = [.ref a] ∧ SqT K H1 a ys ∧ R (ItE K a) H1
theorem pi_enumT {X : Cx} {e : Expr} {ta : TA} {p pos tpos : Pos} {elts : List Expr} {kk : Nat} (hg : Gl X "enumerate") (hm : X.mg "enumerate" = none) (ha : PA X [e] ta) (hs : starEach [e] X.env = [(false, eval e X.env)] := by rfl) : PI X (.Tuple elts kk tpos) (.Call (.Name "enumerate" p) [e] [] pos) (iEnumT X.K ta) := by
  refine ⟨fun pins s σ H R I h => ?_⟩
  refine Call_ (ld_blt I hg hm boot_enumerate (PyProof.Rows.callWith_type1 (thn (ha.run pos pins s σ H _ I h) fun us s1 ⟨vs, H1, I1, r1, q1⟩ => ?_) hs rfl))
  obtain ⟨a, ys, ex, hq, q⟩ := q1
  subst ex
  cases r1 with
  | cons r rr =>
    cases rr
    cases r
    obtain ⟨its, rv, p', hz⟩ := I1.tuple hq
    have la : a < s1.heap.objs.size := p'.lt
    refine call_enum1 (begins_tuple a its.toArray) p' fun h' he hit hk => wpAny_pyIter_enum he ?_
    have I2 : Inv X pins σ H1 { s1 with heap := h' } := I1.kept (t' := s1.toks) hk
    refine ⟨s1.heap.objs.size + 1, [s1.heap.objs.size + 1, s1.heap.objs.size], _, _, H1, rfl, I2, turn_enumT (a := a) (Nat.ne_of_lt la) (Nat.ne_of_lt (Nat.lt_succ_of_lt la)), ⟨⟨.none, he⟩, ⟨_, hit, rfl, rfl⟩, Nat.succ_ne_self _⟩, fun b hb => ?_, q⟩
    have hle : s1.heap.objs.size ≤ b := by
      rcases (by simpa using hb : b = s1.heap.objs.size + 1 ∨ b = s1.heap.objs.size) with z | z
      · rw [z]; exact Nat.le_add_right _ _
      · rw [z]; exact Nat.le_refl _
    exact I1.fpOk hle (I1.hok.fresh hle)
def numb : Nat → List D → List D
  | _, [] => []
  | n, d :: r => .tup [.int (n : Nat), d] :: numb (n + 1) r
theorem numb_get : ∀ (ds : List D) (n i : Nat), (numb n ds)[i]? = (ds[i]?).map fun d => .tup [.int ((n + i : Nat) : Int), d]
  | [], n, i => by simp [numb]
  | d :: r, n, 0 => by simp [numb]
  | d :: r, n, i + 1 => by
    show (numb (n + 1) r)[i]? = (r[i]?).map _
    rw [numb_get r (n + 1) i, show n + 1 + i = n + (i + 1) by omega]
theorem walk_enumT {K : PySem.W.Frag} {H : Hp} {ok : Addr → Prop} {p : Addr} {ws : List V} {es : List D} (h : SqT K H p ws) (r : Reps K H ok ws es) : Walk K H ok (ItE K p) (numb 0 es) := fun Hb k i H' s => by
  have hp : SqT K H' p ws := keeps_tup (Same.keeps (ok := fun _ => True) s) (keeps_tup k h)
  have r' : Reps K H' (fun a => ok a ∧ H a ≠ none) ws es := ((Reps.dom es ws r).keeps k fun _ z => z).keeps (Same.keeps s) fun _ z => z
  rw [numb_get]
  refine ⟨fun d hd => ?_, fun hn => ⟨ws, hp, ?_⟩⟩
  · cases hg : es[i]? with
    | none => rw [hg] at hd; cases hd
    | some d' =>
      rw [hg] at hd
      cases hd
      obtain ⟨v, hv, rv⟩ := r'.get hg
      exact ⟨⟨ws, v, hp, hv⟩, fun x H'' y => by
        obtain ⟨T, y, rfl, nT, rfl, f⟩ := y
        have := f ws hp
        rw [hv] at this
        cases this
        have sn := same_new (o := .tup [.int (i : Nat), v]) nT
        rw [Nat.zero_add]
        exact ⟨sn, .tup upd_same (.cons (.int _) (.cons (rv.keeps (Same.keeps sn) fun _ z => z) .nil))⟩⟩
  · cases hg : es[i]? with
    | none => rw [r'.length]; exact List.getElem?_eq_none_iff.mp hg
    | some d' => rw [hg] at hn; cases hn
def itE (m : Ma) : Ma := fun S => (m S).bind fun
  | [.tup ds] => some (numb 0 ds)
  | [.wt ds] => some (numb 0 ds)
  | _ => none
theorem ei_enum {X : Cx} {a : Expr} {mr : Ma} {p pos tpos : Pos} {elts : List Expr} {kk : Nat} (hg : Gl X "enumerate") (hm : X.mg "enumerate" = none) (ha : Ea X [a] mr) (hs : starEach [a] X.env = [(false, eval a X.env)] := by rfl) :
    Ei X (.Tuple elts kk tpos) (.Call (.Name "enumerate" p) [a] [] pos) (itE mr) := PI.imp (pi_enumT hg hm ha hs) fun σ H R hh => by
  obtain ⟨ok, S, ds, rs, m, q⟩ := hh
  obtain ⟨xs, h1, m1⟩ := bind_some m
  refine ⟨ok, S, xs, rs, h1, fun vs H1 s r => ?_⟩
  split at m1
  · cases m1
    cases r with
    | cons x r => cases r; cases x with
      | tup h r => exact ⟨_, _, rfl, SqT.of h, q _ H1 s (walk_enumT (SqT.of h) r)⟩
  · cases m1
    cases r with
    | cons x r => cases r; cases x with
      | wt h r => exact ⟨_, _, rfl, h, q _ H1 s (walk_enumT h r)⟩
  · cases m1
end Ice

/-! a dict comprehension whose keys are tuples -/
namespace Ice
open PySem PySem.Spec PyProof.Rows L2

section
variable {X : Cx}
/-- one pair more in a dict of tuple keys -/
theorem putT {pins : List (Addr × Obj)} {σ : L2.St} {G : Hp} {t : Shared} {E : Value → Shared → Prop} {D b : Addr} {prs : List (List Key × V)} {k : List Key} {x : V} {u : Value} {Q : Unit → Shared → Prop} (hu : X.A.units + 1 < cLine) (J : Inv X pins σ G t) (hD : G D = some (.dT prs))
    (hb : G b = some (.tup (k.map kV))) (few : prs.length < sizeLine) (rx : RelV x u) (q : ∀ t', Inv X pins σ (upd G D (.dT (putK prs k x))) t' → Q () t') : wpAny (model X.prog X.w) X.A (dictSet D (.ref b) u) Q E t := by
  obtain ⟨l1, low, es, rel, dd⟩ := dt_of J.hok hD
  have l2 : es.length ≤ sizeLine := by
    rw [← Paired.length rel]
    exact l1
  have l3 : (putK prs k x).length ≤ sizeLine := Nat.le_trans (length_putK prs k x) few
  have hu' : X.A.units < cLine := Nat.lt_of_succ_lt hu
  refine wpAny_dictSet_heap (hsz := l2) (show (tupleKind (mixKind X.prog X.w)).room X.A by exact hu') (key_of J.hok hb) dd fun h' dd' sb => q _ ?_
  obtain ⟨o, fs, ep, e1, e2, e3, e4, _, e5⟩ := dd'
  exact d_write J (by rw [hD]; trivial) sb ⟨o, e1⟩ ⟨l3, low, _, (rel.put k hb rx).keeps fun c ys ec => by
    rw [upd_ne (ne_of ec hD (fun z => nomatch z))]
    exact ec, o, fs, ep, e1, e2, e3, e4, e5⟩
/-- {k: v for target in iter if ..}: the new dict at D -/
def tDcT (wi : TI) (g : TG) (tt : TT) (tk tv : TE) (vs : List Nat) : TE := fun σ H Q => wi σ H fun J H1 => ∀ D, H1 D = none → ∃ W : Nat → Nat → Hp → Prop, (∃ m, W 0 m (upd H1 D (.dT []))) ∧ ∀ i m H, W i m H →
  (J.stop i H ∧ Q (.ref D) H) ∨ (J.go i H ∧ ∃ Nx : Hp → Prop, (∀ H', Nx H' → ∃ m', m' < m ∧ W (i + 1) m' H') ∧ ∀ x H', J.yld i H x H' → g x (wipe σ vs) H' fun σ2 H2 => wipe σ2 vs = wipe σ vs ∧ tt σ2 H2 fun c H3 =>
    if c = true then tk σ2 H3 fun y H4 => tv σ2 H4 fun z H5 => ∃ prs k b, y = .ref b ∧ H5 b = some (.tup (k.map kV)) ∧ H5 D = some (.dT prs) ∧ prs.length < sizeLine ∧ Nx (upd H5 D (.dT (putK prs k z))) else Nx H3)
theorem pe_dcT {kx vx tg iter : Expr} {ifs : List Expr} {scope : Scope} {own : List (Str × Nat)} {pos : Pos} {wi : TI} {g : TG} {tt : TT} {tk tv : TE} (hu : X.A.units + 1 < cLine) (hc : X.calm = true) (hN : X.N.Nodup) (hi : PI X tg iter wi) (ok : BlkOk X.N X.env.scope scope own)
    (hg : ∀ (t : Shared) (G : Hp) (C : Addr) (cs : List (Str × Addr)) (fp : List Addr), PG (X.blk t G scope (compEnvC scope cs C X.env) fp) tg g)
    (ht : ∀ (t : Shared) (G : Hp) (C : Addr) (cs : List (Str × Addr)) (fp : List Addr), PTs (X.blk t G scope (compEnvC scope cs C X.env) fp) ifs tt)
    (hk : ∀ (t : Shared) (G : Hp) (C : Addr) (cs : List (Str × Addr)) (fp : List Addr), PE (X.blk t G scope (compEnvC scope cs C X.env) fp) kx tk)
    (he : ∀ (t : Shared) (G : Hp) (C : Addr) (cs : List (Str × Addr)) (fp : List Addr), PE (X.blk t G scope (compEnvC scope cs C X.env) fp) vx tv) (hs : ∀ x, foldedSetIterable iter X.env x = pure x := by intro _; rfl) :
    PE X (.DictComp kx vx [⟨tg, iter, ifs, 0⟩] scope pos) (tDcT wi g tt tk tv (own.map (fun p => p.2))) := by
  refine ⟨fun pins t0 σ G0 Q J0 want => ?_⟩
  rw [arm_eval_DictComp]
  have fr : ∀ y ∈ scope.names, y.2 = .free → ∃ c, X.env.cells.lookup y.1 = some c := fun y hy e => (ok.free y hy e).elim (fun k => J0.ok.has _ (.inl k)) fun k => J0.ok.has _ (.inr k)
  refine wpAny_comprehension_free rfl hs (closure_ok fr) ok.kind (fun y hy e => by rw [ok.uniq y hy, e]) (thn (hi.run pins t0 σ G0 _ J0 want) fun xv t1 hx => thn hx fun itv t2 h2 => ?_)
  obtain ⟨it, fp, tn, Jt, G2, e, J2, T, st2, f2, q⟩ := h2
  subst e
  refine wpAny_newObj_type (newEnv_comp ?_)
  generalize hD : t2.heap.objs.size = D
  have free : G2 D = none := J2.hok.fresh (Nat.le_of_eq hD)
  obtain ⟨W, ⟨m0, w0⟩, turn⟩ := q D free
  generalize et3 : ({ t2 with heap := t2.heap.push { cls := .type "dict", data := .dict #[] } } : Shared) = t3
  have J3 : Inv X pins σ (upd G2 D (.dT [])) t3 := by
    rw [← et3]
    refine J2.laid (t' := t2.toks) (fun b o z => Heap.get?_push_of_some _ z) (Nat.le_of_eq hD) ?_
    rw [← hD]
    exact dt_empty t2.heap J2.big
  have hp3 : t3.heap = t2.heap.push { cls := .type "dict", data := .dict #[] } := by rw [← et3]
  have small : ∀ b ∈ fp, b < t2.heap.objs.size := fun b hb => let ⟨o, z, _⟩ := T.obj _ _ st2 b hb; Heap.lt_size z
  have f3 : ∀ b ∈ fp, FpOk X pins (upd G2 D (.dT [])) b ∧ b < t3.heap.objs.size := fun b hb => by
    have lt := small b hb
    refine ⟨⟨?_, (f2 b hb).2⟩, by rw [hp3, Heap.size_push]; exact Nat.lt_succ_of_lt lt⟩
    rw [upd_ne (show b ≠ D by rw [← hD]; exact Nat.ne_of_lt lt)]
    exact (f2 b hb).1
  have st3 : tn 0 t3.heap := T.keep _ _ _ st2 fun b _ o z => by
    rw [hp3]
    exact Heap.get?_push_of_some _ z
  have J4 := block_start J3 ok hN f3
  have rg := hg t3 (upd G2 D (.dT [])) t3.heap.objs.size (cellsFrom (t3.heap.objs.size + 1) scope.names (cloFrom X.env.cells scope.names [])) fp
  have rt := ht t3 (upd G2 D (.dT [])) t3.heap.objs.size (cellsFrom (t3.heap.objs.size + 1) scope.names (cloFrom X.env.cells scope.names [])) fp
  have rk := hk t3 (upd G2 D (.dT [])) t3.heap.objs.size (cellsFrom (t3.heap.objs.size + 1) scope.names (cloFrom X.env.cells scope.names [])) fp
  have re := he t3 (upd G2 D (.dT [])) t3.heap.objs.size (cellsFrom (t3.heap.objs.size + 1) scope.names (cloFrom X.env.cells scope.names [])) fp
  show codeAny _ _ (.compStart (.DictComp kx vx [⟨tg, iter, ifs, 0⟩] scope pos) 0 (.ref it) (.ref D) (compEnvC scope (cellsFrom (t3.heap.objs.size + 1) scope.names (cloFrom X.env.cells scope.names [])) t3.heap.objs.size X.env))
    (compPost (model X.prog X.w) X.A X.xe none _ (.ref D) t3.heap.objs.size) { t3 with heap := pushCells (t3.heap.push { cls := .type "dict", data := .dict #[] }) scope.names }
  have off3 : ∀ b ∈ fp, (upd G2 D (.dT [])) b = none := fun b hb => (f3 b hb).1.1
  generalize ece : compEnvC scope (cellsFrom (t3.heap.objs.size + 1) scope.names (cloFrom X.env.cells scope.names [])) t3.heap.objs.size X.env = ce at J4 rg rt rk re ⊢
  have cL : ce.locals = t3.heap.objs.size := by
    subst ece
    rfl
  generalize eG3 : upd G2 D (.dT []) = G3 at J3 J4 rg rt rk re w0 off3 f3
  generalize et4 : ({ t3 with heap := pushCells (t3.heap.push { cls := .type "dict", data := .dict #[] }) scope.names } : Shared) = t4 at J4 ⊢
  have st4 : tn 0 t4.heap := T.keep _ _ _ st3 fun b _ o z => by
    rw [← et4]
    exact pushCells_keeps _ _ _ _ (Heap.get?_push_of_some _ z)
  have still : ∀ {σ' : L2.St} {G' : Hp} {t' : Shared}, Inv (X.blk t3 G3 scope ce fp) [] σ' G' t' → (∀ b ∈ fp, G' b = none) → ∀ b ∈ fp, FpOk (X.blk t3 G3 scope ce fp) [] G' b := fun {σ' G' t'} J' no b hb =>
    ⟨no b hb, (J'.ok.exf b hb).1, J'.ok.exfs b hb, .inl hb, fun x c z => (J'.ok.exf b hb).2 x c z, fun p hp => absurd (show p ∈ ([] : List (Addr × Obj)) ++ [] from hp) (by simp)⟩
  have loop : codeAny (model X.prog X.w) X.A (.compLoop (.DictComp kx vx [⟨tg, iter, ifs, 0⟩] scope pos) 0 (.ref it) (.ref D) ce) (compPost (model X.prog X.w) X.A X.xe none (EP X pins σ Q) (.ref D) t3.heap.objs.size) t4 := by
    refine compLoop_anyD (fun n t' => ∃ i G', Inv (X.blk t3 G3 scope ce fp) [] (wipe σ (own.map (fun p => p.2))) G' t' ∧ tn i t'.heap ∧ (∀ b ∈ fp, G' b = none) ∧ W i n G') ?_ m0 ⟨0, G3, J4, st4, off3, w0⟩
    rintro n t5 ⟨i, G5, J5, st5, off5, w5⟩
    rcases turn i n G5 w5 with ⟨stop, qq⟩ | ⟨go, Nx, hNx, step⟩
    · refine thnF (T.done (X.blk t3 G3 scope ce fp) rfl rfl rfl hc i [] t5 _ G5 (fun _ _ => False) J5 (still J5 off5) st5 stop) fun r t6 ⟨hr, J6⟩ => ?_
      subst hr
      have J7 : Inv X pins σ G5 t6 := J3.call' (ch := fp) J6.os J6.base J6.hok J6.bare fun b hb => let z := (f3 b hb).1; ⟨z.2.2.2.1, z.2.1, z.2.2.2.2.1, z.2.2.2.2.2⟩
      have nC : G5 t3.heap.objs.size = none := by
        have z : G5 ce.locals = none := J6.free
        rw [cL] at z
        exact z
      obtain ⟨m, hn, _⟩ := J6.loc
      have hn : t6.heap.Ns ce.locals m := hn
      rw [cL] at hn
      obtain ⟨f0, f1, f2', f3', f4, f5⟩ := J3.fpOk (Nat.le_refl _) nC
      exact ⟨m, hn, fun h'' sb => ⟨.ref D, G5, J7.turned (t' := t6.toks) (fun b o hb z => (sb.2 b hb).trans z) f0 f1 f3' f4 f5, rfl, qq⟩⟩
    · refine thnF (T.item (X.blk t3 G3 scope ce fp) rfl rfl rfl hc i [] t5 _ G5 (fun _ _ => False) J5 (still J5 off5) st5 go) fun r t6 ⟨u, hr, h6⟩ => ?_
      subst hr
      refine thnF h6 fun _ t7 ⟨x, G7, J7, r7, y7, st7, off7⟩ => ?_
      refine thnF (rg.run _ t7 _ G7 x u _ (J7.pinned (still J7 off7) (T.obj _ _ st7)) r7 (step x G7 y7)) fun _ t8 ⟨σ8, G8, J8, hw8, q8⟩ => ?_
      refine thnF (rt.run _ t8 σ8 G8 _ J8 q8) fun c t9 ⟨G9, J9, q9⟩ => ?_
      have again : ∀ {t' : Shared} {G' : Hp}, Inv (X.blk t3 G3 scope ce fp) ([] ++ pinsAt fp t7.heap) σ8 G' t' → Nx G' → ∃ m, m < n ∧ ∃ i G', Inv (X.blk t3 G3 scope ce fp) [] (wipe σ (own.map (fun p => p.2))) G' t' ∧ tn i t'.heap ∧ (∀ b ∈ fp, G' b = none) ∧ W i m G' := fun {t' G'} J' nx => by
        obtain ⟨m', lt, w'⟩ := hNx G' nx
        have pin' : ∀ b ∈ fp, ∀ o, t7.heap.get? b = some o → t'.heap.get? b = some o ∧ G' b = none := fun b hb o z => let y := J'.pin (b, o) (List.mem_append_right _ (List.mem_append_right _ (mem_pinsAt hb z))); ⟨y.1, y.2.1⟩
        refine ⟨m', lt, i + 1, G', (J'.unpinned (pins := [])).weak (by rw [← hw8, wipe_length]) (fun j v z => ?_), T.keep _ _ _ st7 fun b hb o z => (pin' b hb o z).1, fun b hb => ?_, w'⟩
        · rw [← hw8] at z
          exact (wipe_some z).1
        · obtain ⟨o, z, _⟩ := T.obj _ _ st7 b hb
          exact (pin' b hb o z).2
      cases c with
      | false => exact again J9 q9
      | true =>
        refine thnF (rk.run _ t9 σ8 G9 _ J9 q9) fun z1 t10 ⟨yk, G10, J10, r10, q10⟩ => ?_
        refine thnF (re.run _ t10 σ8 G10 _ J10 q10) fun z2 t11 ⟨yv, G11, J11, r11, prs, k, b, ek, hb, hD11, few, nx⟩ => ?_
        subst ek
        cases (show z1 = Value.ref b from r10)
        exact putT (X := X.blk t3 G3 scope ce fp) hu J11 hD11 hb few r11 fun t12 J12 => again J12 nx
  exact codeAny_compStart_dict loop (T.self X.A 0 _ _ _ st4 loop)
end

/-! its mirror -/
def putKs (ks : List (List Key)) (k : List Key) : List (List Key) := if (ks.any fun j => decide (j = k)) = true then ks else ks ++ [k]
def replD (ks : List (List Key)) (es : List D) (k : List Key) (z : D) : List D := ks.zipWith (fun j e => if j = k then z else e) es
def putDs (ks : List (List Key)) (es : List D) (k : List Key) (z : D) : List D := if (ks.any fun j => decide (j = k)) = true then replD ks es k z else es ++ [z]
def compDc (vs : List Nat) (t : Tg) (tt : Mt) (mk mv : Mi) (S : Sd) : List D → List (List Key) → List D → Option (List (List Key) × List D)
  | [], ks, es => some (ks, es)
  | d :: r, ks, es => (asg t d (wipeD S vs)).bind fun S1 => (tt S1).bind fun c => if c = true then (mk S1).bind fun y => (mv S1).bind fun z => match y with
      | .tup xs => (keyOf xs).bind fun k => compDc vs t tt mk mv S r (putKs ks k) (putDs ks es k z)
      | _ => none
    else compDc vs t tt mk mv S r ks es
def mDc (mi : Ma) (vs : List Nat) (t : Tg) (tt : Mt) (mk mv : Mi) : Mi := fun S => (mi S).bind fun ds => if ds.length ≤ 1000000 then (compDc vs t tt mk mv S ds [] []).map fun p => .dic p.1 p.2 else none
theorem zip_put {ks : List (List Key)} {k : List Key} {x : V} {us : List V} (h : ks.length = us.length) : putK (ks.zip us) k x = (putKs ks k).zip (if (ks.any fun j => decide (j = k)) = true then ks.zipWith (fun j e => if j = k then x else e) us else us ++ [x]) := by
  unfold putK putKs
  rw [zip_any k ks us h]
  by_cases c : (ks.any fun j => decide (j = k)) = true
  · rw [if_pos c, if_pos c, if_pos c]
    clear c
    induction ks generalizing us with
    | nil => rfl
    | cons j ks ih => cases us with
      | nil => cases h
      | cons u us =>
        rw [List.zip_cons_cons, List.map_cons, List.zipWith_cons_cons, List.zip_cons_cons, ih (Nat.succ.inj h)]
        by_cases e : j = k
        · simp only [e, if_true]
        · simp only [e, if_false]
  · rw [if_neg c, if_neg c, if_neg c, List.zip_append h]
    rfl
theorem reps_repl {K : PySem.W.Frag} {H : Hp} {ok : Addr → Prop} {k : List Key} {x : V} {z : D} (rz : Rep K H ok x z) : ∀ {ks : List (List Key)} {us : List V} {es : List D}, Reps K H ok us es → Reps K H ok (ks.zipWith (fun j e => if j = k then x else e) us) (replD ks es k z)
  | [], _, _, _ => .nil
  | _ :: _, _, _, .nil => .nil
  | j :: ks, _, _, .cons a r => by
    refine .cons ?_ (reps_repl rz r)
    show Rep K H ok (if j = k then x else _) (if j = k then z else _)
    by_cases e : j = k
    · rw [if_pos e, if_pos e]; exact rz
    · rw [if_neg e, if_neg e]; exact a
theorem t_dc {K : PySem.W.Frag} {mi : Ma} {vs : List Nat} {t : Tg} {tt : Mt} {mk mv : Mi} {σ : L2.St} {H : Hp} {Q : VK} (hv : ∀ i ∈ sl t, i ∈ vs ∧ i < σ.length) (h : tE K (mDc mi vs t tt mk mv) σ H Q) : tDcT (tI K mi) (tG K t) (tT K tt) (tE K mk) (tE K mv) vs σ H Q := by
  obtain ⟨ok, S, dz, rs, m, q⟩ := h
  obtain ⟨ds, h1, m1⟩ := bind_some m
  by_cases hlen : ds.length ≤ 1000000
  case neg => rw [if_neg hlen] at m1; cases m1
  rw [if_pos hlen] at m1
  obtain ⟨fin, hfin, m1⟩ := map_some m1
  subst m1
  refine ⟨ok, S, ds, rs, h1, fun J H1 s1 wk D hD => ?_⟩
  have hD0 : H D = none := s1.free hD
  let okD : Addr → Prop := fun a => ex ok H a ∧ a ≠ D
  let okc : Addr → Prop := fun a => ex ok H a ∧ H1 a ≠ none
  have okcD : ∀ a, okc a → okD a := fun a h => ⟨h.1, fun z => h.2 (by rw [z]; exact hD)⟩
  have newD : ∀ {Ha Hb : Hp}, Same H1 Ha → Ha D ≠ none → Same Ha Hb → ∀ a, ex okc Ha a → okD a := fun {Ha Hb} sa nd sb a h => by
    rcases h with h | h
    · exact okcD a h
    · exact ⟨.inr (s1.free (sa.free h)), fun z => nd (by rw [← z]; exact h)⟩
  refine ⟨fun i n H' => n = ds.length - i ∧ i ≤ ds.length ∧ Same H1 H' ∧ ∃ ks us es, H' D = some (.dT (ks.zip us)) ∧ ks.length = us.length ∧ ks.length ≤ i ∧ Reps K H' okD us es ∧ compDc vs t tt mk mv S (ds.drop i) ks es = some fin,
    ⟨ds.length, rfl, Nat.zero_le _, same_new hD, [], [], [], upd_same, rfl, Nat.le_refl _, .nil, hfin⟩, ?_⟩
  rintro i n H' ⟨rfl, hi, s2, ks, us, es, hacc, hku, hal, racc, hrest⟩
  have wk' := wk H1 (fun a o e _ => e) i H' s2
  by_cases hlt : i < ds.length
  · have hg : ds[i]? = some ds[i] := List.getElem?_eq_getElem hlt
    have hdrop : ds.drop i = ds[i] :: ds.drop (i + 1) := List.drop_eq_getElem_cons hlt
    obtain ⟨go, yl⟩ := wk'.1 _ hg
    rw [hdrop] at hrest
    obtain ⟨S1, ha, hrest⟩ := bind_some (show (asg t ds[i] (wipeD S vs)).bind _ = some fin from hrest)
    obtain ⟨c, hc, hrest⟩ := bind_some hrest
    let Nx : Hp → Prop := fun H'' => i + 1 ≤ ds.length ∧ Same H1 H'' ∧ ∃ ks us es, H'' D = some (.dT (ks.zip us)) ∧ ks.length = us.length ∧ ks.length ≤ i + 1 ∧ Reps K H'' okD us es ∧ compDc vs t tt mk mv S (ds.drop (i + 1)) ks es = some fin
    refine .inr ⟨go, Nx, fun H'' nx => ⟨ds.length - (i + 1), by omega, rfl, nx⟩, fun x H3 y => ?_⟩
    obtain ⟨s3, rx⟩ := yl x H3 y
    have s13 := s2.trans s3
    have rs3 : Rs K H3 okc (wipeD S vs) (wipe σ vs) := ((Rs.wipe (fun i d e => by
      obtain ⟨v, e1, e2⟩ := rs i d e
      exact ⟨v, e1, Rep.dom d v e2⟩ : Rs K H (fun a => ok a ∧ H a ≠ none) S σ) vs)).keeps (Same.keeps (s1.trans s13)) fun a h => ⟨.inl h.1, fun z => h.2 (s1.free z)⟩
    refine ⟨okc, wipeD S vs, ds[i], S1, fun j hj => by rw [wipe_length]; exact (hv j hj).2, rs3, rx, ha, fun σ2 b2 rs2 => ⟨?_, okc, S1, c, rs2, hc, fun H4 s4 => ?_⟩⟩
    · have hw : wipe (wipe σ vs) vs = wipe σ vs := wipe_but ⟨wipe_length σ vs, fun j hj => by rw [wipe_get, if_neg hj]⟩
      rw [wipe_but (b2.mono fun j hj => (hv j hj).1), hw]
    have hacc4 : H4 D = some (.dT (ks.zip us)) := s4 _ _ (s3 _ _ hacc)
    have racc4 : Reps K H4 okD us es := racc.keeps (Same.keeps (s3.trans s4)) fun _ z => z
    cases c with
    | false =>
      rw [if_neg Bool.false_ne_true] at hrest
      exact ⟨hlt, s13.trans s4, ks, us, es, hacc4, hku, Nat.le_succ_of_le hal, racc4, hrest⟩
    | true =>
      rw [if_pos rfl] at hrest
      obtain ⟨yd, hy, hrest⟩ := bind_some hrest
      obtain ⟨zd, hz, hrest⟩ := bind_some hrest
      cases yd with
      | tup xs =>
        obtain ⟨k, hk, hrest⟩ := bind_some (show (keyOf xs).bind _ = some fin from hrest)
        have nd4 : H4 D ≠ none := fun z => by rw [hacc4] at z; cases z
        refine ⟨okc, S1, _, rs2.keeps (Same.keeps s4) (fun _ z => z), hy, fun yv H5 s5 ry => ?_⟩
        have hacc5 := s5 _ _ hacc4
        have nd5 : H5 D ≠ none := fun z => by rw [hacc5] at z; cases z
        refine ⟨okc, S1, _, rs2.keeps (Same.keeps (s4.trans s5)) (fun _ z => z), hz, fun zv H6 s6 rz => ?_⟩
        have hacc6 := s6 _ _ hacc5
        cases ry with
        | tup hb rr =>
          have ek := key_ok rr hk
          subst ek
          refine ⟨ks.zip us, k, _, rfl, s6 _ _ hb, hacc6, ?_, hlt, ?_, putKs ks k, (if (ks.any fun j => decide (j = k)) = true then ks.zipWith (fun j e => if j = k then zv else e) us else us ++ [zv]), putDs ks es k zd, ?_, ?_, ?_, ?_, hrest⟩
          · rw [List.length_zip]
            exact Nat.lt_of_le_of_lt (Nat.min_le_left _ _) (Nat.lt_of_le_of_lt hal (Nat.lt_of_lt_of_le hlt (Nat.le_trans hlen (by decide))))
          · intro a o e
            rw [upd_ne (ne_of_none e hD)]
            exact s6 _ _ (s5 _ _ (s4 _ _ (s13 _ _ e)))
          · rw [upd_same, zip_put hku]
          · unfold putKs
            split
            · rw [List.length_zipWith, hku, Nat.min_self]
            · rw [List.length_append, List.length_append, hku]
              rfl
          · unfold putKs
            split
            · exact Nat.le_succ_of_le hal
            · rw [List.length_append]
              exact Nat.succ_le_succ hal
          · have kp : Keeps okD H6 (upd H6 D (.dT (putK (ks.zip us) k zv))) := fun a o e g => by
              have ne : a ≠ D := fun z => by
                rw [z] at e g
                rw [hacc6] at e
                cases e
                exact g.elim (fun g => g.2 rfl) fun g => g
              rw [upd_ne ne]
              exact e
            have r1 := (racc4.keeps (Same.keeps (s5.trans s6)) fun _ z => z).keeps kp fun _ z => z
            have r2 := (rz.keeps (Same.keeps (Same.refl _)) (newD ((s13.trans s4).trans s5) nd5 s6)).keeps kp fun _ z => z
            unfold putDs
            split
            · exact reps_repl r2 r1
            · exact Reps.append r1 (.cons r2 .nil)
      | _ => cases hrest
  · have e : i = ds.length := by omega
    subst e
    rw [List.drop_length] at hrest
    cases hrest
    refine .inl ⟨wk'.2 (List.getElem?_eq_none_iff.mpr (Nat.le_refl _)), q _ H' (s1.trans s2) (.dic (.inr hD0) hacc hku (racc.keeps (Same.keeps (Same.refl _)) fun a h => h.1))⟩
theorem ev_dc {X : Cx} {kx vx tg iter : Expr} {ifs : List Expr} {scope : Scope} {pos : Pos} {mi : Ma} {t : Tg} {tt : Mt} {mk mv : Mi} (own : List (Str × Nat)) (hN : X.N.Nodup) (hi : Ei X tg iter mi) (ok : BlkOk X.N X.env.scope scope own)
    (hg : ∀ (s : Shared) (H : Hp) (C : Addr) (cl : List (Str × Addr)) (fp : List Addr), Eg (X.blk s H scope (compEnvC scope cl C X.env) fp) tg t) (ht : ∀ (s : Shared) (H : Hp) (C : Addr) (cl : List (Str × Addr)) (fp : List Addr), Ets (X.blk s H scope (compEnvC scope cl C X.env) fp) ifs tt)
    (hk : ∀ (s : Shared) (H : Hp) (C : Addr) (cl : List (Str × Addr)) (fp : List Addr), Ev (X.blk s H scope (compEnvC scope cl C X.env) fp) kx mk) (he : ∀ (s : Shared) (H : Hp) (C : Addr) (cl : List (Str × Addr)) (fp : List Addr), Ev (X.blk s H scope (compEnvC scope cl C X.env) fp) vx mv)
    (hu : X.A.units + 1 < cLine) (hs : ∀ x, foldedSetIterable iter X.env x = pure x := by intro _; rfl) (hv : ∀ i ∈ sl t, i ∈ own.map (fun p => p.2) := by decide) (hc : X.calm = true := by rfl) : Ev X (.DictComp kx vx [⟨tg, iter, ifs, 0⟩] scope pos) (mDc mi (own.map (fun p => p.2)) t tt mk mv) :=
  ⟨fun pins s σ H Q I h => (pe_dcT hu hc hN hi ok hg ht hk he hs).run pins s σ H Q I (t_dc (fun i h => ⟨hv i h, lt_of_own ok I.len (hv i h)⟩) h)⟩
end Ice

/-! dict(xs), xs a list of pairs whose keys are tuples -/
namespace Ice
open PySem PySem.Spec PyProof.Rows L2

/-- a pair of the list: its address, its key, the key's address, its value -/
structure Pr where
  at_ : Addr
  key : List Key
  kat : Addr
  val : V
def PrOk (H : Hp) (p : Pr) : Prop := H p.at_ = some (.tup [.ref p.kat, p.val]) ∧ H p.kat = some (.tup (p.key.map kV))
def fillT (acc : List (List Key × V)) (prs : List Pr) : List (List Key × V) := prs.foldl (fun m p => putK m p.key p.val) acc
def rDictT : List V → Hp → VK → Prop := fun xs H Q => ∃ (a : Addr) (prs : List Pr), xs = [.ref a] ∧ H a = some (.lst (prs.map fun p => V.ref p.at_)) ∧ (∀ p ∈ prs, PrOk H p) ∧ ∀ q, H q = none → Q (.ref q) (upd H q (.dT (fillT [] prs)))
theorem fill_len : ∀ (prs : List Pr) (acc : List (List Key × V)), (fillT acc prs).length ≤ acc.length + prs.length
  | [], acc => Nat.le_refl _
  | p :: prs, acc => by
    have h1 := fill_len prs (putK acc p.key p.val)
    have h2 := length_putK acc p.key p.val
    show (fillT (putK acc p.key p.val) prs).length ≤ acc.length + (prs.length + 1)
    omega
section
variable {X : Cx} {pins : List (Addr × Obj)} {σ : L2.St} {H : Hp} {s : Shared}
/-- the pairs, as values -/
theorem prs_vals (I : Inv X pins σ H s) : ∀ {prs : List Pr}, (∀ p ∈ prs, PrOk H p) → ∃ us : List Value, us.length = prs.length ∧ ∀ (j : Nat) (p : Pr), prs[j]? = some p → ∃ u, us[j]? = some u ∧ RelV p.val u ∧ IsTup s.heap p.at_ #[.ref p.kat, u]
  | [], _ => ⟨[], rfl, fun j p e => by simp at e⟩
  | p :: prs, h => by
    obtain ⟨us, hl, hu⟩ := prs_vals I (prs := prs) fun q hq => h q (List.mem_cons_of_mem _ hq)
    obtain ⟨its, rv, ht, _⟩ := I.tuple (SqT.of (h p List.mem_cons_self).1)
    obtain ⟨k, u, ei, rk, ru⟩ := vals2 rv
    subst ei
    cases rk
    refine ⟨u :: us, congrArg (· + 1) hl, fun j q e => ?_⟩
    cases j with
    | zero =>
      cases (Option.some.inj e : p = q)
      exact ⟨u, rfl, ru, ht⟩
    | succ j =>
      obtain ⟨u', e1, e2⟩ := hu j q (by simpa using e)
      exact ⟨u', by simpa using e1, e2⟩
def trip (p : Pr) (u : Value) : List Key × Addr × Value := (p.key, p.kat, u)
theorem fill_rel {H : Hp} : ∀ {prs : List Pr} {us : List Value} {acc : List (List Key × V)} {xs : List (List Key × Addr × Value)}, us.length = prs.length → (∀ (j : Nat) (p : Pr), prs[j]? = some p → ∃ u, us[j]? = some u ∧ RelV p.val u) → (∀ p ∈ prs, H p.kat = some (.tup (p.key.map kV))) → KT H acc xs →
    KT H (fillT acc prs) (storedAllH xs (prs.zipWith trip us))
  | [], [], _, _, _, _, _, r => r
  | [], _ :: _, _, _, h, _, _, _ => by cases h
  | _ :: _, [], _, _, h, _, _, _ => by cases h
  | p :: prs, u :: us, acc, xs, hl, hu, hk, r => by
    obtain ⟨u', e1, e2⟩ := hu 0 p rfl
    cases (Option.some.inj e1 : u = u')
    exact fill_rel (prs := prs) (us := us) (Nat.succ.inj hl) (fun j q e => by
      obtain ⟨u', f1, f2⟩ := hu (j + 1) q (by simpa using e)
      exact ⟨u', by simpa using f1, f2⟩) (fun q hq => hk q (List.mem_cons_of_mem _ hq)) (r.put p.key (hk p List.mem_cons_self) e2)
theorem cr_dictT (hc : X.calm = true) (hu : X.A.units + 2 < cLine) : CallR X (.type "dict") rDictT := by
  intro pins s σ H xs us Q I r q
  obtain ⟨a, prs, rfl, ha, hp, q⟩ := q
  obtain ⟨u, rfl, rx⟩ := vals1 r
  cases rx
  obtain ⟨its, rv, pl, hz⟩ := I.list (SqL.of ha)
  have ei : its = (prs.map fun p => p.at_).map Value.ref := refs_at (by rw [List.map_map]; exact rv)
  subst ei
  rw [List.length_map] at hz
  obtain ⟨ws, hl, hw⟩ := prs_vals I hp
  obtain ⟨o, n, ho, hcl, hd, hdat⟩ := pl
  let ps : List (List Key × Addr × Value) := prs.zipWith trip ws
  let vps : List (Value × Value) := ps.map fun p => (Value.ref p.2.1, p.2.2)
  have psl : ps.length = prs.length := by
    show (prs.zipWith trip ws).length = _
    rw [List.length_zipWith, hl, Nat.min_self]
  have vpl : vps.length = prs.length := by
    show (ps.map _).length = _
    rw [List.length_map, psl]
  have psg : ∀ (j : Nat) (y : List Key × Addr × Value), ps[j]? = some y → ∃ p u, prs[j]? = some p ∧ ws[j]? = some u ∧ y = trip p u := fun j y e => by
    have e' : (prs.zipWith trip ws)[j]? = some y := e
    rw [List.getElem?_zipWith] at e'
    cases e1 : prs[j]? with
    | none => rw [e1] at e'; cases e'
    | some p =>
      cases e2 : ws[j]? with
      | none => rw [e1, e2] at e'; cases e'
      | some u => rw [e1, e2] at e'; exact ⟨p, u, rfl, rfl, (Option.some.inj e').symm⟩
  let Ts : Nat → Addr := fun j => ((prs[j]?).map fun p => p.at_).getD 0
  have keyIs : ∀ y ∈ ps, (tupleKind (mixKind X.prog X.w)).is s.heap y.1 y.2.1 := fun y hy => by
    obtain ⟨j, e⟩ := List.getElem?_of_mem hy
    obtain ⟨p, u, e1, e2, rfl⟩ := psg j y e
    exact key_of I.hok (hp p (List.mem_of_getElem? e1)).2
  refine call_dict_pairsH (knd := tupleKind (mixKind X.prog X.w)) (ps := ps) (PairArg.list a _ Ts vps) (I.ok.hd hc) (show X.A.units + 2 < cLine from hu) ⟨⟨o, n, ho, hcl, hd, hdat⟩, ?_, fun j k v e => ?_⟩ ⟨psl.trans vpl.symm, fun j k v e => ?_⟩ (fun h' kp y hy => ?_) (by rw [vpl]; exact hz) fun h' tk dd' kp => ?_
  · rw [vpl]
    simp
  · obtain ⟨y, ey, ez⟩ : ∃ y, ps[j]? = some y ∧ (Value.ref y.2.1, y.2.2) = (k, v) := by
      have e' : (ps.map fun p => (Value.ref p.2.1, p.2.2))[j]? = some (k, v) := e
      rw [List.getElem?_map] at e'
      cases e1 : ps[j]? with
      | none => rw [e1] at e'; cases e'
      | some y => rw [e1] at e'; exact ⟨y, rfl, Option.some.inj e'⟩
    obtain ⟨p, u, e1, e2, rfl⟩ := psg j y ey
    cases ez
    have eT : Ts j = p.at_ := by
      show ((prs[j]?).map fun p => p.at_).getD 0 = p.at_
      rw [e1]
      rfl
    rw [eT]
    obtain ⟨u', f1, f2, f3⟩ := hw j p e1
    rw [e2] at f1
    cases f1
    exact ⟨by simp [e1], .inl f3⟩
  · have e' : (ps.map fun p => (Value.ref p.2.1, p.2.2))[j]? = some (k, v) := e
    rw [List.getElem?_map] at e'
    cases e1 : ps[j]? with
    | none => rw [e1] at e'; cases e'
    | some y =>
      rw [e1] at e'
      cases (Option.some.inj e')
      exact ⟨y.1, y.2.1, rfl, rfl⟩
  · obtain ⟨o1, it1, n1, g1, g2⟩ := keyIs y hy
    exact ⟨o1, it1, n1, kp _ _ (Nat.ne_of_lt (Heap.lt_size g1)) (fun z => nomatch z) g1, g2⟩
  · have low : (s.heap.objs.size == sysModules) = false := beq_eq_false_iff_ne.mpr (Nat.ne_of_gt I.big)
    have hn : H s.heap.objs.size = none := I.hok.fresh (Nat.le_refl _)
    obtain ⟨o1, es, ep, g1, g2, g3, g4, _, g5⟩ := dd'
    have few : (fillT [] prs).length ≤ sizeLine := Nat.le_trans (fill_len prs []) (by rw [List.length_nil, Nat.zero_add]; exact hz)
    have rel : KT H (fillT [] prs) (storedAllH [] ps) := fill_rel hl (fun j p e => let ⟨u, f1, f2, _⟩ := hw j p e; ⟨u, f1, f2⟩) (fun p h => (hp p h).2) .nil
    exact ⟨.ref s.heap.objs.size, upd H s.heap.objs.size (.dT (fillT [] prs)), I.laid (t' := tk) (fun b ob z => kp b ob (fun y => nomatch y) z) (Nat.le_refl _) ⟨few, low, _, rel.keeps fun c ys ec => by
      rw [upd_ne (ne_of_none ec hn)]
      exact ec, o1, es, ep, g1, g2, g3, g4, g5⟩, rfl, q _ hn⟩
end
/-! over data -/
def pairD : D → Option (List Key × D)
  | .tup [.tup xs, z] => (keyOf xs).map fun k => (k, z)
  | _ => none
def fillD : List D → List (List Key) → List D → Option (List (List Key) × List D)
  | [], ks, es => some (ks, es)
  | d :: r, ks, es => (pairD d).bind fun p => fillD r (putKs ks p.1) (putDs ks es p.1 p.2)
def dicF : List D → Option D
  | [.lst ds] => (fillD ds [] []).map fun p => .dic p.1 p.2
  | _ => none
theorem pair_ok {K : PySem.W.Frag} {H : Hp} {ok : Addr → Prop} {v : V} {d : D} {p : List Key × D} (a : Rep K H ok v d) (e : pairD d = some p) : ∃ (pa pk : Addr) (va : V), v = .ref pa ∧ H pa = some (.tup [.ref pk, va]) ∧ H pk = some (.tup (p.1.map kV)) ∧ Rep K H ok va p.2 := by
  unfold pairD at e
  split at e
  · obtain ⟨k, hk, e⟩ := map_some e
    subst e
    cases a with
    | tup ht ra => cases ra with
      | cons ak ra => cases ra with
        | cons az ra =>
          cases ra
          cases ak with
          | tup hb rk =>
            have ek := key_ok rk hk
            subst ek
            exact ⟨_, _, _, rfl, ht, hb, az⟩
  · cases e
theorem fill_data {K : PySem.W.Frag} {H : Hp} {ok : Addr → Prop} : ∀ {ds : List D} {ws : List V} {ks : List (List Key)} {es : List D} {us : List V} {fin : List (List Key) × List D}, Reps K H ok ws ds → fillD ds ks es = some fin → ks.length = us.length → Reps K H ok us es →
    ∃ (prs : List Pr) (us' : List V), ws = prs.map (fun p => V.ref p.at_) ∧ (∀ p ∈ prs, PrOk H p) ∧ fillT (ks.zip us) prs = fin.1.zip us' ∧ fin.1.length = us'.length ∧ Reps K H ok us' fin.2
  | [], _, ks, es, us, fin, .nil, e, hl, r => by
    cases e
    exact ⟨[], us, rfl, (fun p h => nomatch h), rfl, hl, r⟩
  | d :: ds, _, ks, es, us, fin, .cons a rr, e, hl, r => by
    obtain ⟨⟨k, z⟩, hp, e⟩ := bind_some (show (pairD d).bind _ = some fin from e)
    obtain ⟨pa, pk, va, rfl, ht, hb, az⟩ := pair_ok a hp
    have h1 : (putKs ks k).length = (if (ks.any fun j => decide (j = k)) = true then ks.zipWith (fun j e => if j = k then va else e) us else us ++ [va]).length := by
      unfold putKs
      split
      · rw [List.length_zipWith, hl, Nat.min_self]
      · rw [List.length_append, List.length_append, hl]
        rfl
    have h2 : Reps K H ok (if (ks.any fun j => decide (j = k)) = true then ks.zipWith (fun j e => if j = k then va else e) us else us ++ [va]) (putDs ks es k z) := by
      unfold putDs
      split
      · exact reps_repl az r
      · exact Reps.append r (.cons az .nil)
    obtain ⟨prs, us', f1, f2, f3, f4, f5⟩ := fill_data rr e h1 h2
    refine ⟨⟨pa, k, pk, va⟩ :: prs, us', by rw [f1]; rfl, fun p hp => ?_, ?_, f4, f5⟩
    · rcases List.mem_cons.mp hp with z | z
      · subst z
        exact ⟨ht, hb⟩
      · exact f2 p z
    · show fillT (putK (ks.zip us) k va) prs = _
      rw [zip_put hl]
      exact f3
theorem cd_dict {K : PySem.W.Frag} : CaD K rDictT dicF := fun vs ds z H ok Q rs e q => by
  unfold dicF at e
  split at e
  · obtain ⟨fin, hf, e⟩ := map_some e
    subst e
    cases rs with
    | cons a r =>
      cases r
      cases a with
      | lst o h r =>
        obtain ⟨prs, us', rfl, f2, f3, f4, f5⟩ := fill_data (us := []) r hf rfl .nil
        refine ⟨_, prs, rfl, h, f2, fun l hl => q _ _ (same_new hl) (.dic (.inr hl) ?_ f4 (f5.keeps (Same.keeps (same_new hl)) ex_of))⟩
        rw [upd_same]
        exact congrArg (fun z => some (HO.dT z)) f3
  · cases e
theorem call_dictT {X : Cx} {k : Nat} (hc : X.calm = true) (hr : Room k X.A) : CallR X (.type "dict") rDictT := cr_dictT hc (by have := hr.un; omega)
end Ice

/-! sum of a tuple of ints -/
namespace Ice
open PySem PySem.Spec PyProof.Rows L2
theorem preSum_take (ns : List Int) : ∀ n : Nat, preSum (fun i => ns.getD i 0) n = (ns.take n).sum
  | 0 => rfl
  | n + 1 => by
    show preSum (fun i => ns.getD i 0) n + ns.getD n 0 = _
    rw [preSum_take ns n]
    by_cases h : n < ns.length
    · rw [sum_take (List.getElem?_eq_getElem h), List.getD_eq_getElem?_getD, List.getElem?_eq_getElem h]
      rfl
    · rw [List.take_of_length_le (by omega : ns.length ≤ n + 1), List.take_of_length_le (by omega : ns.length ≤ n), List.getD_eq_getElem?_getD, List.getElem?_eq_none_iff.mpr (by omega)]
      exact Int.add_zero _
def rSumT (K : PySem.W.Frag) : List V → Hp → VK → Prop := fun vs H Q => ∃ (a : Addr) (ns : List Int), vs = [V.ref a] ∧ SqT K H a (ns.map V.int) ∧ Q (.int ns.sum) H
theorem cr_sumT {X : Cx} (hc : X.calm = true) : CallR X (.builtin "sum") (rSumT X.K) := by
  intro pins s σ H vs us Q I r h
  obtain ⟨a, ns, rfl, hs, q⟩ := h
  obtain ⟨its, rv, ht, _⟩ := I.tuple hs
  obtain ⟨u, rfl, rx⟩ := vals1 r
  cases rx
  have hlt : a < s.heap.objs.size := ht.lt
  have hl := rv.length
  rw [List.length_map] at hl
  refine call_sum_walkG (wpAny_pyIter_tuple (show s.heap.IsTuple a its.toArray from ht) ?_)
  refine ⟨_, _, _, _, _, _, fun i => ns.getD i 0, rfl, Walks.tuple (A := X.A.in1) (I.ok.hd hc) _ a (Nat.ne_of_lt hlt) its.toArray, ⟨⟨_, Heap.get?_push_size _ rfl, rfl, rfl⟩, let ⟨o, e, z⟩ := ht; ⟨o, Heap.get?_push_of_some _ e, z⟩⟩, fun b hb => ?_, fun i v hv => ?_, fun h' tk t' hk => ?_⟩
  · rw [Heap.size_push]
    rcases (by simpa using hb : b = s.heap.objs.size ∨ b = a) with z | z
    · rw [z]; exact Nat.lt_succ_self _
    · rw [z]; exact Nat.lt_succ_of_lt hlt
  · have hv' : its[i]? = some v := by simpa using hv
    have hi : i < ns.length := by
      rw [hl]
      exact (List.getElem?_eq_some_iff.mp hv').1
    obtain ⟨u, hu, ru⟩ := rv.get (i := i) (x := .int ns[i]) (by rw [List.getElem?_map, List.getElem?_eq_getElem hi]; rfl)
    rw [hv'] at hu
    cases hu
    obtain ⟨t, e⟩ := ru
    exact ⟨t, by rw [e]; show _ = Value.int (ns.getD i 0) t; rw [List.getD_eq_getElem?_getD, List.getElem?_eq_getElem hi]; rfl⟩
  · refine ⟨.int ns.sum, H, I.kept fun b o eo => hk b o (fun hm => ?_) (Heap.get?_push_of_some _ eo), ⟨t', ?_⟩, q⟩
    · have hlt2 := Heap.lt_size eo
      have z : b = s.heap.objs.size := by simpa using hm
      rw [z] at hlt2
      exact Nat.lt_irrefl _ hlt2
    · rw [preSum_take, List.size_toArray, ← hl, List.take_length]
def sumTF : List D → Option D
  | [.tup ds] => (intsOf ds).map fun ns => .int ns.sum
  | _ => none
theorem cd_sumT {K : PySem.W.Frag} : CaD K (rSumT K) sumTF := fun vs ds z H ok Q rs e q => by
  unfold sumTF at e
  split at e
  · obtain ⟨ns, hn, e⟩ := map_some e
    subst e
    cases rs with
    | cons a r =>
      cases r
      cases a with
      | tup h r =>
        have := ints_ok r hn
        subst this
        exact ⟨_, ns, rfl, SqT.of h, q _ H (Same.refl H) (.int _)⟩
  · cases e
def sumA : List D → Option D
  | [.lst ds] => (intsOf ds).map fun ns => .int ns.sum
  | [.tup ds] => (intsOf ds).map fun ns => .int ns.sum
  | _ => none
theorem cd_sumA {K : PySem.W.Frag} : CaD K (fun xs H Q => rSum K xs H Q ∨ rSumT K xs H Q) sumA := fun vs ds z H ok Q rs e q => by
  unfold sumA at e
  split at e
  · exact .inl (cd_sum _ _ _ _ _ _ rs e q)
  · exact .inr (cd_sumT _ _ _ _ _ _ rs e q)
  · cases e
end Ice

/-! zip of two tuples; list comprehensions of two clauses -/
namespace Ice
open PySem PySem.Spec PyProof.Rows L2

def pairUp : List D → List D → List D
  | x :: xs, y :: ys => .tup [x, y] :: pairUp xs ys
  | _, _ => []
theorem pairUp_get : ∀ (xs ys : List D) (i : Nat), (pairUp xs ys)[i]? = (xs[i]?).bind fun x => (ys[i]?).map fun y => .tup [x, y]
  | [], ys, i => by simp [pairUp]
  | x :: xs, [], i => by
    show ([] : List D)[i]? = _
    cases h : (x :: xs)[i]? <;> simp
  | x :: xs, y :: ys, 0 => rfl
  | x :: xs, y :: ys, i + 1 => by
    show (pairUp xs ys)[i]? = _
    rw [pairUp_get xs ys i]
    rfl
section
variable {K : PySem.W.Frag} {H : Hp} {ok : Addr → Prop}
theorem walk_zipT {p q : Addr} {ws us : List V} {es fs : List D} (h : SqT K H p ws) (h' : SqT K H q us) (r : Reps K H ok ws es) (r' : Reps K H ok us fs) : Walk K H ok (RZ.ItzT K p q) (pairUp es fs) := fun Hb k i H' s => by
  have hp : SqT K H' p ws := keeps_tup (Same.keeps (ok := fun _ => True) s) (keeps_tup k h)
  have hq : SqT K H' q us := keeps_tup (Same.keeps (ok := fun _ => True) s) (keeps_tup k h')
  have r1 : Reps K H' (fun a => ok a ∧ H a ≠ none) ws es := ((Reps.dom es ws r).keeps k fun _ z => z).keeps (Same.keeps s) fun _ z => z
  have r2 : Reps K H' (fun a => ok a ∧ H a ≠ none) us fs := ((Reps.dom fs us r').keeps k fun _ z => z).keeps (Same.keeps s) fun _ z => z
  rw [pairUp_get]
  refine ⟨fun d hd => ?_, fun hn => ⟨ws, us, hp, hq, ?_⟩⟩
  · cases hx : es[i]? with
    | none => rw [hx] at hd; cases hd
    | some x =>
      cases hy : fs[i]? with
      | none => rw [hx, hy] at hd; cases hd
      | some y =>
        rw [hx, hy] at hd
        cases hd
        obtain ⟨v, hv, rv⟩ := r1.get hx
        obtain ⟨u, hu, ru⟩ := r2.get hy
        exact ⟨⟨ws, us, v, u, hp, hq, hv, hu⟩, fun z H'' yy => by
          obtain ⟨T, a, b, rfl, nT, rfl, f1, f2⟩ := yy
          have e1 := f1 ws hp
          rw [hv] at e1
          cases e1
          have e2 := f2 us hq
          rw [hu] at e2
          cases e2
          have sn := same_new (o := .tup [v, u]) nT
          exact ⟨sn, .tup upd_same (.cons (rv.keeps (Same.keeps sn) fun _ z => z) (.cons (ru.keeps (Same.keeps sn) fun _ z => z) .nil))⟩⟩
  · rw [r1.length, r2.length]
    cases hx : es[i]? with
    | none => exact .inl (List.getElem?_eq_none_iff.mp hx)
    | some x =>
      cases hy : fs[i]? with
      | none => exact .inr (List.getElem?_eq_none_iff.mp hy)
      | some y => rw [hx, hy] at hn; cases hn
end
def itZ (m : Ma) : Ma := fun S => (m S).bind fun
  | [.tup xs, .tup ys] => some (pairUp xs ys)
  | _ => none
theorem ei_zip {X : Cx} {a b : Expr} {mr : Ma} {p pos tpos : Pos} {elts : List Expr} {kk : Nat} (hg : Gl X "zip") (hm : X.mg "zip" = none) (ha : Ea X [a, b] mr) (hs : starEach [a, b] X.env = (false, eval a X.env) :: starEach [b] X.env := by rfl) (hpl : (backTo pos (starEach [b] X.env)).any (fun x => x.1) = false := by rfl) :
    Ei X (.Tuple elts kk tpos) (.Call (.Name "zip" p) [a, b] [] pos) (itZ mr) := PI.imp (RZ.pi_zipA hg hm ha hs hpl) fun σ H R hh => by
  obtain ⟨ok, S, ds, rs, m, q⟩ := hh
  obtain ⟨xs, h1, m1⟩ := bind_some m
  refine ⟨ok, S, xs, rs, h1, fun vs H1 s r => ?_⟩
  split at m1
  · cases m1
    cases r with
    | cons x r => cases r with
      | cons y r => cases r; cases x with
        | tup h r1 => cases y with
          | tup h' r2 => exact ⟨_, _, _, _, rfl, .inr ⟨SqT.of h, SqT.of h', q _ H1 s (walk_zipT (SqT.of h) (SqT.of h') r1 r2)⟩⟩
  · cases m1

/-! ### two clauses -/
def hide (D : Addr) (H : Hp) : Hp := fun a => if a = D then none else H a
theorem hide_ne {D a : Addr} {H : Hp} (h : a ≠ D) : hide D H a = H a := if_neg h
theorem hide_same {D : Addr} {H H' : Hp} (s : Same H H') (h : H D = none) : Same H (hide D H') := fun a o e => by
  have ne : a ≠ D := ne_of_none e h
  rw [hide_ne ne]
  exact s a o e
theorem hide_keeps {D : Addr} {H H' : Hp} {ok : Addr → Prop} {xs : List V} (hD : H D = some (.lst xs)) (g : ∀ a, ok a → a ≠ D) (s : Same (hide D H) H') : Keeps ok H H' := fun a o e k => by
  have ne : a ≠ D := k.elim (g a) fun f z => by
    rw [z, hD] at e
    cases e
    exact f
  exact s a o (by rw [hide_ne ne]; exact e)
def compM2 (vs : List Nat) (t : Tg) (tt : Mt) (mi1 : Ma) (vs1 : List Nat) (t1 : Tg) (tt1 : Mt) (me : Mi) (S : Sd) : List D → Option (List D)
  | [] => some []
  | d :: r => (asg t d (wipeD S vs)).bind fun S1 => (tt S1).bind fun c => if c = true then (mi1 S1).bind fun ds1 => (compM vs1 t1 tt1 me S1 ds1).bind fun ys => (compM2 vs t tt mi1 vs1 t1 tt1 me S r).map fun zs => ys ++ zs
    else compM2 vs t tt mi1 vs1 t1 tt1 me S r
def mLc2 (mi : Ma) (vs : List Nat) (t : Tg) (tt : Mt) (mi1 : Ma) (vs1 : List Nat) (t1 : Tg) (tt1 : Mt) (me : Mi) : Mi := fun S => (mi S).bind fun ds => (compM2 vs t tt mi1 vs1 t1 tt1 me S ds).bind fun ys => if ys.length ≤ 1000000 then some (.lst ys) else none
theorem t_lc2 {K : PySem.W.Frag} {mi mi1 : Ma} {vs vs1 : List Nat} {t t1 : Tg} {tt tt1 : Mt} {me : Mi} {σ : L2.St} {H : Hp} {Q : VK} (hv : ∀ i ∈ sl t, i ∈ vs ∧ i < σ.length) (hv1 : ∀ i ∈ sl t1, i ∈ vs1 ∧ i < σ.length) (h : tE K (mLc2 mi vs t tt mi1 vs1 t1 tt1 me) σ H Q) :
    tLc2 (tI K mi) (tG K t) (tT K tt) (tI K mi1) (tG K t1) (tT K tt1) (tE K me) vs vs1 σ H Q := by
  obtain ⟨ok, S, dz, rs, m, q⟩ := h
  obtain ⟨ds, h1, m1⟩ := bind_some m
  obtain ⟨ys, hys, m1⟩ := bind_some m1
  by_cases hlen : ys.length ≤ 1000000
  case neg => rw [if_neg hlen] at m1; cases m1
  rw [if_pos hlen] at m1
  cases m1
  refine ⟨ok, S, ds, rs, h1, fun J H1 s1 wk D hD => ?_⟩
  have hD0 : H D = none := s1.free hD
  let okD : Addr → Prop := fun a => ex ok H a ∧ a ≠ D
  let okc : Addr → Prop := fun a => ex ok H a ∧ H1 a ≠ none
  have okcD : ∀ a, okc a → okD a := fun a h => ⟨h.1, fun z => h.2 (by rw [z]; exact hD)⟩
  refine ⟨fun i n H' => n = ds.length - i ∧ i ≤ ds.length ∧ Same H1 H' ∧ ∃ acc accd rest, H' D = some (.lst acc) ∧ Reps K H' okD acc accd ∧ compM2 vs t tt mi1 vs1 t1 tt1 me S (ds.drop i) = some rest ∧ accd ++ rest = ys,
    ⟨ds.length, rfl, Nat.zero_le _, same_new hD, [], [], ys, upd_same, .nil, hys, rfl⟩, ?_⟩
  rintro i n H' ⟨rfl, hi, s2, acc, accd, rest, hacc, racc, hrest, hcat⟩
  have wk' := wk H1 (fun a o e _ => e) i H' s2
  by_cases hlt : i < ds.length
  · have hg : ds[i]? = some ds[i] := List.getElem?_eq_getElem hlt
    have hdrop : ds.drop i = ds[i] :: ds.drop (i + 1) := List.drop_eq_getElem_cons hlt
    obtain ⟨go, yl⟩ := wk'.1 _ hg
    rw [hdrop] at hrest
    obtain ⟨S1, ha, hrest⟩ := bind_some (show (asg t ds[i] (wipeD S vs)).bind _ = some rest from hrest)
    obtain ⟨c, hc, hrest⟩ := bind_some hrest
    let Nx : Hp → Prop := fun H'' => i + 1 ≤ ds.length ∧ Same H1 H'' ∧ ∃ acc accd rest, H'' D = some (.lst acc) ∧ Reps K H'' okD acc accd ∧ compM2 vs t tt mi1 vs1 t1 tt1 me S (ds.drop (i + 1)) = some rest ∧ accd ++ rest = ys
    refine .inr ⟨go, Nx, fun H'' nx => ⟨ds.length - (i + 1), by omega, rfl, nx⟩, fun x H3 y => ?_⟩
    obtain ⟨s3, rx⟩ := yl x H3 y
    have s13 := s2.trans s3
    have rs3 : Rs K H3 okc (wipeD S vs) (wipe σ vs) := ((Rs.wipe (fun i d e => by
      obtain ⟨v, e1, e2⟩ := rs i d e
      exact ⟨v, e1, Rep.dom d v e2⟩ : Rs K H (fun a => ok a ∧ H a ≠ none) S σ) vs)).keeps (Same.keeps (s1.trans s13)) fun a h => ⟨.inl h.1, fun z => h.2 (s1.free z)⟩
    refine ⟨okc, wipeD S vs, ds[i], S1, fun j hj => by rw [wipe_length]; exact (hv j hj).2, rs3, rx, ha, fun σ2 b2 rs2 => ⟨?_, okc, S1, c, rs2, hc, fun H4 s4 => ?_⟩⟩
    · have hw : wipe (wipe σ vs) vs = wipe σ vs := wipe_but ⟨wipe_length σ vs, fun j hj => by rw [wipe_get, if_neg hj]⟩
      rw [wipe_but (b2.mono fun j hj => (hv j hj).1), hw]
    have hacc4 : H4 D = some (.lst acc) := s4 _ _ (s3 _ _ hacc)
    have racc4 : Reps K H4 okD acc accd := racc.keeps (Same.keeps (s3.trans s4)) fun _ z => z
    have len2 : σ2.length = σ.length := by rw [b2.1, wipe_length]
    cases c with
    | false =>
      rw [if_neg Bool.false_ne_true] at hrest
      exact ⟨hlt, s13.trans s4, acc, accd, rest, hacc4, racc4, hrest, hcat⟩
    | true =>
      rw [if_pos rfl] at hrest
      obtain ⟨ds1, hi1, hrest⟩ := bind_some hrest
      obtain ⟨ys1, hy1, hrest⟩ := bind_some hrest
      obtain ⟨rest2, hr2, hrest⟩ := map_some hrest
      subst hrest
      -- the inner loop
      refine ⟨okc, S1, ds1, rs2.keeps (Same.keeps s4) (fun _ z => z), hi1, fun J1 H5 s5 wk1 => ?_⟩
      have s15 : Same H1 H5 := (s13.trans s4).trans s5
      have hacc5 : H5 D = some (.lst acc) := s5 _ _ hacc4
      have sH1 : Same H1 (hide D H5) := hide_same s15 hD
      refine ⟨fun j k Hj => k = ds1.length - j ∧ j ≤ ds1.length ∧ Same (hide D H5) Hj ∧ ∃ acc accd rest1, Hj D = some (.lst acc) ∧ Reps K Hj okD acc accd ∧ compM vs1 t1 tt1 me S1 (ds1.drop j) = some rest1 ∧ accd ++ (rest1 ++ rest2) = ys,
        ⟨ds1.length, rfl, Nat.zero_le _, (fun a o e => by
          by_cases z : a = D
          · rw [z] at e; unfold hide at e; rw [if_pos rfl] at e; cases e
          · rw [hide_ne z] at e; exact e), acc, accd, ys1, s5 _ _ hacc4, racc4.keeps (Same.keeps s5) (fun _ z => z), hy1, hcat⟩, ?_⟩
      rintro j k Hj ⟨rfl, hj, sj, acc', accd', rest1, haccj, raccj, hrest1, hcat1⟩
      have nD4 : ∀ a, ex okc H4 a → a ≠ D := fun a h => by
        rcases h with g | g
        · exact (okcD a g).2
        · intro z
          rw [z, hacc4] at g
          cases g
      have wkj := wk1 (hide D H5) (hide_keeps hacc5 (fun a g => nD4 a g.1) (Same.refl _)) j Hj sj
      by_cases hltj : j < ds1.length
      · have hgj : ds1[j]? = some ds1[j] := List.getElem?_eq_getElem hltj
        have hdropj : ds1.drop j = ds1[j] :: ds1.drop (j + 1) := List.drop_eq_getElem_cons hltj
        obtain ⟨go1, yl1⟩ := wkj.1 _ hgj
        rw [hdropj] at hrest1
        obtain ⟨S2, ha2, hrest1⟩ := bind_some (show (asg t1 ds1[j] (wipeD S1 vs1)).bind _ = some rest1 from hrest1)
        obtain ⟨c1, hc1, hrest1⟩ := bind_some hrest1
        let Nx1 : Hp → Prop := fun H'' => j + 1 ≤ ds1.length ∧ Same (hide D H5) H'' ∧ ∃ acc accd rest1, H'' D = some (.lst acc) ∧ Reps K H'' okD acc accd ∧ compM vs1 t1 tt1 me S1 (ds1.drop (j + 1)) = some rest1 ∧ accd ++ (rest1 ++ rest2) = ys
        refine .inr ⟨go1, Nx1, fun H'' nx => ⟨ds1.length - (j + 1), by omega, rfl, nx⟩, fun x1 H6 y1 => ?_⟩
        obtain ⟨s6, rx1⟩ := yl1 x1 H6 y1
        have s56 := sj.trans s6
        have s16 := sH1.trans s56
        -- what is good in the inner turn
        let okc1 : Addr → Prop := fun a => ex okc H4 a ∧ H5 a ≠ none ∧ a ≠ D
        have okc1D : ∀ a, okc1 a → okD a := fun a h => by
          rcases h.1 with g | g
          · exact okcD a g
          · exact ⟨.inr (s1.free (s13.free (s4.free g))), h.2.2⟩
        have rs6 : Rs K H6 okc1 (wipeD S1 vs1) (wipe σ2 vs1) := ((Rs.wipe (fun i d e => by
          obtain ⟨v, e1, e2⟩ := rs2 i d e
          have e3 : Rep K H5 okc v d := e2.keeps (Same.keeps (s4.trans s5)) fun _ z => z
          exact ⟨v, e1, Rep.dom d v e3⟩ : Rs K H5 (fun a => okc a ∧ H5 a ≠ none) S1 σ2) vs1)).keeps (hide_keeps hacc5 (fun a g => (okcD a g.1).2) s56) fun a h => ⟨.inl h.1, h.2, (okcD a h.1).2⟩
        refine ⟨okc1, wipeD S1 vs1, ds1[j], S2, fun l hl => by rw [wipe_length, len2]; exact (hv1 l hl).2, rs6, rx1.keeps (Same.keeps (Same.refl _)) (fun a g => ⟨g.1, g.2, nD4 a g.1⟩), ha2, fun σ3 b3 rs7 => ⟨?_, okc1, S2, c1, rs7, hc1, fun H7 s7 => ?_⟩⟩
        · have hw : wipe (wipe σ2 vs1) vs1 = wipe σ2 vs1 := wipe_but ⟨wipe_length σ2 vs1, fun l hl => by rw [wipe_get, if_neg hl]⟩
          rw [wipe_but (b3.mono fun l hl => (hv1 l hl).1), hw]
        have hacc7 : H7 D = some (.lst acc') := s7 _ _ (s6 _ _ haccj)
        have racc7 : Reps K H7 okD acc' accd' := raccj.keeps (Same.keeps (s6.trans s7)) fun _ z => z
        cases c1 with
        | false =>
          rw [if_neg Bool.false_ne_true] at hrest1
          exact ⟨hltj, s56.trans s7, acc', accd', rest1, hacc7, racc7, hrest1, hcat1⟩
        | true =>
          rw [if_pos rfl] at hrest1
          obtain ⟨yd, hy, hrest1⟩ := bind_some hrest1
          obtain ⟨rest3, hr3, hrest1⟩ := map_some hrest1
          subst hrest1
          refine ⟨okc1, S2, yd, rs7.keeps (Same.keeps s7) (fun _ z => z), hy, fun yv H8 s8 ry => ?_⟩
          have hacc8 : H8 D = some (.lst acc') := s8 _ _ hacc7
          refine ⟨acc', hacc8, ?_, hltj, ?_, acc' ++ [yv], accd' ++ [yd], rest3, upd_same, ?_, hr3, ?_⟩
          · have e1 := congrArg List.length hcat1
            rw [List.length_append, List.length_append, List.length_cons] at e1
            have e2 := raccj.length
            have : acc'.length < 1000000 := by omega
            exact Nat.lt_trans this (by decide)
          · intro a o e
            have ne : a ≠ D := fun z => by
              rw [z] at e
              unfold hide at e
              rw [if_pos rfl] at e
              cases e
            rw [upd_ne ne]
            exact s8 _ _ (s7 _ _ (s56 _ _ e))
          · have kp : Keeps okD H8 (upd H8 D (.lst (acc' ++ [yv]))) := fun a o e g => by
              have ne : a ≠ D := fun z => by
                rw [z] at e g
                rw [hacc8] at e
                cases e
                exact g.elim (fun g => g.2 rfl) fun g => g
              rw [upd_ne ne]
              exact e
            refine Reps.append ((racc7.keeps (Same.keeps s8) fun _ z => z).keeps kp fun _ z => z) (.cons ((ry.keeps (Same.keeps (Same.refl _)) fun a h => ?_).keeps kp fun _ z => z) .nil)
            rcases h with h | h
            · exact okc1D a h
            · refine ⟨.inr (s1.free (s16.free (s7.free h))), fun z => ?_⟩
              rw [z, hacc7] at h
              cases h
          · rw [List.append_assoc]
            exact hcat1
      · have e : j = ds1.length := by omega
        subst e
        rw [List.drop_length] at hrest1
        cases hrest1
        exact .inl ⟨wkj.2 (List.getElem?_eq_none_iff.mpr (Nat.le_refl _)), hlt, sH1.trans sj, acc', accd', rest2, haccj, raccj, hr2, hcat1⟩
  · have e : i = ds.length := by omega
    subst e
    rw [List.drop_length] at hrest
    cases hrest
    rw [List.append_nil] at hcat
    subst hcat
    refine .inl ⟨wk'.2 (List.getElem?_eq_none_iff.mpr (Nat.le_refl _)), q _ H' (s1.trans s2) (.lst (.inr hD0) hacc (racc.keeps (Same.keeps (Same.refl _)) fun a h => h.1))⟩
theorem ev_lc2 {X : Cx} {elt tg iter tg1 iter1 : Expr} {ifs ifs1 : List Expr} {scope : Scope} {pos : Pos} {mi mi1 : Ma} {t t1 : Tg} {tt tt1 : Mt} {me : Mi} (own : List (Str × Nat)) (vs1 : List Nat) (hN : X.N.Nodup) (hi : Ei X tg iter mi) (ok : BlkOk X.N X.env.scope scope own)
    (hg : ∀ (s : Shared) (H : Hp) (C : Addr) (cl : List (Str × Addr)) (fp : List Addr), Eg (X.blk s H scope (compEnvC scope cl C X.env) fp) tg t) (ht : ∀ (s : Shared) (H : Hp) (C : Addr) (cl : List (Str × Addr)) (fp : List Addr), Ets (X.blk s H scope (compEnvC scope cl C X.env) fp) ifs tt)
    (hi1 : ∀ (s : Shared) (H : Hp) (C : Addr) (cl : List (Str × Addr)) (fp : List Addr), Ei (X.blk s H scope (compEnvC scope cl C X.env) fp) tg1 iter1 mi1)
    (hg1 : ∀ (s : Shared) (H : Hp) (C : Addr) (cl : List (Str × Addr)) (fp : List Addr), Eg (X.blk s H scope (compEnvC scope cl C X.env) fp) tg1 t1) (ht1 : ∀ (s : Shared) (H : Hp) (C : Addr) (cl : List (Str × Addr)) (fp : List Addr), Ets (X.blk s H scope (compEnvC scope cl C X.env) fp) ifs1 tt1)
    (he : ∀ (s : Shared) (H : Hp) (C : Addr) (cl : List (Str × Addr)) (fp : List Addr), Ev (X.blk s H scope (compEnvC scope cl C X.env) fp) elt me) (hs : ∀ x, foldedSetIterable iter X.env x = pure x := by intro _; rfl) (hs1 : ∀ env x, foldedSetIterable iter1 env x = pure x := by intro _ _; rfl)
    (hv : ∀ i ∈ sl t, i ∈ own.map (fun p => p.2) := by decide) (hv1 : ∀ i ∈ sl t1, i ∈ vs1 := by decide) (hv2 : ∀ i ∈ vs1, i ∈ own.map (fun p => p.2) := by decide) (hc : X.calm = true := by rfl) : Ev X (.ListComp elt [⟨tg, iter, ifs, 0⟩, ⟨tg1, iter1, ifs1, 0⟩] scope pos) (mLc2 mi (own.map (fun p => p.2)) t tt mi1 vs1 t1 tt1 me) :=
  ⟨fun pins s σ H Q I h => (pe_lc2 hc hN hi ok hv2 hg ht hi1 hg1 ht1 he hs hs1).run pins s σ H Q I (t_lc2 (fun i h => ⟨hv i h, lt_of_own ok I.len (hv i h)⟩) (fun i h => ⟨hv1 i h, lt_of_own ok I.len (hv2 i (hv1 i h))⟩) h)⟩
end Ice

/-! min(xs, default=None) -/
namespace Ice
open PySem PySem.Spec PyProof.Rows L2

section
variable {prog : Program} {w : World} {A : Around} {R : Result → Shared → Prop} {I : Addr} {fp wr : List Addr} {n : Nat} {P : Nat → Value → Prop} {St : Nat → Heap → Prop}
theorem nm_loop : (toString "min" ++ toString ".loop" : String) = "min.loop" := by decide
/-- the loop behind its first item, with any keywords -/
theorem minK_loop (W : Walks prog w A.in1 I fp wr n P St) (bt : Nat → Nat → Bool) (hc : CmpOf prog w A.in1 .Lt P bt) (B : Addr) (hB : B ∉ fp) (kw : List (Str × Value)) : ∀ (m j : Nat) (t : Shared) (x : Value) (c : Nat), n - (j + 1) = m → j + 1 ≤ n → St (j + 1) t.heap → P (argBest bt j) x →
    t.heap.get? B = some { cls := .type "list", dict := none, data := .seq #[x, x] c, slots := #[] } → (∀ v h' tk, P (argBest bt (n - 1)) v → (∀ b o, b ∉ wr → b ≠ B → t.heap.get? b = some o → h'.get? b = some o) → R (.ok (.ret v)) { t with heap := h', toks := tk }) →
    codeAny (model prog w) A (.builtin "min.loop" ⟨[.ref I, .none, .ref B], kw⟩) R t
  | 0, j, t, x, c, hm, hj, st, px, hb, hr => by
    have e : j + 1 = n := by omega
    have hw : B ∉ wr := fun z => hB (W.sub _ z)
    refine codeAny_builtin F.entry_min_loop ?_
    rw [Around.under_plainId F.plain_min_loop _]
    show wpAny _ A.in1 (seqItems? (.ref B) >>= _) _ _ t
    refine wpAny_bind (wpAny_seqItems hb rfl ?_)
    show wpAny _ A.in1 (tryCatch (pyNext (.ref I)) _ >>= _) _ _ t
    refine wpAny_bind (wpAny_tryCatch (W.done t _ _ (e ▸ st) fun h' tk hk => ?_))
    have hb' := hk B _ hw hb
    show wpAny _ A.in1 (updateSeq B (fun _ => #[]) >>= _) _ _ _
    refine wpAny_bind ?_
    refine wpAny_updateSeq hb' rfl (wpAny_bind (wpAny_letGo (wpAny_pure ?_)))
    exact hr x _ tk (by rw [← e]; exact px) fun b o h1 h2 z => (Heap.get?_update_other _ _ (Ne.symm h2)).trans (hk b o h1 z)
  | m + 1, j, t, x, c, hm, hj, st, px, hb, hr => by
    have lt : j + 1 < n := by omega
    have hw : B ∉ wr := fun z => hB (W.sub _ z)
    refine codeAny_builtin F.entry_min_loop ?_
    rw [Around.under_plainId F.plain_min_loop _]
    show wpAny _ A.in1 (seqItems? (.ref B) >>= _) _ _ t
    refine wpAny_bind (wpAny_seqItems hb rfl ?_)
    show wpAny _ A.in1 (tryCatch (pyNext (.ref I)) _ >>= _) _ _ t
    refine wpAny_bind (wpAny_tryCatch (W.item (j + 1) t _ _ lt st fun v h' tk pv st' hk => ?_))
    have hb' := hk B _ hw hb
    show wpAny _ A.in1 (tryCatch (holding [v, v] (richCompare .Lt v x >>= _)) _ >>= _) _ _ _
    refine wpAny_bind (wpAny_tryCatch (wpAny_holding (wpAny_bind (hc (j + 1) (argBest bt j) v x _ _ _ pv px ?_))))
    refine wpAny_bind (wpAny_holding (wpAny_truthy_bool ?_))
    refine wpAny_bind (wpAny_letGo (wpAny_pure ?_))
    cases hq : bt (j + 1) (argBest bt j) with
    | true =>
      simp only [if_true]
      refine wpAny_bind ?_
      refine wpAny_updateSeq hb' rfl (wpAny_bind (wpAny_letGo ?_))
      rw [nm_loop]
      refine wpAny_pure ⟨plainId_quiet F.plain_min_loop _, minK_loop W bt hc B hB kw m (j + 1) _ v _ (by omega) lt (W.frame _ _ _ st' fun b hbf o z => ?_) (by simp only [argBest, hq, if_true]; exact pv) (Heap.get?_update_self _ hb' rfl) fun v' h2 tk2 pv' hk2 => ?_⟩
      · exact (Heap.get?_update_other _ _ (fun y : B = b => hB (by rw [y]; exact hbf))).trans z
      · exact hr v' h2 tk2 pv' fun b o h1 h3 z => hk2 b o h1 h3 ((Heap.get?_update_other _ _ (Ne.symm h3)).trans (hk b o h1 z))
    | false =>
      simp only [Bool.false_eq_true, if_false]
      refine wpAny_bind (wpAny_letGo ?_)
      rw [nm_loop]
      exact wpAny_pure ⟨plainId_quiet F.plain_min_loop _, minK_loop W bt hc B hB kw m (j + 1) _ x c (by omega) lt st' (by simp only [argBest, hq, Bool.false_eq_true, if_false]; exact px) hb' fun v' h2 tk2 pv' hk2 => hr v' h2 tk2 pv' fun b o h1 h3 z => hk2 b o h1 h3 (hk b o h1 z)⟩
/-- from its start; d: the default -/
theorem minK_start (W : Walks prog w A.in1 I fp wr n P St) (bt : Nat → Nat → Bool) (hc : CmpOf prog w A.in1 .Lt P bt) (B : Addr) (hB : B ∉ fp) {nm : Str} {d : Value} {t : Shared} {c : Nat} (st : St 0 t.heap) (hb : t.heap.get? B = some { cls := .type "list", dict := none, data := .seq #[] c, slots := #[] })
    (hr : ∀ v h' tk, (if n = 0 then v = d else P (argBest bt (n - 1)) v) → (∀ b o, b ∉ wr → b ≠ B → t.heap.get? b = some o → h'.get? b = some o) → R (.ok (.ret v)) { t with heap := h', toks := tk }) :
    codeAny (model prog w) A (.builtin "min.loop" ⟨[.ref I, .none, .ref B], [(nm, d)]⟩) R t := by
  have hw : B ∉ wr := fun z => hB (W.sub _ z)
  refine codeAny_builtin F.entry_min_loop ?_
  rw [Around.under_plainId F.plain_min_loop _]
  show wpAny _ A.in1 (seqItems? (.ref B) >>= _) _ _ t
  refine wpAny_bind (wpAny_seqItems hb rfl ?_)
  show wpAny _ A.in1 (tryCatch (pyNext (.ref I)) _ >>= _) _ _ t
  by_cases hn : n = 0
  · refine wpAny_bind (wpAny_tryCatch (W.done t _ _ (hn ▸ st) fun h' tk hk => ?_))
    show wpAny _ A.in1 (rule _ >>= _) _ _ _
    refine wpAny_bind (wpAny_rule (wpAny_pure ?_))
    exact hr d h' tk (by rw [if_pos hn]) fun b o h1 _ z => hk b o h1 z
  · have lt : 0 < n := Nat.pos_of_ne_zero hn
    refine wpAny_bind (wpAny_tryCatch (W.item 0 t _ _ lt st fun v h' tk pv st' hk => ?_))
    have hb' := hk B _ hw hb
    show wpAny _ A.in1 (updateSeq B (fun _ => #[v, v]) >>= _) _ _ _
    refine wpAny_bind ?_
    refine wpAny_updateSeq hb' rfl ?_
    rw [nm_loop]
    refine wpAny_pure ⟨plainId_quiet F.plain_min_loop _, minK_loop W bt hc B hB _ _ 0 _ v _ rfl lt (W.frame _ _ _ st' fun b hbf o z => ?_) pv (Heap.get?_update_self _ hb' rfl) fun v' h2 tk2 pv' hk2 => ?_⟩
    · exact (Heap.get?_update_other _ _ (fun y : B = b => hB (by rw [y]; exact hbf))).trans z
    · exact hr v' h2 tk2 (by rw [if_neg hn]; exact pv') fun b o h1 h3 z => hk2 b o h1 h3 ((Heap.get?_update_other _ _ (Ne.symm h3)).trans (hk b o h1 z))
end
section
variable {prog : Program} {w : World} {A : Around} {E : Value → Shared → Prop} {s : Shared}
theorem args_minD (a d : Value) : argsOk "min" ⟨[a], [(Str.ofString "default", d)]⟩ := by
  unfold argsOk
  kernel_rfl
theorem call_minD {x d : Value} {Q : Value → Shared → Prop}
    (h : wpAny (model prog w) A.in1 (pyIter x) (fun it t => ∃ I fp wr n P St bt, it = .ref I ∧ Walks prog w A.in1 I fp wr n P St ∧ St 0 t.heap ∧ (∀ b ∈ fp, b < t.heap.objs.size) ∧ CmpOf prog w A.in1 .Lt P bt ∧
      ∀ v h' tk, (if n = 0 then v = d else P (argBest bt (n - 1)) v) → (∀ b o, b ∉ wr → t.heap.get? b = some o → h'.get? b = some o) → Q v { t with heap := h', toks := tk }) E s) : wpAny (model prog w) A (call (.builtin "min") [x] [(Str.ofString "default", d)]) Q E s := by
  refine wpAny_call (codeAny_call_builtin F.plain_min F.entry_min ?_)
  simp only [checkBuiltinCall, F.kind_min]
  have body : wpAny (model prog w) A.in1 (Builtin.«min» ⟨[x], [(Str.ofString "default", d)]⟩) (fun fin s' => match fin with
      | .done f => (match (Except.ok f : Result) with | .ok (.ret v) => Q v s' | .ok _ => False | .error e => E e s')
      | .again c' => c'.quiet = true ∧ codeAny (model prog w) A c' (fun r s' => match r with | .ok (.ret v) => Q v s' | .ok _ => False | .error e => E e s') s') E s := by
    show wpAny _ A.in1 (Builtin.Builtins.bindParams "min" ["key", "default"] 0 ⟨[], [(Str.ofString "default", d)]⟩ >>= _) _ _ s
    refine wpAny_bind (wpAny_of_eq (show Builtin.Builtins.bindParams "min" ["key", "default"] 0 ⟨[], [(Str.ofString "default", d)]⟩ = pure [none, some d] from rfl) ?_)
    refine wpAny_bind (wpAny_pure ?_)
    refine wpAny_bind (wpAny_mono h (fun it t ht => ?_) fun _ _ z => z)
    obtain ⟨I, fp, wr, n, P, St, bt, rfl, W, st, low, hc, hQ⟩ := ht
    refine wpAny_bind (wpAny_newObj_type ?_)
    have hB : t.heap.objs.size ∉ fp := fun z => Nat.lt_irrefl _ (low _ z)
    rw [nm_loop]
    refine wpAny_pure ⟨plainId_quiet F.plain_min_loop _, minK_start W bt hc t.heap.objs.size hB (W.frame _ _ _ st fun b _ o z => Heap.get?_push_of_some _ z) (Heap.get?_push_size _ rfl) fun v h' tk hv hk => ?_⟩
    exact hQ v h' tk hv fun b o h1 z => hk b o h1 (Nat.ne_of_lt (Heap.lt_size z)) (Heap.get?_push_of_some _ z)
  cases hsig : Manifest.signature? "min" with
  | none => exact wpAny_pure body
  | some sig =>
    have ha : Bind.checkArgs "min" sig ⟨[x], [(Str.ofString "default", d)]⟩ = pure () := by simpa only [argsOk, hsig] using args_minD x d
    simp only [ha]
    exact wpAny_pure body
end
def rMinD (K : PySem.W.Frag) : List V → List V → Hp → VK → Prop := fun vs zs H Q => ∃ (a : Addr) (ns : List Int), vs = [V.ref a] ∧ zs = [V.non] ∧ SqL K H a (ns.map V.int) ∧ (ns = [] → Q .non H) ∧ ∀ m, m ∈ ns → (∀ y, y ∈ ns → m ≤ y) → Q (.int m) H
theorem cr_minD {X : Cx} (hc : X.calm = true) : CallRK X (.builtin "min") [Str.ofString "default"] (rMinD X.K) := by
  intro pins s σ H vs zs us ws Q I r rz h
  obtain ⟨a, ns, rfl, rfl, hs, q0, q⟩ := h
  obtain ⟨its, rv, pl, _⟩ := I.list hs
  rw [Vals.ref1 r]
  obtain ⟨w1, rfl, e1⟩ := vals1 rz
  cases e1
  have hl := pl.isList
  have hi := rv.ints
  obtain ⟨xs, e⟩ := hi.allInts.items
  have hn : numsOf (intItems xs).toList = ns := by
    rw [← e]
    exact hi.numsOf
  rw [nums_intItems] at hn
  rw [e] at hl
  have sz : (intItems xs).size = ns.length := by
    rw [← hn]
    simp [intItems]
  show wpAny _ _ (call (.builtin "min") [.ref a] [(Str.ofString "default", Value.none)]) _ _ _
  refine call_minD (iter_intList hl fun t et st low hne => ?_)
  subst et
  refine ⟨_, _, _, _, _, _, _, rfl, Walks.list (A := X.A.in1) (I.ok.hd hc) _ a hne (intItems xs), st, low, CmpOf.ints_lt (numAt xs) (fun _ _ => intItems_at), fun v h' tk hv hk => ?_⟩
  have kept := old_kept hk
  by_cases z : (intItems xs).size = 0
  · rw [if_pos z] at hv
    subst hv
    have e0 : ns = [] := List.eq_nil_of_length_eq_zero (sz.symm.trans z)
    exact ⟨.non, H, I.kept kept, rfl, q0 e0⟩
  · rw [if_neg z] at hv
    have zx : (intItems xs).size = xs.size := by simp [intItems]
    rw [zx] at hv z
    obtain ⟨t, rfl⟩ := intItems_at hv
    obtain ⟨h1, h2⟩ := argBest_lt (numAt xs) (xs.size - 1)
    have lx : ns.length = xs.size := sz.symm.trans zx
    refine ⟨.int _, H, I.kept kept, ⟨t, rfl⟩, q _ ?_ fun y hy => ?_⟩
    · rw [numAt_eq, hn]
      exact PySem.getD_mem (by omega)
    · obtain ⟨j, hj, rfl⟩ := mem_getD hy
      rw [← hn, ← numAt_eq]
      exact h2 j (by omega)
def minDF : List D → Option D
  | [.lst ds] => (intsOf ds).map fun ns => match minL ns with | some m => .int m | none => .non
  | _ => none
abbrev Ek (X : Cx) (ks : List Keyword) (m : Ma) : Prop := PK X ks (tA X.K m)
/-- min(e, default=None) -/
theorem ev_minD {X : Cx} {e : Expr} {j : Nat} {mr : Ma} {p pos kpos cpos : Pos} (hg : Gl X "min") (hm : X.mg "min" = none) (ha : Ea X [e] mr) (hc : X.calm = true := by rfl)
    (he : backTo pos (starEach [e] X.env) = (false, eval e X.env) :: backTo pos (starEach [] X.env) := by rfl) (hpl : (backTo pos (starEach [e] X.env)).any (fun x => x.1) = false := by rfl)
    (hall : (backToKw pos (keywordEach [⟨some "default", .Constant .none j cpos, kpos⟩] X.env)).all (fun x => x.1.isSome) = true := by rfl) (hnone : (backToKw pos (keywordEach [⟨some "default", .Constant .none j cpos, kpos⟩] X.env)).any (fun x => x.1.isNone) = false := by rfl)
    (hks : (backToKw pos (keywordEach [⟨some "default", .Constant .none j cpos, kpos⟩] X.env)).filterMap (fun x => x.1) = [Str.ofString "default"] := by rfl) :
    Ev X (.Call (.Name "min" p) [e] [⟨some "default", .Constant .none j cpos, kpos⟩] pos) (mA minDF mr) := by
  refine PE.imp (pe_callBK (cr_minD hc) hg hm (by decide +kernel) ha (pk_cons pe_non pk_nil) (by decide) (by decide) he hpl hall hnone hks) fun σ H Q h => ?_
  refine t_ca (K := X.K) (r := fun vs H1 Q => rMinD X.K vs [V.non] H1 Q) (f := minDF) (fun vs ds z H ok Q rs e q => ?_) h
  unfold minDF at e
  split at e
  · obtain ⟨ns, hn, e⟩ := map_some e
    cases rs with
    | cons a r =>
      cases r
      cases a with
      | lst o h r =>
        have := ints_ok r hn
        subst this
        refine ⟨_, ns, rfl, rfl, SqL.of h, fun e0 => ?_, fun m h1 h2 => ?_⟩
        · subst e0
          cases e
          exact q _ H (Same.refl H) .non
        · cases hm : minL ns with
          | none => cases ns with
            | nil => cases h1
            | cons _ _ => cases hm
          | some m' =>
            rw [hm] at e
            subst e
            rw [min_uniq hm h1 h2]
            exact q _ H (Same.refl H) (.int _)
  · cases e
end Ice


/-! defs that change a list handed in, and expressions that call them -/
namespace Ice
open PySem PySem.Spec PyProof.Rows L2

/-- all that is not owned stays -/
def Fr (O : Addr → Prop) (H H' : Hp) : Prop := ∀ a o, ¬ O a → H a = some o → H' a = some o
theorem fr_of {O : Addr → Prop} {H H' : Hp} (s : Same H H') : Fr O H H' := fun a o _ e => s a o e
theorem Fr.trans {O : Addr → Prop} {H H1 H2 : Hp} (f : Fr O H H1) (g : Fr O H1 H2) : Fr O H H2 := fun a o c e => g a o c (f a o c e)
theorem fr_keeps {K : PySem.W.Frag} {p0 : Addr} {H0 H H' : Hp} {ok0 O : Addr → Prop} {S : Sl} {σ : L2.St} (r : RO K p0 H0 ok0 O S σ H) (f : Fr O H H') : Keeps (fun a => ex ok0 H0 a ∧ ¬ O a) H H' := fun a o e g =>
  f a o (fun z => by
    obtain ⟨_, vs, e2⟩ := r.own0 a z
    rw [e2] at e
    cases e
    exact g.elim (fun g => g.2 z) fun g => g) e
abbrev Mx := Sl → Option (D × Sl)
abbrev Mxt := Sl → Option (Bool × Sl)
abbrev Mxa := Sl → Option (List D × Sl)
def tX (K : PySem.W.Frag) (m : Mx) : TE := fun σ H Q => ∃ p0 H0 ok0 O S d S', RO K p0 H0 ok0 O S σ H ∧ m S = some (d, S') ∧ ∀ v H', Fr O H H' → RO K p0 H0 ok0 O S' σ H' → Rep K H' (fun a => ex ok0 H0 a ∧ ¬ O a) v d → Q v H'
def tXT (K : PySem.W.Frag) (m : Mxt) : TT := fun σ H Q => ∃ p0 H0 ok0 O S b S', RO K p0 H0 ok0 O S σ H ∧ m S = some (b, S') ∧ ∀ H', Fr O H H' → RO K p0 H0 ok0 O S' σ H' → Q b H'
def tXA (K : PySem.W.Frag) (m : Mxa) : TA := fun σ H Q => ∃ p0 H0 ok0 O S ds S', RO K p0 H0 ok0 O S σ H ∧ m S = some (ds, S') ∧ ∀ vs H', Fr O H H' → RO K p0 H0 ok0 O S' σ H' → Reps K H' (fun a => ex ok0 H0 a ∧ ¬ O a) vs ds → Q vs H'
abbrev Xv (X : Cx) (e : Expr) (m : Mx) : Prop := PE X e (tX X.K m)
abbrev Xt (X : Cx) (e : Expr) (m : Mxt) : Prop := PT X e (tXT X.K m)
abbrev Xw (X : Cx) (e : Expr) (m : Mxt) : Prop := PW X e (tXT X.K m)
abbrev Xa (X : Cx) (es : List Expr) (m : Mxa) : Prop := PA X es (tXA X.K m)
def xP (m : Mi) : Mx := fun S => (m (cl S)).map fun d => (d, S)
def xPF (m : Mi) : Mx := fun S => (m (op S)).bind fun d => if flat d = true then some (d, S) else none
def xT (t : Mt) : Mxt := fun S => (t (op S)).map fun b => (b, S)
def x2 (f : D → D → Option D) (a b : Mx) : Mx := fun S => (a S).bind fun x => (b x.2).bind fun y => (f x.1 y.1).map fun z => (z, y.2)
def x1 (f : D → Option D) (a : Mx) : Mx := fun S => (a S).bind fun x => (f x.1).map fun z => (z, x.2)
def xA (f : List D → Option D) (a : Mxa) : Mx := fun S => (a S).bind fun x => (f x.1).map fun z => (z, x.2)
def xNil : Mxa := fun S => some ([], S)
def xCons (m : Mx) (r : Mxa) : Mxa := fun S => (m S).bind fun x => (r x.2).bind fun y => some (x.1 :: y.1, y.2)
def xB (m : Mx) : Mxt := fun S => (m S).bind fun x => match x.1 with
  | .bl b => some (b, x.2)
  | _ => none
def xAnd (t u : Mxt) : Mxt := fun S => (t S).bind fun x => if x.1 = true then u x.2 else some (false, x.2)
section
variable {K : PySem.W.Frag} {ma mb : Mx} {mr : Mxa} {ta tb : Mxt} {σ : L2.St} {H : Hp}
theorem t_xP {m : Mi} {Q : VK} (h : tX K (xP m) σ H Q) : tE K m σ H Q := by
  obtain ⟨p0, H0, ok0, O, S, d, S', r, e, q⟩ := h
  obtain ⟨x, e1, e⟩ := map_some e
  cases e
  exact ⟨_, _, _, r.closed, e1, fun v H' s rv => q v H' (fr_of s) (r.grow s) (rv.keeps (Same.keeps (Same.refl _)) fun a g => good_new r g)⟩
theorem t_xPF {m : Mi} {Q : VK} (h : tX K (xPF m) σ H Q) : tE K m σ H Q := by
  obtain ⟨p0, H0, ok0, O, S, d, S', r, e, q⟩ := h
  obtain ⟨x, e1, e⟩ := bind_some e
  split at e
  · next fd =>
    cases e
    exact ⟨_, _, _, r.opened, e1, fun v H' s rv => q v H' (fr_of s) (r.grow s) (rv.flat _ _ fd)⟩
  · cases e
theorem t_xT {m : Mt} {Q : Bool → Hp → Prop} (h : tXT K (xT m) σ H Q) : tT K m σ H Q := by
  obtain ⟨p0, H0, ok0, O, S, d, S', r, e, q⟩ := h
  obtain ⟨x, e1, e⟩ := map_some e
  cases e
  exact ⟨_, _, _, r.opened, e1, fun H' s => q H' (fr_of s) (r.grow s)⟩
theorem t_xop {r : R2} {f : D → D → Option D} {Q : VK} (hf : OpD K r f) (h : tX K (x2 f ma mb) σ H Q) : tOp r (tX K ma) (tX K mb) σ H Q := by
  obtain ⟨p0, H0, ok0, O, S, d, S', r0, e, q⟩ := h
  obtain ⟨⟨x, S1⟩, e1, e⟩ := bind_some e
  obtain ⟨⟨y, S2⟩, e2, e⟩ := bind_some e
  obtain ⟨z, e3, e⟩ := map_some e
  cases e
  exact ⟨p0, H0, ok0, O, S, x, S1, r0, e1, fun vx H1 f1 r1 rx => ⟨p0, H0, ok0, O, S1, y, S2, r1, e2, fun vy H2 f2 r2 ry =>
    hf vx vy x y _ H2 _ Q (rx.keeps (fr_keeps r1 f2) fun _ g => g) ry e3 fun v H' s rz => q v H' (f1.trans (f2.trans (fr_of s))) (r2.grow s) (rz.keeps (Same.keeps (Same.refl _)) fun a g => good_new r2 g)⟩⟩
theorem t_xun {r : V → Hp → VK → Prop} {f : D → Option D} {Q : VK} (hf : UnD K r f) (h : tX K (x1 f ma) σ H Q) : tX K ma σ H fun v H1 => r v H1 Q := by
  obtain ⟨p0, H0, ok0, O, S, d, S', r0, e, q⟩ := h
  obtain ⟨⟨x, S1⟩, e1, e⟩ := bind_some e
  obtain ⟨z, e3, e⟩ := map_some e
  cases e
  exact ⟨p0, H0, ok0, O, S, x, S1, r0, e1, fun vx H1 f1 r1 rx => hf vx x _ H1 _ Q rx e3 fun v H' s rz => q v H' (f1.trans (fr_of s)) (r1.grow s) (rz.keeps (Same.keeps (Same.refl _)) fun a g => good_new r1 g)⟩
theorem t_xca {r : List V → Hp → VK → Prop} {f : List D → Option D} {Q : VK} (hf : CaD K r f) (h : tX K (xA f mr) σ H Q) : tXA K mr σ H fun vs H1 => r vs H1 Q := by
  obtain ⟨p0, H0, ok0, O, S, d, S', r0, e, q⟩ := h
  obtain ⟨⟨x, S1⟩, e1, e⟩ := bind_some e
  obtain ⟨z, e3, e⟩ := map_some e
  cases e
  exact ⟨p0, H0, ok0, O, S, x, S1, r0, e1, fun vx H1 f1 r1 rx => hf vx x _ H1 _ Q rx e3 fun v H' s rz => q v H' (f1.trans (fr_of s)) (r1.grow s) (rz.keeps (Same.keeps (Same.refl _)) fun a g => good_new r1 g)⟩
theorem t_xB {Q : Bool → Hp → Prop} (h : tXT K (xB ma) σ H Q) : tX K ma σ H fun v H1 => ∃ x, v = .bl x ∧ Q x H1 := by
  obtain ⟨p0, H0, ok0, O, S, d, S', r0, e, q⟩ := h
  obtain ⟨⟨x, S1⟩, e1, e⟩ := bind_some e
  refine ⟨p0, H0, ok0, O, S, x, S1, r0, e1, fun v H1 f1 r1 rx => ?_⟩
  cases x with
  | bl b => cases e; cases rx; exact ⟨_, rfl, q H1 f1 r1⟩
  | _ => cases e
end
section
variable {X : Cx} {e a b : Expr} {es rest : List Expr} {ma mb : Mx} {mr : Mxa} {ta tb : Mxt} {pos p : Pos} {x : Str} {r : List V → Hp → VK → Prop} {f : List D → Option D} {id T : String}
theorem xv_p {m : Mi} (h : Ev X e m) : Xv X e (xP m) := PE.imp h fun _ _ _ => t_xP
theorem xv_pf {m : Mi} (h : Ev X e m) : Xv X e (xPF m) := PE.imp h fun _ _ _ => t_xPF
theorem xt_p {m : Mt} (h : Et X e m) : Xt X e (xT m) := PT.imp h fun _ _ _ => t_xT
theorem xw_p {m : Mt} (h : Ew X e m) : Xw X e (xT m) := PW.imp h fun _ _ _ => t_xT
theorem xt_w (h : Xw X e ta) : Xt X e ta := PW.pt h
theorem xv_bin {op : Operator} {r : R2} {f : D → D → Option D} (ho : OpR X (binaryOp op) r) (hf : OpD X.K r f) (ha : Xv X a ma) (hb : Xv X b mb) : Xv X (.BinOp a op b pos) (x2 f ma mb) := PE.imp (pe_op ho ha hb) fun _ _ _ h => t_xop hf h
theorem xv_sub {r : R2} {f : D → D → Option D} (hr : IxR X r) (hf : OpD X.K r f) (ha : Xv X a ma) (hb : Xv X b mb) (hs : PlainIx b := by exact fun _ _ => rfl) : Xv X (.Subscript a b pos) (x2 f ma mb) := PE.imp (pe_ix hr ha hb hs) fun _ _ _ h => t_xop hf h
theorem xt_op {op : CmpOp} {r : R2} {f : D → D → Option D} (ho : OpR X (compareOp op) r) (hf : OpD X.K r f) (ha : Xv X a ma) (hb : Xv X b mb) (hm : behindInMarks op b = false := by first | exact nomark _ | rfl) : Xt X (.Compare a [op] [b] pos) (xB (x2 f ma mb)) :=
  PT.imp (pt_cmpR ho ha hb hm) fun σ H Q h => t_xop hf (t_xB h)
theorem xv_cmp {op : CmpOp} {r : R2} {f : D → D → Option D} (ho : OpR X (compareOp op) r) (hf : OpD X.K r f) (ha : Xv X a ma) (hb : Xv X b mb) (hm : behindInMarks op b = false := by first | exact nomark _ | rfl) : Xv X (.Compare a [op] [b] pos) (x2 f ma mb) :=
  PE.imp (pe_cmpR ho ha hb hm) fun _ _ _ h => t_xop hf h
theorem xa_nil : Xa X [] xNil := PA.imp pa_nil fun σ H Q h => by
  obtain ⟨p0, H0, ok0, O, S, d, S', r0, e, q⟩ := h
  cases e
  exact q [] H (fr_of (Same.refl H)) r0 .nil
theorem xa_cons (ha : Xv X e ma) (hr : Xa X es mr) (hs : starEach (e :: es) X.env = (false, eval e X.env) :: starEach es X.env := by rfl) : Xa X (e :: es) (xCons ma mr) := PA.imp (pa_cons ha hr hs) fun σ H Q h => by
  obtain ⟨p0, H0, ok0, O, S, d, S', r0, e, q⟩ := h
  obtain ⟨⟨x, S1⟩, e1, e⟩ := bind_some e
  obtain ⟨⟨y, S2⟩, e2, e⟩ := bind_some e
  cases e
  exact ⟨p0, H0, ok0, O, S, x, S1, r0, e1, fun vx H1 f1 r1 rx => ⟨p0, H0, ok0, O, S1, y, S2, r1, e2, fun vs H2 f2 r2 ry => q _ H2 (f1.trans f2) r2 (.cons (rx.keeps (fr_keeps r1 f2) fun _ g => g) ry)⟩⟩
theorem xv_lst (h : Xa X es mr) : Xv X (.List es pos) (xA lstD mr) := PE.imp (pe_lst h) fun σ H Q hh => by
  refine t_xca (K := X.K) (r := fun xs H1 Q => xs.length ≤ sizeLine ∧ ∀ p, H1 p = none → Q (.ref p) (upd H1 p (.lst xs))) (f := lstD) (fun vs ds z H ok Q r e q => ?_) hh
  unfold lstD at e
  split at e
  · next c =>
    cases e
    refine ⟨by rw [r.length]; exact Nat.le_trans c (by decide), fun p hp => ?_⟩
    have s := same_new (o := .lst vs) hp
    exact q _ _ s (.lst (.inr hp) upd_same (r.keeps (Same.keeps s) ex_of))
  · cases e
theorem xv_tup {k : Nat} (h : Xa X es mr) : Xv X (.Tuple es k pos) (xA tupD mr) := PE.imp (pe_tup h) fun σ H Q hh => by
  refine t_xca (K := X.K) (r := fun xs H1 Q => xs.length ≤ sizeLine ∧ ∀ p, H1 p = none → Q (.ref p) (upd H1 p (.tup xs))) (f := tupD) (fun vs ds z H ok Q r e q => ?_) hh
  unfold tupD at e
  split at e
  · next c =>
    cases e
    refine ⟨by rw [r.length]; exact Nat.le_trans c (by decide), fun p hp => ?_⟩
    have s := same_new (o := .tup vs) hp
    exact q _ _ s (.tup upd_same (r.keeps (Same.keeps s) ex_of))
  · cases e
theorem xv_callB (hc : CallR X (.builtin id) r) (hf : CaD X.K r f) (hg : Gl X x) (hm : X.mg x = none) (hv : bootBuiltins x = some (.builtin id)) (ha : Xa X (e :: es) mr) (hn : x ≠ "__name__" := by decide) (hdb : (x == ("__debug__" : Str)) = false := by decide)
    (he : starEach (e :: es) X.env = (false, eval e X.env) :: starEach es X.env := by rfl) (hpl : (backTo pos (starEach es X.env)).any (·.1) = false := by rfl) : Xv X (.Call (.Name x p) (e :: es) [] pos) (xA f mr) :=
  PE.imp (pe_callB hc hg hm hv ha hn hdb he hpl) fun σ H Q h => t_xca hf h
theorem xv_callT (hc : CallR X (.type T) r) (hf : CaD X.K r f) (hg : Gl X x) (hm : X.mg x = none) (hv : bootBuiltins x = some (.type T)) (ha : Xa X (e :: es) mr) (hn : x ≠ "__name__" := by decide) (hdb : (x == ("__debug__" : Str)) = false := by decide)
    (he : starEach (e :: es) X.env = (false, eval e X.env) :: starEach es X.env := by rfl) (hpl : (backTo pos (starEach es X.env)).any (·.1) = false := by rfl) : Xv X (.Call (.Name x p) (e :: es) [] pos) (xA f mr) :=
  PE.imp (pe_callTy hc hg hm hv ha hn hdb he hpl) fun σ H Q h => t_xca hf h
theorem xw_and1 (h : Xt X a ta) : Xw X (.BoolOp .And [a] pos) ta := pw_and1 h
theorem xw_and (h1 : Xt X a ta) (h2 : Xw X (.BoolOp .And (b :: rest) pos) tb) : Xw X (.BoolOp .And (a :: b :: rest) pos) (xAnd ta tb) := PW.imp (pw_and h1 h2) fun σ H Q hh => by
  obtain ⟨p0, H0, ok0, O, S, d, S', r0, e, q⟩ := hh
  obtain ⟨⟨x, S1⟩, e1, e⟩ := bind_some e
  refine ⟨p0, H0, ok0, O, S, x, S1, r0, e1, fun H1 f1 r1 => ?_⟩
  cases x with
  | true => exact ⟨p0, H0, ok0, O, S1, d, S', r1, e, fun H2 f2 r2 => q H2 (f1.trans f2) r2⟩
  | false => cases e; exact q H1 f1 r1
end

/-! ### calls that change the list lent -/
def nol : Addr → Prop := fun _ => False
def spX (K : PySem.W.Frag) (n : Nat) (g : List D → List D → Option (D × List D)) : Sp := fun vs H Q _ => ∃ p ws ds ok rest as d es, vs = .ref p :: rest ∧ H p = some (.lst ws) ∧ flats ds = true ∧ Reps K H nol ws ds ∧ ¬ ok p ∧ Reps K H ok rest as ∧ as.length + 1 = n ∧ g ds as = some (d, es) ∧
  ∀ v H' us, SameX p H H' → H' p = some (.lst us) → Reps K H' nol us es → Rep K H' nol v d → Q v H'
def xCallG (n : Nat) (g : List D → List D → Option (D × List D)) (ds as : List D) (back : List D → SL) (i : Nat) (S : Sl) : Option (D × Sl) :=
  if flats ds = true ∧ as.length + 1 = n then (g ds as).map fun z => (z.1, S.set i (back z.2)) else none
def xCall (i n : Nat) (g : List D → List D → Option (D × List D)) (mr : Ma) : Mx := fun S => match S[i]? with
  | some (.din ds) => (mr (cl S)).bind fun as => xCallG n g ds as .din i S
  | some (.own ds) => (mr (cl S)).bind fun as => xCallG n g ds as .own i S
  | _ => none
section
variable {X : Cx} {e : Expr} {es : List Expr} {mr : Ma} {pos p p1 : Pos} {x y : Str}
theorem pa_first {i : Nat} (hi : X.N[i]? = some y) (hv : Vis X.env.scope y) (hd : (y == ("__debug__" : Str)) = false) (hcd : (y == ("__classdict__" : Str)) = false) (ha : Ea X es mr)
    (hs : starEach (.Name y p1 :: es) X.env = (false, eval (.Name y p1) X.env) :: starEach es X.env := by rfl) : PA X (.Name y p1 :: es) (tCons (tVar i) (tA X.K mr)) := pa_cons (pe_var hi hv hd hcd) ha hs
theorem fr_ofX {O : Addr → Prop} {H H' : Hp} {a : Addr} (hO : O a) (s : SameX a H H') : Fr O H H' := fun b o c e => s b o (fun z => c (by rw [z]; exact hO)) e
theorem xv_call {k j n : Nat} {g : List D → List D → Option (D × List D)} (i : Nat) (c : C8.Cal X.prog X.w X.K X.mg X.base k x (spX X.K n g) []) (hr : Room j X.A) (hk : k ≤ j) (hg : Gl X x) (ha : Ea X es mr)
    (hi : X.N[i]? = some y := by rfl) (hv : Vis X.env.scope y := by first | exact Or.inl rfl | exact Or.inr (Or.inl rfl) | exact Or.inr (Or.inr rfl)) (hd : (y == ("__debug__" : Str)) = false := by decide) (hcd : (y == ("__classdict__" : Str)) = false := by decide)
    (hs : starEach (.Name y p1 :: es) X.env = (false, eval (.Name y p1) X.env) :: starEach es X.env := by rfl)
    (hdb : (x == ("__debug__" : Str)) = false := by decide) (hpl : (backTo pos (starEach es X.env)).any (·.1) = false := by rfl) :
    Xv X (.Call (.Name x p) (.Name y p1 :: es) [] pos) (xCall i n g mr) := PE.imp (C8.pe_c c hr hk hg (pa_first hi hv hd hcd ha hs) hdb hs hpl) fun σ H Q h => by
  obtain ⟨p0, H0, ok0, O, S, d, S', r0, e, q⟩ := h
  unfold xCall at e
  split at e
  · next ds hS =>
    obtain ⟨as, e1, e⟩ := bind_some e
    unfold xCallG at e
    split at e
    · next c =>
      obtain ⟨⟨z, zs⟩, e2, e⟩ := map_some e
      cases e
      obtain ⟨ws, h1, h2, h3, h4⟩ := r0.din i ds hS
      refine ⟨_, h1, _, _, as, r0.closed, e1, fun vs H1 s1 rs => ?_⟩
      have r1 := r0.grow s1
      have rs' : Reps X.K H1 (fun a => ex ok0 H0 a ∧ ¬ O a) vs as := rs.keeps (Same.keeps (Same.refl _)) fun a g => good_new r0 g
      refine ⟨p0, ws, ds, _, vs, as, _, zs, by rw [List.append_nil], s1 _ _ h3, c.1, (h4.keeps (Same.keeps s1) fun _ g => g).flat _ _ c.1, fun g => g.2 h2, rs', c.2, e2, fun v H' us sx hp ru rv => ?_⟩
      exact q v H' ((fr_of s1).trans (fr_ofX h2 sx)) (r1.updDin hS sx hp (ru.keeps (Same.keeps (Same.refl _)) fun _ g => g.elim)) (rv.keeps (Same.keeps (Same.refl _)) fun _ g => g.elim)
    · cases e
  · next ds hS =>
    obtain ⟨as, e1, e⟩ := bind_some e
    unfold xCallG at e
    split at e
    · next c =>
      obtain ⟨⟨z, zs⟩, e2, e⟩ := map_some e
      cases e
      obtain ⟨a, ws, h1, h2, h3, h4⟩ := r0.own i ds hS
      refine ⟨_, h1, _, _, as, r0.closed, e1, fun vs H1 s1 rs => ?_⟩
      have r1 := r0.grow s1
      have rs' : Reps X.K H1 (fun a => ex ok0 H0 a ∧ ¬ O a) vs as := rs.keeps (Same.keeps (Same.refl _)) fun a g => good_new r0 g
      refine ⟨a, ws, ds, _, vs, as, _, zs, by rw [List.append_nil], s1 _ _ h3, c.1, (h4.keeps (Same.keeps s1) fun _ g => g).flat _ _ c.1, fun g => g.2 h2, rs', c.2, e2, fun v H' us sx hp ru rv => ?_⟩
      exact q v H' ((fr_of s1).trans (fr_ofX h2 sx)) (r1.updOwn hS h1 sx hp (ru.keeps (Same.keeps (Same.refl _)) fun _ g => g.elim)) (rv.keeps (Same.keeps (Same.refl _)) fun _ g => g.elim)
    · cases e
  · cases e
end
end Ice

/-! statements with such calls, such defs -/
namespace Ice
open PySem PySem.Spec PyProof.Rows L2

def ySet (i : Nat) (m : Mx) : Ms := fun S => (m S).map fun x => .nx (x.2.set i (.dat x.1))
def yRet (m : Mx) : Ms := fun S => (m S).map fun x => .rt x.1 x.2
def yDrop (m : Mx) : Ms := fun S => (m S).map fun x => .nx x.2
def yIf (t : Mxt) (a b : Ms) : Ms := fun S => (t S).bind fun x => if x.1 = true then a x.2 else b x.2
def yApp (i : Nat) (m : Mx) : Ms := fun S => match S[i]? with
  | some (.own _) => (m S).bind fun x => match x.2[i]? with
    | some (.own ds) => if ds.length < 1000000 then some (.nx (x.2.set i (.own (ds ++ [x.1])))) else none
    | _ => none
  | _ => none
def ySub (i : Nat) (mi m : Mi) : Ms := fun S => (m (op S)).bind fun d => if flat d = true then (mi (cl S)).bind fun k => match k with
  | .int k => match S[i]? with
    | some (.din ds) => (ixN ds.length k).map fun j => .nx (S.set i (.din (ds.set j d)))
    | some (.own ds) => (ixN ds.length k).map fun j => .nx (S.set i (.own (ds.set j d)))
    | _ => none
  | _ => none else none
def yRev (i : Nat) : Ms := fun S => match S[i]? with
  | some (.own ds) => some (.nx (S.set i (.own ds.reverse)))
  | _ => none
def yOwn (i n : Nat) (g : List D → Option D) (mr : Ma) : Ms := fun S => (mr (cl S)).bind fun as => if flats as = true ∧ as.length = n then (g as).bind fun d => match d with
  | .lst ds => if flats ds = true then some (.nx (S.set i (.own ds))) else none
  | _ => none else none
theorem Reps.set {K : PySem.W.Frag} {ok : Addr → Prop} {H : Hp} {v : V} {d : D} (a : Rep K H ok v d) : ∀ {vs : List V} {ds : List D} (j : Nat), Reps K H ok vs ds → Reps K H ok (vs.set j v) (ds.set j d)
  | _, _, _, .nil => .nil
  | _, _, 0, .cons _ r => .cons a r
  | _, _, j + 1, .cons b r => .cons b (Reps.set a j r)
section
variable {X : Cx} {st : Stmt} {a b : List Stmt} {e c : Expr} {es : List Expr} {me : Mx} {t : Mxt} {m1 m2 : Ms} {pos pos' p1 p2 p3 p : Pos} {x y : Str} {mr : Ma}
theorem ys_set (i : Nat) (hN : X.N.Nodup) (he : Xv X e me) (hi : X.N[i]? = some x := by rfl) (hx : Loc X.env.scope x := by first | exact Or.inl rfl | exact Or.inr rfl) (hs : swapsWith e (some (.Name x pos')) pos.line X.env = pure false := by rfl)
    (hf : X.fn x = true ∨ X.env.scope.names.lookup x = some .local := by first | exact .inl rfl | exact .inr rfl) : Es X (.Assign [.Name x pos'] e pos) (ySet i me) := PS.imp (ps_set hN hi hx he hs hf) fun E σ H h => by
  obtain ⟨p0, H0, ok0, S, o, ⟨O, r⟩, m, q⟩ := h
  obtain ⟨⟨d, S1⟩, e1, m⟩ := map_some m
  subst m
  exact ⟨p0, H0, ok0, O, S, d, S1, r, e1, fun v H' f r' rv => q _ H' ⟨O, r'.put rv⟩⟩
theorem ys_ret (he : Xv X e me) : Es X (.Return (some e) pos) (yRet me) := PS.imp (ps_ret he) fun E σ H h => by
  obtain ⟨p0, H0, ok0, S, o, ⟨O, r⟩, m, q⟩ := h
  obtain ⟨⟨d, S1⟩, e1, m⟩ := map_some m
  subst m
  exact ⟨p0, H0, ok0, O, S, d, S1, r, e1, fun v H' f r' rv => q v σ H' ⟨O, r'⟩ (rv.keeps (Same.keeps (Same.refl _)) fun _ g => g.1)⟩
theorem ys_drop (he : Xv X e me) (hs : swapsWith e none pos.line X.env = pure false := by rfl) : Es X (.Expr e pos) (yDrop me) := PS.imp (ps_expr he hs) fun E σ H h => by
  obtain ⟨p0, H0, ok0, S, o, ⟨O, r⟩, m, q⟩ := h
  obtain ⟨⟨d, S1⟩, e1, m⟩ := map_some m
  subst m
  exact ⟨p0, H0, ok0, O, S, d, S1, r, e1, fun v H' f r' rv => q σ H' ⟨O, r'⟩⟩
theorem ys_if (hc : Xt X c t) (ha : Ess X a m1) (hb : Ess X b m2) : Es X (.If c a b pos) (yIf t m1 m2) := PS.imp (ps_if hc ha hb) fun E σ H h => by
  obtain ⟨p0, H0, ok0, S, o, ⟨O, r⟩, m, q⟩ := h
  obtain ⟨⟨d, S1⟩, e1, m⟩ := bind_some m
  refine ⟨p0, H0, ok0, O, S, d, S1, r, e1, fun H' f r' => ?_⟩
  cases d with
  | true => exact ⟨p0, H0, ok0, S1, o, ⟨O, r'⟩, m, q⟩
  | false => exact ⟨p0, H0, ok0, S1, o, ⟨O, r'⟩, m, q⟩
theorem ye_app (i : Nat) (he : Xv X e me) (hi : X.N[i]? = some x := by rfl) (hv : Vis X.env.scope x := by first | exact Or.inl rfl | exact Or.inr (Or.inl rfl) | exact Or.inr (Or.inr rfl))
    (hd : (x == ("__debug__" : Str)) = false := by decide) (hcd : (x == ("__classdict__" : Str)) = false := by decide)
    (hbase : attributeBase (.Name x p1) "append" X.env (eval (.Name x p1) X.env) = eval (.Name x p1) X.env := by rfl)
    (hfew : ((backTo p3 (starEach [e] X.env)).all (fun x => !x.1) && (backToKw p3 (keywordEach [] X.env)).all (fun x => x.1.isSome) && decide ([e].length + ([] : List Keyword).length + (if ([] : List Keyword).isEmpty then 0 else 1) < 30)) = true := by rfl)
    (hline : (p2.endLine == p3.line) = true := by rfl) (hs : starEach [e] X.env = (false, eval e X.env) :: starEach [] X.env := by rfl) (hplain : (backTo p3 (starEach [] X.env)).any (fun x => x.1) = false := by rfl) :
    PE X (.Call (.Attribute (.Name x p1) "append" p2) [e] [] p3) (tBM X.K "list" rAppend (tVar i) (tXA X.K (xCons me xNil))) :=
  pe_bm PySem.F.plainAttrs_list PySem.F.slot_list_append PySem.F.type_list_append mt_append (pe_var hi hv hd hcd) (xa_cons he xa_nil hs) hbase hfew hline hs hplain
theorem ys_app (i : Nat) (h : PE X (.Call (.Attribute (.Name x p1) "append" p2) [e] [] p3) (tBM X.K "list" rAppend (tVar i) (tXA X.K (xCons me xNil))))
    (hs : swapsWith (.Call (.Attribute (.Name x p1) "append" p2) [e] [] p3) none pos.line X.env = pure false := by rfl) : Es X (.Expr (.Call (.Attribute (.Name x p1) "append" p2) [e] [] p3) pos) (yApp i me) := PS.imp (ps_expr h hs) fun E σ H hh => by
  obtain ⟨p0, H0, ok0, S, o, ⟨O, r⟩, m, q⟩ := hh
  unfold yApp at m
  split at m
  · next ds0 hS0 =>
    obtain ⟨⟨d, S1⟩, e1, m⟩ := bind_some m
    obtain ⟨p, vs, h1, h2, h3, h4⟩ := r.own i ds0 hS0
    refine ⟨_, h1, .inl ⟨rfl, _, SqL.of h3⟩, p0, H0, ok0, O, S, [d], S1, r, ?_, fun us H' f r' ru => ?_⟩
    · show (me S).bind (fun x => (xNil x.2).bind fun y => some (x.1 :: y.1, y.2)) = some ([d], S1)
      rw [e1]
      rfl
    · cases ru with
      | cons rv ru =>
        cases ru
        split at m
        · next ds hS =>
          split at m
          · next hl =>
            cases m
            obtain ⟨p', ws, g1, g2, g3, g4⟩ := r'.own i ds hS
            have g1' := g1
            rw [h1] at g1'
            cases g1'
            refine ⟨_, ws, _, rfl, rfl, g3, ?_, q σ _ ⟨O, r'.app hS g1 g3 rv⟩⟩
            rw [g4.length]
            exact Nat.lt_trans hl (by decide)
          · cases m
        · cases m
  · cases m
theorem ys_sub {ix : Expr} {mi m : Mi} (i : Nat) (he : Ev X e m) (hix : Ev X ix mi) (hi : X.N[i]? = some x := by rfl) (hv : Vis X.env.scope x := by first | exact Or.inl rfl | exact Or.inr (Or.inl rfl) | exact Or.inr (Or.inr rfl))
    (hd : (x == ("__debug__" : Str)) = false := by decide) (hcd : (x == ("__classdict__" : Str)) = false := by decide)
    (ha : ∀ v, assign (.Subscript (.Name x p1) ix p2) X.env v = (do
      let ov ← holding [v] (eval (.Name x p1) X.env)
      let iv ← holding [v, ov] (eval ix X.env)
      standAt p2
      holding [v, ov, iv] (setItem ov iv v)
      release [v, ov, iv] []) := by intro _; rfl)
    (hs : swapsWithSole [.Subscript (.Name x p1) ix p2] e pos.line X.env = pure false := by rfl) (hw : swappedStores [.Subscript (.Name x p1) ix p2] e X.env = pure none := by rfl) (h1 : (assignEach [.Subscript (.Name x p1) ix p2] X.env).map (fun x => x.2) = [assign (.Subscript (.Name x p1) ix p2) X.env] := by rfl) :
    Es X (.Assign [.Subscript (.Name x p1) ix p2] e pos) (ySub i mi m) :=
  PS.imp (ps_asg he (pg_sub (pe_var hi hv hd hcd) hix set_list ha) hs hw h1) fun E σ H h => by
    obtain ⟨p0, H0, ok0, S, o, ⟨O, r⟩, m, q⟩ := h
    obtain ⟨d, e1, m⟩ := bind_some m
    split at m
    · next fd =>
      obtain ⟨k, e2, m⟩ := bind_some m
      refine ⟨_, _, d, r.opened, e1, fun v H1 s1 rv => ?_⟩
      have r1 := r.grow s1
      split at m
      · next k =>
        split at m
        · next ds hS =>
          obtain ⟨j, ej, m⟩ := map_some m
          subst m
          obtain ⟨ws, g1, g2, g3, g4⟩ := r1.din i ds hS
          refine ⟨_, g1, _, _, _, r1.closed, e2, fun vk H2 s2 rk => ?_⟩
          cases rk
          have r2 := r1.grow s2
          obtain ⟨ws', f1, f2, f3, f4⟩ := r2.din i ds hS
          have rv2 : Rep X.K (upd H2 p0 (.lst (ws'.set j v))) (fun a => ex ok0 H0 a ∧ ¬ O a) v d := ((rv.keeps (Same.keeps s2) fun _ g => g).flat (ok' := fun a => ex ok0 H0 a ∧ ¬ O a) _ _ fd).keeps (r2.keepX f2 f3 sameX_upd) fun _ g => g
          exact ⟨p0, ws', k, j, rfl, rfl, f3, by rw [f4.length]; exact ej, q σ _ ⟨O, r2.updDin hS sameX_upd upd_same (Reps.set rv2 j (f4.keeps (r2.keepX f2 f3 sameX_upd) fun _ g => g))⟩⟩
        · next ds hS =>
          obtain ⟨j, ej, m⟩ := map_some m
          subst m
          obtain ⟨a, ws, g1, g2, g3, g4⟩ := r1.own i ds hS
          refine ⟨_, g1, _, _, _, r1.closed, e2, fun vk H2 s2 rk => ?_⟩
          cases rk
          have r2 := r1.grow s2
          have f3 := s2 _ _ g3
          have f4 := g4.keeps (Same.keeps s2) fun _ g => g
          have rv2 : Rep X.K (upd H2 a (.lst (ws.set j v))) (fun a => ex ok0 H0 a ∧ ¬ O a) v d := ((rv.keeps (Same.keeps s2) fun _ g => g).flat (ok' := fun a => ex ok0 H0 a ∧ ¬ O a) _ _ fd).keeps (r2.keepX g2 f3 sameX_upd) fun _ g => g
          exact ⟨a, ws, k, j, rfl, rfl, f3, by rw [f4.length]; exact ej, q σ _ ⟨O, r2.updOwn hS g1 sameX_upd upd_same (Reps.set rv2 j (f4.keeps (r2.keepX g2 f3 sameX_upd) fun _ g => g))⟩⟩
        · cases m
      · cases m
    · cases m
theorem ys_rev (i : Nat) (hi : X.N[i]? = some x := by rfl) (hv : Vis X.env.scope x := by first | exact Or.inl rfl | exact Or.inr (Or.inl rfl) | exact Or.inr (Or.inr rfl))
    (hd : (x == ("__debug__" : Str)) = false := by decide) (hcd : (x == ("__classdict__" : Str)) = false := by decide)
    (hbase : attributeBase (.Name x p1) "reverse" X.env (eval (.Name x p1) X.env) = eval (.Name x p1) X.env := by rfl) (hline : (p2.endLine == p3.line) = true := by rfl)
    (hs : swapsWith (.Call (.Attribute (.Name x p1) "reverse" p2) [] [] p3) none pos.line X.env = pure false := by rfl) : Es X (.Expr (.Call (.Attribute (.Name x p1) "reverse" p2) [] [] p3) pos) (yRev i) :=
  PS.imp (ps_expr (pe_bm0 PySem.F.plainAttrs_list PySem.F.slot_list_reverse PySem.F.type_list_reverse mt_reverse (pe_var hi hv hd hcd) hbase hline) hs) fun E σ H hh => by
  obtain ⟨p0, H0, ok0, S, o, ⟨O, r⟩, m, q⟩ := hh
  unfold yRev at m
  split at m
  · next ds hS =>
    cases m
    obtain ⟨p, vs, h1, h2, h3, h4⟩ := r.own i ds hS
    exact ⟨_, h1, .inl ⟨rfl, _, SqL.of h3⟩, p, vs, rfl, rfl, h3, q σ _ ⟨O, r.updOwn hS h1 sameX_upd upd_same (Reps.reverse (h4.keeps (r.keepX h2 h3 sameX_upd) fun _ g => g))⟩⟩
  · cases m
theorem ys_own {k j n : Nat} {g : List D → Option D} (i : Nat) (hN : X.N.Nodup) (cc : C8.Cal X.prog X.w X.K X.mg X.base k y (spD X.K n g) []) (hr : Room j X.A) (hk : k ≤ j) (hg : Gl X y) (ha : Ea X (e :: es) mr)
    (hi : X.N[i]? = some x := by rfl) (hx : Loc X.env.scope x := by first | exact Or.inl rfl | exact Or.inr rfl) (hs : swapsWith (.Call (.Name y p) (e :: es) [] p1) (some (.Name x pos')) pos.line X.env = pure false := by rfl)
    (hf : X.fn x = true ∨ X.env.scope.names.lookup x = some .local := by first | exact .inl rfl | exact .inr rfl)
    (hdb : (y == ("__debug__" : Str)) = false := by decide) (he : starEach (e :: es) X.env = (false, eval e X.env) :: starEach es X.env := by rfl) (hpl : (backTo p1 (starEach es X.env)).any (·.1) = false := by rfl) :
    Es X (.Assign [.Name x pos'] (.Call (.Name y p) (e :: es) [] p1) pos) (yOwn i n g mr) := PS.imp (ps_set hN hi hx (C8.pe_c cc hr hk hg ha hdb he hpl) hs hf) fun E σ H h => by
  obtain ⟨p0, H0, ok0, S, o, ⟨O, r⟩, m, q⟩ := h
  obtain ⟨as, e1, m⟩ := bind_some m
  split at m
  · next c =>
    obtain ⟨d, e2, m⟩ := bind_some m
    split at m
    · next ds =>
      split at m
      · next fd =>
        cases m
        refine ⟨_, _, as, r.closed, e1, fun vs H1 s1 rs => ⟨as, fun _ => False, _, by rw [List.append_nil]; exact rs.flat _ _ c.1, c.2, e2, fun v H' s rv => ?_⟩⟩
        cases rv with
        | lst g h rr => exact q _ H' ⟨_, (r.grow s1).putOwn (g.elim (fun z => z.elim) fun z => z) h s fd rr⟩
      · cases m
    · cases m
  · cases m
end

/-! ### the defs -/
def initX (n : Nat) (ds as : List D) : Sl := .din ds :: (as.map .dat ++ List.replicate (n - 1 - as.length) .un)
def endX (d : D) (S : Sl) : Option (D × List D) := match S.head? with
  | some (.din es) => if flat d = true ∧ flats es = true then some (d, es) else none
  | _ => none
def outX : Out → Option (D × List D)
  | .rt d S => endX d S
  | .nx S => endX .non S
  | _ => none
def runX (n : Nat) (m : Ms) (ds as : List D) : Option (D × List D) := (m (initX n ds as)).bind outX
theorem init_ROX {K : PySem.W.Frag} {p : Addr} {H : Hp} {ok : Addr → Prop} {ws rest : List V} {ds as : List D} {N : List Str} (hN : N.length ≠ 0) (hp : H p = some (.lst ws)) (fd : flats ds = true) (rd : Reps K H nol ws ds) (hn : ¬ ok p) (r : Reps K H ok rest as) :
    RO K p (off H fun a => a = p) ok (fun a => a = p) (initX N.length ds as) (L2.start N (.ref p :: rest)) H := by
  have hl : rest.length = as.length := r.length
  have at_ : ∀ (i : Nat) (s : SL), (initX N.length ds as)[i]? = some s → s ≠ .un → (i = 0 ∧ s = .din ds) ∨ ∃ j d, i = j + 1 ∧ s = .dat d ∧ as[j]? = some d := fun i s h hs => by
    cases i with
    | zero => exact .inl ⟨rfl, (Option.some.inj h).symm⟩
    | succ i =>
      have h' : (as.map SL.dat ++ List.replicate (N.length - 1 - as.length) .un)[i]? = some s := h
      by_cases c : i < as.length
      · rw [List.getElem?_append_left (by rw [List.length_map]; exact c), List.getElem?_map] at h'
        cases e : as[i]? with
        | none => rw [e] at h'; cases h'
        | some d => rw [e] at h'; exact .inr ⟨i, d, rfl, (Option.some.inj h').symm, e⟩
      · rw [List.getElem?_append_right (by rw [List.length_map]; omega), List.getElem?_replicate] at h'
        split at h'
        · cases h'; exact absurd rfl hs
        · cases h'
  have sm : Same (off H fun a => a = p) H := fun a o e => (off_some e).2
  refine ⟨sm, ?_, fun a h => by rw [h]; exact ⟨off_in rfl, ws, hp⟩, fun i d h => ?_, fun i es h => ?_, fun i j es fs q ne h h2 => ?_, fun i es h => ?_, fun i j es fs h h2 => ?_, fun i j es fs h h2 => ?_⟩
  · unfold initX L2.start
    simp only [List.length_cons, List.length_append, List.length_map, List.length_replicate, hl]
    omega
  · rcases at_ i _ h (by intro z; cases z) with ⟨_, e⟩ | ⟨j, d', rfl, e, e2⟩
    · cases e
    · cases e
      obtain ⟨v, h1, h2⟩ := r.get e2
      have hi : j < rest.length := (List.getElem?_eq_some_iff.mp h1).1
      refine ⟨v, ?_, (Rep.dom _ _ h2).keeps (Same.keeps (Same.refl _)) fun a g => ⟨.inl g.1, fun z => hn (by rw [← z]; exact g.1)⟩⟩
      unfold L2.start
      rw [List.getElem?_append_left (by rw [List.length_map]; exact Nat.succ_lt_succ hi), List.getElem?_map]
      show (rest[j]?).map some = _
      rw [h1]
      rfl
  · rcases at_ i _ h (by intro z; cases z) with ⟨_, e⟩ | ⟨j, d', rfl, e, e2⟩ <;> cases e
  · rcases at_ i _ h (by intro z; cases z) with ⟨_, e⟩ | ⟨j, d', rfl, e, e2⟩ <;> cases e
  · rcases at_ i _ h (by intro z; cases z) with ⟨rfl, e⟩ | ⟨j, d', rfl, e, e2⟩
    · cases e
      exact ⟨ws, rfl, rfl, hp, rd.keeps (Same.keeps (Same.refl _)) fun _ g => g.elim⟩
    · cases e
  · rcases at_ i _ h (by intro z; cases z) with ⟨_, e⟩ | ⟨j, d', rfl, e, e2⟩ <;> cases e
  · rcases at_ i _ h (by intro z; cases z) with ⟨rfl, e⟩ | ⟨_, d', rfl, e, e2⟩
    · rcases at_ j _ h2 (by intro z; cases z) with ⟨rfl, e⟩ | ⟨_, d', rfl, e, e2⟩
      · rfl
      · cases e
    · cases e
section
variable {P : Program} {w : World} {K : PySem.W.Frag} {mg : Str → Option Value} {base : Heap} {x qual : Str} {st : Stmt} {f : Addr} {fd : FuncData} {N ps : List Str} {k : Nat} {mb : Ms}
theorem fn_okX (F : Fun K x qual st f fd) (S : FnScope N ps (defScope st)) (hN : N.length ≠ 0)
    (hb : ∀ (cdv : Value) (A : Around) (outer : List Env) (s : Shared) (H : Hp) (E : XK), Room k (A.deeper (envOfC qual (defScope st) s.heap.objs.size f cdv)) → Ess (cxOf CX0 P w K mg base N qual (defScope st) f cdv A outer s H E).nox (defBody st) mb) :
    FnOk P w K mg base CX0 (k + 1) f fd ps (spX K ps.length (runX N.length mb)) := by
  refine F.ok S (fun vs H Q E h => ?_) (fun cdv A outer s H vs Q E hr h => ?_)
  · obtain ⟨p, ws, ds, ok, rest, as, d, es, rfl, _, _, _, _, r, hl, _⟩ := h
    rw [List.length_cons, r.length, hl]
  · obtain ⟨p, ws, ds, ok, rest, as, d, es, rfl, hp, fd, rd, hn, r, hl, hg, q⟩ := h
    obtain ⟨o, e1, e2⟩ := bind_some hg
    have fin : ∀ (v : V) (d' : D) (S' : Sl) (σ' : L2.St) (H' : Hp), RS K p (off H fun a => a = p) ok S' σ' H' → Rep K H' (ex ok (off H fun a => a = p)) v d' → endX d' S' = some (d, es) → Q v H' := fun v d' S' σ' H' ⟨O, r'⟩ rv e => by
      unfold endX at e
      split at e
      · next gs hS =>
        split at e
        · next c =>
          cases e
          obtain ⟨us, g1, g2, g3, g4⟩ := r'.din 0 _ (by rw [← List.head?_eq_getElem?]; exact hS)
          exact q v H' us (fun a o ne e => r'.same a o ((off_of (H := H) (O := fun a => a = p) ne).trans e)) g3 (g4.flat _ _ c.2) (rv.flat _ _ c.1)
        · cases e
      · cases e
    refine ⟨_, hb cdv A outer s H E hr, p, _, ok, _, o, ⟨_, init_ROX hN hp fd rd hn r⟩, e1, ?_⟩
    cases o with
    | rt d' S' => exact fun v σ' H' r' rv => fin v d' S' σ' H' r' rv e2
    | nx S' => exact fun σ' H' r' => fin .non .non S' σ' H' r' .non e2
    | bk S' => cases e2
    | ct S' => cases e2
end

/-! ### more words -/
def divW : D → D → Option D
  | .int i, .int j => if 0 < j ∧ j < 18446744073709551616 then some (.int (i / j)) else none
  | _, _ => none
def intB : List D → Option D
  | [.bl k] => some (.int (if k then 1 else 0))
  | _ => none
section
variable {K : PySem.W.Frag}
theorem od_divW : OpD K (rI CDivW fun i j => .int (i / j)) divW := odI fun x y z e => by
  unfold divW at e
  split at e
  · next i j =>
    by_cases c : 0 < j ∧ j < 18446744073709551616
    · rw [if_pos c] at e
      cases e
      exact ⟨i, j, rfl, rfl, wide_div (b := 64) c.1 (by omega) (by omega) (by omega), fun _ _ => .int _⟩
    · rw [if_neg c] at e
      cases e
  · cases e
theorem cd_intB : CaD K (fun xs H Q => (∃ i, xs = [.int i] ∧ Q (.int i) H) ∨ ∃ k, xs = [.bl k] ∧ Q (.int (if k then 1 else 0)) H) intB := fun vs ds z H ok Q rs e q => by
  cases rs with
  | nil => cases e
  | cons a r =>
    cases r with
    | nil =>
      cases a with
      | bl k => cases e; exact .inr ⟨k, rfl, q _ H (Same.refl H) (.int _)⟩
      | _ => cases e
    | cons a2 r2 => cases a <;> cases e
end
section
variable {X : Cx} {a b : Expr} {ma mb : Mi} {pos : Pos}
theorem ev_divW (ha : Ev X a ma) (hb : Ev X b mb) : Ev X (.BinOp a .FloorDiv b pos) (m2 divW ma mb) := ev_bin op_fdivW od_divW ha hb
end
end Ice

/-! len of a dict; a pair of an own list to names -/
namespace Ice
open PySem PySem.Spec PyProof.Rows L2
def lenA : List D → Option D
  | [.tup ds] => some (.int ds.length)
  | [.lst ds] => some (.int ds.length)
  | [.fz ds] => some (.int ds.length)
  | [.dic ks _] => some (.int ks.length)
  | _ => none
theorem cd_lenA {K : PySem.W.Frag} : CaD K (fun xs H Q => (∃ p ys, xs = [.ref p] ∧ (SqL K H p ys ∨ SqT K H p ys) ∧ Q (.int ys.length) H) ∨ rLenT xs H Q) lenA := fun vs ds z H ok Q rs e q => by
  cases rs with
  | nil => cases e
  | cons a r =>
    cases r with
    | nil =>
      cases a with
      | tup h r => cases e; exact .inl ⟨_, _, rfl, .inr (SqT.of h), by rw [r.length]; exact q _ H (Same.refl H) (.int _)⟩
      | lst o h r => cases e; exact .inl ⟨_, _, rfl, .inl (SqL.of h), by rw [r.length]; exact q _ H (Same.refl H) (.int _)⟩
      | fz h r => cases e; exact .inl ⟨_, _, rfl, Or.inl h.sq, by rw [r.length]; exact q _ H (Same.refl H) (.int _)⟩
      | dic o h l r =>
        cases e
        refine .inr ⟨_, _, rfl, h, ?_⟩
        rw [List.length_zip, ← l, Nat.min_self]
        exact q _ H (Same.refl H) (.int _)
      | _ => cases e
    | cons a2 r2 => cases a <;> cases e
def sUnpF (t : Tg) (m : Mi) : Ms := fun S => (m (op S)).bind fun d => if flat d = true then (asgL t d S).map .nx else none
section
variable {X : Cx} {e : Expr} {pos : Pos}
theorem es_unpF {tg : Expr} {me : Mi} {t : Tg} (he : Ev X e me) (hg : El X tg t) (hs : swapsWithSole [tg] e pos.line X.env = pure false := by rfl) (hw : swappedStores [tg] e X.env = pure none := by rfl) (h1 : (assignEach [tg] X.env).map (fun x => x.2) = [assign tg X.env] := by rfl) : Es X (.Assign [tg] e pos) (sUnpF t me) :=
  PS.imp (ps_asg he hg hs hw (h1 := h1)) fun E σ H h => by
    obtain ⟨p0, H0, ok0, S, o, ⟨O, r⟩, m, q⟩ := h
    obtain ⟨d, e1, m⟩ := bind_some m
    split at m
    · next fd =>
      obtain ⟨S1, e2, m⟩ := map_some m
      subst m
      exact ⟨_, _, d, r.opened, e1, fun v H' s rv => ⟨p0, H0, ok0, O, S, d, S1, r.grow s, rv.flat _ _ fd, e2, fun σ' r' => q σ' H' ⟨O, r'⟩⟩⟩
    · cases m
end
end Ice

/-! the head: facts by names, one more look -/
namespace Ice
open PySem PySem.Spec PyProof.Rows L2
abbrev AlI : Type := He.Al × Bool
def obI (n : Nat) (fa : List He.Fa) (fn : List He.FnD) (ex : PySem.W.Frag → Bool) (g : Addr → Option Obj) : AlI := (He.obsE fa fn (He.frG g (He.asG g n)), ex (He.frG g (He.asG g n)))
def hookI (n : Nat) (fa : List He.Fa) (fn : List He.FnD) (ex : PySem.W.Frag → Bool) : PySem.W.Hook where
  α := AlI
  obs := fun s => obI n fa fn ex s.heap.get?
  val := fun _ => (He.valE fn, true)
  says := fun _ h => ∃ K : PySem.W.Frag, K.In h ∧ He.SaysE fa fn K ∧ ex K = true
  of := fun _ _ e => ⟨_, He.frG_in, congrArg (fun z : AlI => z.1) e, congrArg (fun z : AlI => z.2) e⟩
  keeps := fun _ _ _ ⟨K, hK, c, d⟩ k => ⟨K, PySem.W.Frag.In.keeps hK k, c, d⟩
theorem obI_eq {n : Nat} {fa : List He.Fa} {fn : List He.FnD} {ex : PySem.W.Frag → Bool} {g : Addr → Option Obj} {s : Shared} (h : ∀ a, g a = s.heap.get? a) : obI n fa fn ex g = (hookI n fa fn ex).obs s := by
  have e : g = s.heap.get? := funext h
  rw [e] <;> rfl
/-! data of the written part -/
def vOf : Value → V
  | .int i _ => .int i
  | .ref a => .ref a
  | _ => .non
mutual
def wtB (K : PySem.W.Frag) : Value → D → Bool
  | .int j _, .int i => decide (j = i)
  | .ref a, .wt ds => match K.lookup a with
    | some ⟨.type c, _, .seq its _, _⟩ => decide (c = "tuple") && (decide (its.size ≤ sizeLine) && wtsB K its.toList ds)
    | _ => false
  | _, _ => false
def wtsB (K : PySem.W.Frag) : List Value → List D → Bool
  | [], [] => true
  | v :: vs, d :: ds => wtB K v d && wtsB K vs ds
  | _, _ => false
end
mutual
theorem wtB_ok {K : PySem.W.Frag} {H : Hp} {ok : Addr → Prop} : ∀ (d : D) (v : Value), wtB K v d = true → Rep K H ok (vOf v) d ∧ RelV (vOf v) v
  | .int i, v, h => by
    cases v with
    | int j t =>
      have h' : decide (j = i) = true := by unfold wtB at h; exact h
      have e := of_decide_eq_true h'
      subst e
      exact ⟨.int _, t, rfl⟩
    | _ => unfold wtB at h; cases h
  | .wt ds, v, h => by
    cases v with
    | ref a =>
      unfold wtB at h
      cases q : K.lookup a with
      | none => rw [q] at h; cases h
      | some o =>
        obtain ⟨oc, od, dt, osl⟩ := o
        rw [q] at h
        cases oc with
        | type c =>
          cases dt with
          | seq its n =>
            obtain ⟨h1, h2⟩ := He.ba (show (decide (c = "tuple") && (decide (its.size ≤ sizeLine) && wtsB K its.toList ds)) = true from h)
            obtain ⟨h3, h4⟩ := He.ba h2
            obtain ⟨r, z⟩ := wtsB_ok ds its.toList h4
            exact ⟨.wt (.inr ⟨_, its, n, q, congrArg Value.type (of_decide_eq_true h1), rfl, of_decide_eq_true h3, z⟩) r, rfl⟩
          | _ => cases h
        | _ => cases dt <;> cases h
    | _ => unfold wtB at h; cases h
  | .non, v, h => by cases v <;> (unfold wtB at h; cases h)
  | .bl _, v, h => by cases v <;> (unfold wtB at h; cases h)
  | .str _, v, h => by cases v <;> (unfold wtB at h; cases h)
  | .tup _, v, h => by cases v <;> (unfold wtB at h; cases h)
  | .lst _, v, h => by cases v <;> (unfold wtB at h; cases h)
  | .fz _, v, h => by cases v <;> (unfold wtB at h; cases h)
  | .dic _ _, v, h => by cases v <;> (unfold wtB at h; cases h)
  | .raw _, v, h => by cases v <;> (unfold wtB at h; cases h)
theorem wtsB_ok {K : PySem.W.Frag} {H : Hp} {ok : Addr → Prop} : ∀ (ds : List D) (vs : List Value), wtsB K vs ds = true → Reps K H ok (vs.map vOf) ds ∧ Vals (vs.map vOf) vs
  | [], [], _ => ⟨.nil, .nil⟩
  | [], _ :: _, h => by unfold wtsB at h; cases h
  | _ :: _, [], h => by unfold wtsB at h; cases h
  | d :: ds, v :: vs, h => by
    unfold wtsB at h
    obtain ⟨h1, h2⟩ := He.ba h
    obtain ⟨a1, a2⟩ := wtB_ok (H := H) (ok := ok) d v h1
    obtain ⟨b1, b2⟩ := wtsB_ok (H := H) (ok := ok) ds vs h2
    exact ⟨.cons a1 b1, .cons a2 b2⟩
end
/-- the module's name x stands for this -/
def exB (x : Str) (d : D) (K : PySem.W.Frag) : Bool := match PySem.W.nsIn K mainGlobals x with
  | some (some (.ref a)) => wtB K (.ref a) d
  | _ => false
section
variable {P : Program} {w : World} {K : PySem.W.Frag} {mg : Str → Option Value} {base : Heap} {h : Heap} {fa : List He.Fa} {fn : List He.FnD}
theorem exB_ok (X : K.In h) (G : h.Ns mainGlobals mg) {x : Str} {d : D} (e : exB x d K = true) : ∃ p, mg x = some (.ref p) ∧ ∀ H ok, Rep K H ok (.ref p) d := by
  unfold exB at e
  cases q : PySem.W.nsIn K mainGlobals x with
  | none => rw [q] at e; cases e
  | some o =>
    rw [q] at e
    cases o with
    | none => cases e
    | some v =>
      cases v with
      | ref a => exact ⟨a, PySem.W.mg_of X G q, fun H ok => (wtB_ok d (.ref a) e).1⟩
      | _ => cases e
def fnI (x : Str) (st : Stmt) : He.FnD := ⟨(x, none), x, x, defArgs st, defBody st, defScope st⟩
/-- a def of the top, by its name -/
theorem def_at (X : K.In h) (G : h.Ns mainGlobals mg) (c : He.SaysE fa fn K) (x : Str) (st : Stmt) (i j k : Nat) (h1 : fn[i]? = some (fnI x st)) (h2 : fa[j]? = some (.glo x)) (h3 : fa[k]? = some (.keep x)) :
    ∃ fd, L2.Fun K x x st (He.ga K x) fd ∧ mg x = some (.ref (He.ga K x)) := by
  obtain ⟨oc, od, osl, kV, doc, pm, an, cdv, ct, l, cc⟩ := c.def_ i h1
  exact ⟨_, fun_mk l cc (He.keep_ok (c.fact k h3)), He.glo_ok X G (c.fact j h2)⟩
theorem cal_of {x : Str} {st : Stmt} {f : Addr} {fd : FuncData} {ps : List Str} {k : Nat} {sp : Sp} (F : L2.Fun K x x st f fd) (m : mg x = some (.ref f)) (o : FnOk P w K mg base CX0 k f fd ps sp)
    (b : ∀ (kV doc pm : Value) (an : Option Addr) (cdv ct : Value) (us : List Value), us.length = ps.length → bindArgs (PySem.W.fnOf x x (defArgs st) (defBody st) (defScope st) .none kV doc pm an cdv ct) ⟨us, []⟩ = pure (ps.zip us)) : C8.Cal P w K mg base k x sp [] :=
  ⟨f, fd, ps, [], o, m, F.kp, F.binds b, .nil⟩
theorem binds_to {x y : Str} {st : Stmt} {f : Addr} {fd : FuncData} (F : L2.Fun K x x st f fd) (h : ∀ (kV doc pm : Value) (an : Option Addr) (cdv ct : Value) (v : Value), bindArgs (PySem.W.fnOf x x (defArgs st) (defBody st) (defScope st) .none kV doc pm an cdv ct) ⟨[v], []⟩ = pure [(y, v)]) (s : Shared) (v : Value) : BindsTo s fd ⟨[v], []⟩ [(y, v)] := by
  obtain ⟨oc, od, kV, doc, pm, an, cdv, ct, osl, rfl, lk, hcd⟩ := F.ex
  exact .of_eq (h kV doc pm an cdv ct v)
end
/-! the script -/
theorem frz_ints {K : PySem.W.Frag} {H : Hp} {ok : Addr → Prop} : ∀ (ns : List Int), Reps K H ok (ns.map V.int) (ns.map D.int)
  | [] => .nil
  | n :: ns => .cons (.int n) (frz_ints ns)
theorem script_rep {K : PySem.W.Frag} {H : Hp} {a : Addr} {ns : List Int} (O : Only H) (s : SqL K H a (ns.map V.int)) : Rep K H (fun _ => False) (.ref a) (.fz (ns.map .int)) := by
  refine .fz ?_ (frz_ints ns)
  rcases s with (s | s) | s
  · rcases O a with e | ⟨o, xs, e⟩
    · rw [e] at s; cases s
    · rw [e] at s; cases s
  · exact .inl s
  · exact .inr s
end Ice

/-! texts; slices and sums of tuples; extend, index -/
namespace Ice
open PySem PySem.Spec PyProof.Rows L2
/-! ### texts -/
def strsOf : List D → Option (List Str)
  | [] => some []
  | .str x :: r => (strsOf r).map fun k => x :: k
  | _ => none
def strF : List D → Option D
  | [.int i] => if i.natAbs.log2 < 1920 then some (.str (toString i)) else none
  | _ => none
def joinS (a : Str) (ds : List D) : Option D := (strsOf ds).bind fun ys => if (ys.map (·.length)).sum + ys.length * a.length ≤ 16777216 then some (.str (Txt.join a ys)) else none
def joinD : D → D → Option D
  | .str a, .lst ds => joinS a ds
  | .str a, .tup ds => joinS a ds
  | _, _ => none
theorem joinD_some {x y d : D} (h : joinD x y = some d) : ∃ a ds, x = .str a ∧ (y = .lst ds ∨ y = .tup ds) ∧ joinS a ds = some d := by
  unfold joinD at h
  split at h
  · exact ⟨_, _, rfl, .inl rfl, h⟩
  · exact ⟨_, _, rfl, .inr rfl, h⟩
  · cases h
theorem strs_rep {K : PySem.W.Frag} {H : Hp} {ok : Addr → Prop} : ∀ {ds : List D} {vs : List V} {ys : List Str}, Reps K H ok vs ds → strsOf ds = some ys → vs = ys.map V.str
  | [], _, ys, r, e => by
    cases r
    cases e
    rfl
  | d :: ds, _, ys, r, e => by
    cases r with
    | cons a r =>
      cases d with
      | str x =>
        obtain ⟨k, e1, rfl⟩ := map_some (show (strsOf ds).map (fun k => x :: k) = some ys from e)
        cases a
        rw [strs_rep r e1]
        rfl
      | _ => cases e
theorem cd_str {K : PySem.W.Frag} : CaD K (fun xs H Q => ∃ i, xs = [.int i] ∧ i.natAbs.log2 < 1920 ∧ Q (.str (toString i)) H) strF := fun vs ds z H ok Q rs e q => by
  cases rs with
  | nil => cases e
  | cons a r =>
    cases r with
    | nil =>
      cases a with
      | int i =>
        have e' : (if i.natAbs.log2 < 1920 then some (D.str (toString i)) else none) = some z := e
        split at e'
        · next c => cases e'; exact ⟨i, rfl, c, q _ H (Same.refl H) (.str _)⟩
        · cases e'
      | _ => cases e
    | cons a2 r2 => cases a <;> cases e
section
variable {X : Cx} {e o : Expr} {ma mb : Mi} {pos apos : Pos} {x : Str}
theorem ev_gs {z : Str} (hg : Gl X x) (hm : ∃ t, X.mg x = some (.str z t)) (hd : (x == ("__debug__" : Str)) = false := by decide) : Ev X (.Name x pos) (mC (.str z)) := by
  obtain ⟨t, hm⟩ := hm
  exact ev_c (pe_glob hg hm (v := .str z) ⟨t, rfl⟩ hd) fun _ _ => .str z
theorem ev_join (ho : Ev X o ma) (he : Ev X e mb) (hs : starEach [e] X.env = [(false, eval e X.env)] := by rfl) (hbase : attributeBase o "join" X.env (eval o X.env) = eval o X.env := by rfl) (hline : (apos.endLine == pos.line) = true := by rfl) :
    Ev X (.Call (.Attribute o "join" apos) [e] [] pos) (m2 joinD ma mb) := PE.imp (pe_join ho he hs hbase hline) fun σ H Q h => by
  obtain ⟨ok, S, d, rs, m, q⟩ := h
  obtain ⟨x, h1, m⟩ := bind_some m
  obtain ⟨y, h2, m⟩ := bind_some m
  have go : ∀ (a : Str) (ds : List D), x = .str a → joinS a ds = some d → (∀ {H' : Hp} {v : V}, Rep X.K H' (ex ok H) v y → ∃ p vs, v = .ref p ∧ (SqL X.K H' p vs ∨ SqT X.K H' p vs) ∧ Reps X.K H' (ex ok H) vs ds) →
      tM1 (fun x xs H Q => ∃ a p, ∃ ys : List Str, x = .str a ∧ xs = [.ref p] ∧ (SqL X.K H p (ys.map V.str) ∨ SqT X.K H p (ys.map V.str)) ∧ (ys.map (·.length)).sum + ys.length * a.length ≤ 16777216 ∧ Q (.str (Txt.join a ys)) H) (tE X.K ma) (tE X.K mb) σ H Q := fun a ds hx hj hr => by
    subst hx
    obtain ⟨ys, hy, m2⟩ := bind_some hj
    split at m2
    · next c =>
      cases m2
      refine ⟨ok, S, .str a, rs, h1, fun vx H1 s1 rx => ?_⟩
      cases rx
      refine ⟨⟨_, rfl⟩, ok, S, y, rs.keeps (Same.keeps s1) (fun _ z => z), h2, fun vy H2 s2 ry => ?_⟩
      obtain ⟨p, vs, rfl, hq, rr⟩ := hr (ry.keeps (Same.keeps (Same.refl _)) (ex_ex s1))
      have ev := strs_rep rr hy
      subst ev
      exact ⟨a, p, ys, rfl, rfl, hq, c, q _ H2 (s1.trans s2) (.str _)⟩
    · cases m2
  obtain ⟨a, ds, ha, hy, hj⟩ := joinD_some m
  refine go a ds ha hj fun {H' v} r => ?_
  rcases hy with rfl | rfl
  · cases r with
    | lst o h r => exact ⟨_, _, rfl, .inl (SqL.of h), r⟩
  · cases r with
    | tup h r => exact ⟨_, _, rfl, .inr (SqT.of h), r⟩
end
/-! ### slices -/
abbrev Mo := Sd → Option (Option Int)
def tO (K : PySem.W.Frag) (m : Mo) : TO := fun σ H Q => ∃ ok S i, Rs K H ok S σ ∧ m S = some i ∧ ∀ H', Same H H' → Q i H'
abbrev Eo (X : Cx) (e : Option Expr) (m : Mo) : Prop := PO X e (tO X.K m)
def oN : Mo := fun _ => some none
def oS (m : Mi) : Mo := fun S => (m S).bind fun d => match d with
  | .int i => some (some i)
  | _ => none
theorem PO.imp {X : Cx} {e : Option Expr} {t t' : TO} (h : PO X e t) (g : ∀ σ H Q, t' σ H Q → t σ H Q) : PO X e t' := ⟨fun pins s σ H Q I q => h.run pins s σ H Q I (g σ H Q q)⟩
def cutD (xs : List D) (lo hi : Option Int) : List D := (xs.drop (HT.sIx xs.length 0 lo)).take (HT.sIx xs.length xs.length hi - HT.sIx xs.length 0 lo)
def slD : D → Option Int → Option Int → Option D
  | .lst ds, lo, hi => some (.lst (cutD ds lo hi))
  | .tup ds, lo, hi => some (.tup (cutD ds lo hi))
  | _, _, _ => none
theorem slD_some {x d : D} {l u : Option Int} (h : slD x l u = some d) : (∃ ds, x = .lst ds ∧ d = .lst (cutD ds l u)) ∨ ∃ ds, x = .tup ds ∧ d = .tup (cutD ds l u) := by
  unfold slD at h
  split at h
  · cases h; exact .inl ⟨_, rfl, rfl⟩
  · cases h; exact .inr ⟨_, rfl, rfl⟩
  · cases h
def mSl (m : Mi) (lo hi : Mo) : Mi := fun S => (m S).bind fun d => (lo S).bind fun l => (hi S).bind fun h => slD d l h
theorem Reps.drop {K : PySem.W.Frag} {ok : Addr → Prop} {H : Hp} : ∀ (n : Nat) {vs : List V} {ds : List D}, Reps K H ok vs ds → Reps K H ok (vs.drop n) (ds.drop n)
  | 0, _, _, r => r
  | n + 1, _, _, .nil => .nil
  | n + 1, _, _, .cons a r => Reps.drop n r
theorem Reps.take {K : PySem.W.Frag} {ok : Addr → Prop} {H : Hp} : ∀ (n : Nat) {vs : List V} {ds : List D}, Reps K H ok vs ds → Reps K H ok (vs.take n) (ds.take n)
  | 0, _, _, _ => .nil
  | n + 1, _, _, .nil => .nil
  | n + 1, _, _, .cons a r => .cons a (Reps.take n r)
theorem Reps.cut {K : PySem.W.Frag} {ok : Addr → Prop} {H : Hp} {vs : List V} {ds : List D} (r : Reps K H ok vs ds) (lo hi : Option Int) : Reps K H ok (cutV vs lo hi) (cutD ds lo hi) := by
  unfold cutV cutD
  rw [r.length]
  exact Reps.take _ (Reps.drop _ r)
section
variable {X : Cx} {e : Expr} {lo hi : Option Expr} {ma : Mi} {ml mh : Mo} {pos p2 : Pos}
theorem eo_none : Eo X none oN := PO.imp po_none fun σ H Q h => by
  obtain ⟨ok, S, i, rs, m, q⟩ := h
  cases m
  exact q H (Same.refl H)
theorem eo_some (he : Ev X e ma) : Eo X (some e) (oS ma) := PO.imp (po_some he) fun σ H Q h => by
  obtain ⟨ok, S, i, rs, m, q⟩ := h
  obtain ⟨d, h1, m⟩ := bind_some m
  split at m
  · next j =>
    cases m
    refine ⟨ok, S, _, rs, h1, fun v H' s r => ?_⟩
    cases r
    exact ⟨_, rfl, q H' s⟩
  · cases m
theorem ev_slice (he : Ev X e ma) (hl : Eo X lo ml) (hu : Eo X hi mh) : Ev X (.Subscript e (.Slice lo hi none p2) pos) (mSl ma ml mh) := PE.imp (pe_slice (SlR.or sl_list sl_tupA) he hl hu) fun σ H Q h => by
  obtain ⟨ok, S, d, rs, m, q⟩ := h
  obtain ⟨x, h1, m⟩ := bind_some m
  obtain ⟨l, h2, m⟩ := bind_some m
  obtain ⟨u, h3, m⟩ := bind_some m
  refine ⟨ok, S, x, rs, h1, fun vx H1 s1 rx => ⟨ok, S, l, rs.keeps (Same.keeps s1) (fun _ z => z), h2, fun H2 s2 => ⟨ok, S, u, rs.keeps (Same.keeps (s1.trans s2)) (fun _ z => z), h3, fun H3 s3 => ?_⟩⟩⟩
  have s := s1.trans (s2.trans s3)
  have rx3 := rx.keeps (Same.keeps (s2.trans s3)) fun _ z => z
  rcases slD_some m with ⟨ds, rfl, rfl⟩ | ⟨ds, rfl, rfl⟩
  · cases rx3 with
    | lst o h r =>
      exact .inl ⟨_, _, rfl, SqL.of h, fun p hp => q _ _ (s.trans (same_new hp)) (.lst (.inr (s.free hp)) upd_same ((r.cut l u).keeps (Same.keeps (same_new hp)) fun _ z => z))⟩
  · cases rx3 with
    | tup h r =>
      refine .inr ⟨_, _, rfl, SqT.of h, fun c => ?_, fun c p hp => q _ _ (s.trans (same_new hp)) (.tup upd_same ((r.cut l u).keeps (Same.keeps (same_new hp)) fun _ z => z))⟩
      refine q _ _ s (.tup h ?_)
      have e1 : cutD ds l u = ds := by
        unfold cutD
        rw [← r.length, c.1, c.2, r.length, List.drop_zero, Nat.sub_zero]
        exact List.take_length
      rw [e1]
      exact r
/-! ### sums of tuples -/
def catD : D → D → Option D
  | .tup xs, .tup ys => if xs.length + ys.length ≤ 1000000 then some (.tup (xs ++ ys)) else none
  | _, _ => none
theorem od_cat {K : PySem.W.Frag} : OpD K (rCatA K) catD := fun vx vy x y z H ok Q rx ry e q => by
  unfold catD at e
  split at e
  · next xs ys =>
    split at e
    · next c =>
      cases e
      cases rx with
      | tup h1 r1 =>
        cases ry with
        | tup h2 r2 =>
          refine ⟨_, _, _, _, rfl, rfl, SqT.of h1, SqT.of h2, ?_, fun n => ?_, fun _ n => ?_, fun _ _ p hp => q _ _ (same_new hp) (.tup upd_same (Reps.append (r1.keeps (Same.keeps (same_new hp)) ex_of) (r2.keeps (Same.keeps (same_new hp)) ex_of)))⟩
          · rw [r1.length, r2.length]
            exact Nat.le_trans c (by decide)
          · subst n
            cases r1
            exact q _ H (Same.refl H) (rep_here (.tup h2 r2))
          · subst n
            cases r2
            exact q _ H (Same.refl H) (by rw [List.append_nil]; exact rep_here (.tup h1 r1))
    · cases e
  · cases e
theorem ev_cat {a b : Expr} {mb : Mi} (ha : Ev X a ma) (hb : Ev X b mb) : Ev X (.BinOp a .Add b pos) (m2 catD ma mb) := ev_bin op_catA od_cat ha hb
end
/-! ### index, extend -/
def idxN : List Int → Int → Option Nat
  | [], _ => none
  | n :: ns, i => if n = i then some 0 else (idxN ns i).map fun j => j + 1
def indexD : D → D → Option D
  | .lst ds, .int i => (intsOf ds).bind fun ns => (idxN ns i).map fun j => .int (j : Nat)
  | _, _ => none
theorem idxN_ok : ∀ {ns : List Int} {i : Int} {j : Nat}, idxN ns i = some j → ns[j]? = some i ∧ ∀ (m : Nat) (z : Int), m < j → ns[m]? = some z → z ≠ i
  | [], _, _, h => by cases h
  | n :: ns, i, j, h => by
    unfold idxN at h
    split at h
    · next c =>
      cases h
      exact ⟨by rw [c]; rfl, fun m z hm _ => absurd hm (Nat.not_lt_zero _)⟩
    · next c =>
      obtain ⟨k, h1, rfl⟩ := map_some h
      obtain ⟨a, b⟩ := idxN_ok h1
      refine ⟨a, fun m z hm hz => ?_⟩
      cases m with
      | zero =>
        cases hz
        exact c
      | succ m => exact b m z (Nat.lt_of_succ_lt_succ hm) hz
theorem all_flat : ∀ (ns : List Int), (ns.map V.int).all flatV = true
  | [] => rfl
  | _ :: ns => all_flat ns
def sExt (i : Nat) (m : Mi) : Ms := fun S => match S[i]? with
  | some (.own ds) => (m (cl S)).bind fun d => match d with
    | .lst es => if ds.length + es.length < 1000000 then some (.nx (S.set i (.own (ds ++ es)))) else none
    | _ => none
  | _ => none
section
variable {X : Cx} {e o : Expr} {ma me : Mi} {pos : Pos} {x : Str} {p1 p2 p3 : Pos}
theorem ev_index (ho : Ev X o ma) (he : Ev X e me) (hbase : attributeBase o "index" X.env (eval o X.env) = eval o X.env := by rfl)
    (hfew : ((backTo p3 (starEach [e] X.env)).all (fun x => !x.1) && (backToKw p3 (keywordEach [] X.env)).all (fun x => x.1.isSome) && decide ([e].length + ([] : List Keyword).length + (if ([] : List Keyword).isEmpty then 0 else 1) < 30)) = true := by rfl)
    (hline : (p2.endLine == p3.line) = true := by rfl) (hs : starEach [e] X.env = (false, eval e X.env) :: starEach [] X.env := by rfl) (hplain : (backTo p3 (starEach [] X.env)).any (fun x => x.1) = false := by rfl) :
    Ev X (.Call (.Attribute o "index" p2) [e] [] p3) (m2 indexD ma me) :=
  PE.imp (pe_bm PySem.F.plainAttrs_list PySem.F.slot_list_index PySem.F.type_list_index mt_index ho (ea_cons he ea_nil hs) hbase hfew hline hs hplain) fun σ H Q h => by
    obtain ⟨ok, S, d, rs, m, q⟩ := h
    obtain ⟨x, h1, m⟩ := bind_some m
    obtain ⟨y, h2, m⟩ := bind_some m
    cases x with
    | lst ds =>
      cases y with
      | int i =>
        obtain ⟨ns, e1, m⟩ := bind_some (show ((intsOf ds).bind fun ns => (idxN ns i).map fun j => D.int (j : Nat)) = some d from m)
        obtain ⟨j, e2, rfl⟩ := map_some m
        refine ⟨ok, S, _, rs, h1, fun vx H1 s1 rx => ?_⟩
        cases rx with
        | lst g hh r =>
          have ev := ints_ok r e1
          subst ev
          refine ⟨.inl ⟨rfl, _, SqL.of hh⟩, ok, S, [.int i], rs.keeps (Same.keeps s1) (fun _ z => z), ?_, fun us H2 s2 ru => ?_⟩
          · show (me S).bind (fun x => some [x]) = _
            rw [h2]
            rfl
          · cases ru with
            | cons rv ru =>
              cases ru
              cases rv
              obtain ⟨a, b⟩ := idxN_ok e2
              exact ⟨_, _, .int i, j, .int i, rfl, rfl, SqL.of (s2 _ _ hh), rfl, all_flat ns, by rw [List.getElem?_map, a]; rfl, beq_self_eq_true i, fun k z' hk hz => by
                rw [List.getElem?_map] at hz
                obtain ⟨z, h3, rfl⟩ := map_some hz
                exact beq_eq_false_iff_ne.mpr (b k z hk h3), q _ H2 (s1.trans s2) (.int _)⟩
      | _ => cases m
    | _ => cases m
theorem pe_ext (i : Nat) (he : Ev X e me) (hi : X.N[i]? = some x := by rfl) (hv : Vis X.env.scope x := by first | exact Or.inl rfl | exact Or.inr (Or.inl rfl) | exact Or.inr (Or.inr rfl))
    (hd : (x == ("__debug__" : Str)) = false := by decide) (hcd : (x == ("__classdict__" : Str)) = false := by decide)
    (hbase : attributeBase (.Name x p1) "extend" X.env (eval (.Name x p1) X.env) = eval (.Name x p1) X.env := by rfl)
    (hfew : ((backTo p3 (starEach [e] X.env)).all (fun x => !x.1) && (backToKw p3 (keywordEach [] X.env)).all (fun x => x.1.isSome) && decide ([e].length + ([] : List Keyword).length + (if ([] : List Keyword).isEmpty then 0 else 1) < 30)) = true := by rfl)
    (hline : (p2.endLine == p3.line) = true := by rfl) (hs : starEach [e] X.env = (false, eval e X.env) :: starEach [] X.env := by rfl) (hplain : (backTo p3 (starEach [] X.env)).any (fun x => x.1) = false := by rfl) :
    PE X (.Call (.Attribute (.Name x p1) "extend" p2) [e] [] p3) (tBM X.K "list" rExtend (tVar i) (tA X.K (aCons me aNil))) :=
  pe_bm PySem.F.plainAttrs_list PySem.F.slot_list_extend PySem.F.type_list_extend mt_extend (pe_var hi hv hd hcd) (ea_cons he ea_nil hs) hbase hfew hline hs hplain
theorem es_ext (i : Nat) (h : PE X (.Call (.Attribute (.Name x p1) "extend" p2) [e] [] p3) (tBM X.K "list" rExtend (tVar i) (tA X.K (aCons me aNil))))
    (hs : swapsWith (.Call (.Attribute (.Name x p1) "extend" p2) [e] [] p3) none pos.line X.env = pure false := by rfl) : Es X (.Expr (.Call (.Attribute (.Name x p1) "extend" p2) [e] [] p3) pos) (sExt i me) := PS.imp (ps_expr h hs) fun E σ H hh => by
  obtain ⟨p0, H0, ok0, S, o, ⟨O, r⟩, m, q⟩ := hh
  unfold sExt at m
  split at m
  · next ds hS =>
    obtain ⟨d, e1, m⟩ := bind_some m
    cases d with
    | lst es =>
      have m' : (if ds.length + es.length < 1000000 then some (Out.nx (S.set i (.own (ds ++ es)))) else none) = some o := m
      split at m'
      · next hl =>
        cases m'
        obtain ⟨p, vs, h1, h2, h3, h4⟩ := r.own i ds hS
        refine ⟨_, h1, .inl ⟨rfl, _, SqL.of h3⟩, _, _, [.lst es], r.closed, ?_, fun us H' s ru => ?_⟩
        · show (me (cl S)).bind (fun x => some [x]) = _
          rw [e1]
          rfl
        · cases ru with
          | cons rv ru =>
            cases ru
            cases rv with
            | lst g hb rr =>
              rename_i pb zs
              have hp : H' p = some (.lst vs) := s _ _ h3
              have r' := r.grow s
              have kp := r'.keepX h2 hp (sameX_upd (o := .lst (vs ++ zs)))
              refine ⟨p, _, vs, _, rfl, rfl, hp, hb, ?_, q σ _ ⟨O, r'.updOwn hS h1 sameX_upd upd_same (Reps.append ((h4.keeps (Same.keeps s) fun _ z => z).keeps kp fun _ z => z) ((rr.keeps (Same.keeps (Same.refl _)) fun a h => good_new r h).keeps kp fun _ z => z))⟩⟩
              rw [h4.length, rr.length]
              exact Nat.le_trans (Nat.le_of_lt hl) (by decide)
      · cases m'
    | _ => cases m
  · cases m
end
end Ice

/-! a name to a comprehension on one line -/
namespace Ice
open PySem PySem.Spec PyProof.Rows L2
section
variable {X : Cx} {elt tg iter tg1 iter1 : Expr} {ifs ifs1 : List Expr} {scope : Scope} {pos spos py : Pos} {mi mi1 : Ma} {t t1 : Tg} {tt tt1 : Mt} {me : Mi} {y : Str}
theorem es_lc (i : Nat) (own : List (Str × Nat)) (hN : X.N.Nodup) (hi : Ei X tg iter mi) (ok : BlkOk X.N X.env.scope scope own)
    (hg : ∀ (s : Shared) (H : Hp) (C : Addr) (cl : List (Str × Addr)) (fp : List Addr), Eg (X.blk s H scope (compEnvC scope cl C X.env) fp) tg t) (ht : ∀ (s : Shared) (H : Hp) (C : Addr) (cl : List (Str × Addr)) (fp : List Addr), Ets (X.blk s H scope (compEnvC scope cl C X.env) fp) ifs tt)
    (he : ∀ (s : Shared) (H : Hp) (C : Addr) (cl : List (Str × Addr)) (fp : List Addr), Ev (X.blk s H scope (compEnvC scope cl C X.env) fp) elt me) (hs : ∀ x, foldedSetIterable iter X.env x = pure x := by intro _; rfl)
    (hy : X.N[i]? = some y := by rfl) (hyl : X.env.scope.names.lookup y = some .local := by rfl) (hsw : swapsWith (.ListComp elt [⟨tg, iter, ifs, 0⟩] scope pos) (some (.Name y py)) spos.line X.env = pure true := by exact sw_true rfl rfl rfl rfl)
    (hv : ∀ i ∈ sl t, i ∈ own.map (·.2) := by decide) (hc : X.calm = true := by rfl) : Es X (.Assign [.Name y py] (.ListComp elt [⟨tg, iter, ifs, 0⟩] scope pos) spos) (sSet i (mLc mi (own.map (·.2)) t tt me)) :=
  ⟨fun pins s σ H E I h => (ps_setLc hc hN hy hyl hsw hi ok hg ht he hs).run pins s σ H E I (t_lc (Q := fun x H1 => gName i x σ H1 E.nx) (fun i h => ⟨hv i h, lt_of_own ok I.len (hv i h)⟩) (by
    obtain ⟨p0, H0, ok0, S, o, ⟨O, r⟩, m, q⟩ := h
    obtain ⟨d, e1, m⟩ := map_some m
    subst m
    exact ⟨_, _, d, r.closed, e1, fun v H' s rv => q _ H' ⟨O, (r.grow s).put (rv.keeps (Same.keeps (Same.refl _)) fun a h => good_new r h)⟩⟩))⟩
theorem es_lc2 (i : Nat) (own : List (Str × Nat)) (vs1 : List Nat) (hN : X.N.Nodup) (hi : Ei X tg iter mi) (ok : BlkOk X.N X.env.scope scope own)
    (hg : ∀ (s : Shared) (H : Hp) (C : Addr) (cl : List (Str × Addr)) (fp : List Addr), Eg (X.blk s H scope (compEnvC scope cl C X.env) fp) tg t) (ht : ∀ (s : Shared) (H : Hp) (C : Addr) (cl : List (Str × Addr)) (fp : List Addr), Ets (X.blk s H scope (compEnvC scope cl C X.env) fp) ifs tt)
    (hi1 : ∀ (s : Shared) (H : Hp) (C : Addr) (cl : List (Str × Addr)) (fp : List Addr), Ei (X.blk s H scope (compEnvC scope cl C X.env) fp) tg1 iter1 mi1)
    (hg1 : ∀ (s : Shared) (H : Hp) (C : Addr) (cl : List (Str × Addr)) (fp : List Addr), Eg (X.blk s H scope (compEnvC scope cl C X.env) fp) tg1 t1) (ht1 : ∀ (s : Shared) (H : Hp) (C : Addr) (cl : List (Str × Addr)) (fp : List Addr), Ets (X.blk s H scope (compEnvC scope cl C X.env) fp) ifs1 tt1)
    (he : ∀ (s : Shared) (H : Hp) (C : Addr) (cl : List (Str × Addr)) (fp : List Addr), Ev (X.blk s H scope (compEnvC scope cl C X.env) fp) elt me) (hs : ∀ x, foldedSetIterable iter X.env x = pure x := by intro _; rfl) (hs1 : ∀ env x, foldedSetIterable iter1 env x = pure x := by intro _ _; rfl)
    (hy : X.N[i]? = some y := by rfl) (hyl : X.env.scope.names.lookup y = some .local := by rfl) (hsw : swapsWith (.ListComp elt [⟨tg, iter, ifs, 0⟩, ⟨tg1, iter1, ifs1, 0⟩] scope pos) (some (.Name y py)) spos.line X.env = pure true := by exact sw_true rfl rfl rfl rfl)
    (hv : ∀ i ∈ sl t, i ∈ own.map (fun p => p.2) := by decide) (hv1 : ∀ i ∈ sl t1, i ∈ vs1 := by decide) (hv2 : ∀ i ∈ vs1, i ∈ own.map (fun p => p.2) := by decide) (hc : X.calm = true := by rfl) : Es X (.Assign [.Name y py] (.ListComp elt [⟨tg, iter, ifs, 0⟩, ⟨tg1, iter1, ifs1, 0⟩] scope pos) spos) (sSet i (mLc2 mi (own.map (fun p => p.2)) t tt mi1 vs1 t1 tt1 me)) :=
  ⟨fun pins s σ H E I h => (ps_setLc2 hc hN hy hyl hsw hi ok hv2 hg ht hi1 hg1 ht1 he hs hs1).run pins s σ H E I (t_lc2 (Q := fun x H1 => gName i x σ H1 E.nx) (fun i h => ⟨hv i h, lt_of_own ok I.len (hv i h)⟩) (fun i h => ⟨hv1 i h, lt_of_own ok I.len (hv2 i (hv1 i h))⟩) (by
    obtain ⟨p0, H0, ok0, S, o, ⟨O, r⟩, m, q⟩ := h
    obtain ⟨d, e1, m⟩ := map_some m
    subst m
    exact ⟨_, _, d, r.closed, e1, fun v H' s rv => q _ H' ⟨O, (r.grow s).put (rv.keeps (Same.keeps (Same.refl _)) fun a h => good_new r h)⟩⟩))⟩
end
/-! ### the greatest of a list -/
def maxL (ns : List Int) : Option Int := (minL (ns.map fun i => -i)).map fun i => -i
def maxA : List D → Option D
  | [.lst ds] => (intsOf ds).bind fun ns => (maxL ns).map .int
  | _ => none
theorem max_uniq {ns : List Int} {k m : Int} (h : maxL ns = some k) (h1 : m ∈ ns) (h2 : ∀ y ∈ ns, y ≤ m) : m = k := by
  obtain ⟨j, e, rfl⟩ := map_some h
  have h4 : ∀ y ∈ ns.map fun i => -i, -m ≤ y := fun y hy => by
    obtain ⟨z, hz, rfl⟩ := List.mem_map.mp hy
    have h3 := h2 z hz
    show -m ≤ -z
    omega
  have h5 : (-m) ∈ ns.map fun i => -i := List.mem_map.mpr ⟨m, h1, rfl⟩
  have := min_uniq e h5 h4
  show m = -j
  omega
theorem cd_maxA {K : PySem.W.Frag} : CaD K (rMax K) maxA := fun vs ds z H ok Q rs e q => by
  unfold maxA at e
  split at e
  · next ds =>
    obtain ⟨ns, hn, e⟩ := bind_some e
    obtain ⟨m, hm, rfl⟩ := map_some e
    cases rs with
    | cons a r =>
      cases r
      cases a with
      | lst o h r =>
        have := ints_ok r hn
        subst this
        refine ⟨_, ns, rfl, SqL.of h, ?_, fun k h1 h2 => ?_⟩
        · cases ns with
          | nil => cases hm
          | cons i r => exact Nat.succ_pos _
        · rw [max_uniq hm h1 h2]
          exact q _ H (Same.refl H) (.int _)
  · cases e
end Ice

/-! a, *b = a list -/
namespace Ice
open PySem PySem.Spec PySem.Calls PyProof.Rows L2
def gStar (K : PySem.W.Frag) (t : TGs) : TG := fun v σ H Q => ∃ a x xs, v = .ref a ∧ SqL K H a (x :: xs) ∧ xs.length ≤ 16000 ∧ ∀ D, H D = none → t [x, .ref D] σ (upd H D (.lst xs)) Q
theorem pg_star {X : Cx} {e1 e2 : Expr} {k : Nat} {pos p2 : Pos} {t : TGs} (hc : X.calm = true) (h : PGs X [e1, e2] t) (hn : (assignEach [e1, .Starred e2 p2] X.env).map (·.2) = (assignEach [e1, e2] X.env).map (·.2) := by rfl) (hl2 : (assignEach [e1, .Starred e2 p2] X.env).length = 2 := by rfl)
    (hst : (assignEach [e1, .Starred e2 p2] X.env).findIdx? (·.1) = some 1 := by rfl) : PG X (.Tuple [e1, .Starred e2 p2] k pos) (gStar X.K t) := by
  refine ⟨fun pins s σ H v u Q I r hw => ?_⟩
  obtain ⟨a, x, xs, rfl, hq, hlen, hw⟩ := hw
  cases r
  obtain ⟨its, rv, ht, hz⟩ := I.list hq
  have hh : X.A.handled = none := I.ok.hd hc
  cases rv with
  | @cons _ y _ ys r1 rr =>
  have hl : s.heap.IsList a (y :: ys).toArray := ht.isList
  have hxl : xs.length = ys.length := rr.length
  have hlt : a ≠ s.heap.objs.size := by obtain ⟨o, ho, _⟩ := hl; exact Nat.ne_of_lt (Heap.lt_size ho)
  rw [assign_Tuple]
  refine wpAny_bind (wpAny_standAt ?_)
  unfold unpack
  rw [hl2, hst, hn]
  refine wpAny_bind (wpAny_holding ?_)
  unfold unpackItems
  refine wpAny_bind ?_
  unfold notIterableAtAll
  refine wpAny_bind (wpAny_specialOf hl.typeIs slot_list_iter.lookup ?_)
  refine wpAny_pure ?_
  simp only [Bool.false_eq_true, if_false]
  refine wpAny_bind (wpAny_holding (wpAny_pyIter_list hl ?_))
  refine wpAny_bind (wpAny_holding (PySem.W.kun_draw hlt 1 0 _ _ ⟨_, Heap.get?_push_size _ rfl, rfl, rfl⟩ (hl.push _) (by rw [List.size_toArray, List.length_cons]; omega) fun h₁ hit₁ hs₁ => ?_))
  have hl₁ : h₁.IsList a (y :: ys).toArray := (hl.push _).extBut hs₁.extBut hlt
  rw [Nat.zero_add] at hit₁
  have hit₁' := hit₁
  obtain ⟨oi, hoi, _⟩ := hit₁'
  have hl₁' := hl₁
  obtain ⟨ol, hol, _⟩ := hl₁'
  rw [List.drop_zero]
  have hfl : ((y :: ys).toArray.toList.take 1).length = 1 := rfl
  rw [if_neg (show ¬ (((y :: ys).toArray.toList.take 1).length < 1) by rw [hfl]; omega)]
  refine wpAny_bind (wpAny_holding (PySem.W.kun_collect (s := { s with heap := h₁ }) (T := "list_iterator") (.inr (.inr (.inl rfl))) (Walks.list (A := X.A.in1) hh s.heap.objs.size a hlt (y :: ys).toArray) (fun j u st => st.1.typeIs) (k := 1) (by rw [List.size_toArray, List.length_cons]; omega) ⟨hit₁, hl₁⟩ (Heap.lt_size hoi) (Heap.lt_size hol) (fun h₂ tk hk => ?_) (by rw [sizeLine_eq, List.size_toArray, List.length_cons]; omega)))
  show wpAny _ _ (if ys.length < 2 - 1 - 1 then _ else _) _ _ _
  rw [if_neg (by omega)]
  show wpAny _ _ (newList (ys.take (ys.length - (2 - 1 - 1))) >>= fun d => pure ([y] ++ [d] ++ ys.drop (ys.length - (2 - 1 - 1)))) _ _ _
  have e0 : ys.length - (2 - 1 - 1) = ys.length := by omega
  rw [e0, List.take_length, List.drop_length]
  have he : ∀ b o, s.heap.get? b = some o → h₂.get? b = some o := fun b o e => by
    have hb : b ≠ s.heap.objs.size := Nat.ne_of_lt (Heap.lt_size e)
    exact hk b o hb (hs₁.extBut b o hb (Heap.get?_push_of_some _ e))
  have I2 : Inv X pins σ H { s with heap := h₂, toks := tk } := I.kept (t' := tk) he
  refine wpAny_bind (PySem.wpAny_newList (s := { s with heap := h₂, toks := tk }) ?_)
  refine wpAny_pure ?_
  have hD : H h₂.objs.size = none := I2.hok.fresh (Nat.le_refl _)
  have I1 : Inv X pins σ (upd H h₂.objs.size (.lst xs)) { s with heap := h₂.push { cls := .type "list", data := .seq ys.toArray }, toks := tk } :=
    I2.laid (t' := tk) (o := .lst xs) (fun b o e => Heap.get?_push_of_some _ e) (Nat.le_refl _) ⟨by rw [sizeLine_eq]; omega, ys, 0, rr, Heap.get?_push_size _ rfl⟩
  exact h.run pins _ σ _ [x, .ref h₂.objs.size] [y, .ref h₂.objs.size] Q I1 (.cons r1 (.cons rfl .nil)) (hw _ hD)
def sStar (i j : Nat) (m : Mi) : Ms := fun S => (m (cl S)).bind fun d => match d with
  | .lst (x :: xs) => if xs.length ≤ 16000 then some (.nx ((S.set i (.dat x)).set j (.dat (.lst xs)))) else none
  | _ => none
theorem es_star {X : Cx} {e : Expr} {me : Mi} {pos tp p1 p2 p3 : Pos} {tk : Nat} {x y : Str} (i j : Nat) (hN : X.N.Nodup) (he : Ev X e me) (hi : X.N[i]? = some x := by rfl) (hj : X.N[j]? = some y := by rfl)
    (hx : Loc X.env.scope x := by first | exact Or.inl rfl | exact Or.inr rfl) (hy : Loc X.env.scope y := by first | exact Or.inl rfl | exact Or.inr rfl) (hf : X.fn x = true ∨ X.env.scope.names.lookup x = some .local := by first | exact .inl rfl | exact .inr rfl)
    (hg : X.fn y = true ∨ X.env.scope.names.lookup y = some .local := by first | exact .inl rfl | exact .inr rfl) (hc : X.calm = true := by rfl)
    (hn : (assignEach [.Name x p1, .Starred (.Name y p2) p3] X.env).map (·.2) = (assignEach [.Name x p1, .Name y p2] X.env).map (·.2) := by rfl) (hl2 : (assignEach [.Name x p1, .Starred (.Name y p2) p3] X.env).length = 2 := by rfl)
    (hst : (assignEach [.Name x p1, .Starred (.Name y p2) p3] X.env).findIdx? (·.1) = some 1 := by rfl)
    (hc1 : (assignEach [.Name x p1, .Name y p2] X.env).map (·.2) = assign (.Name x p1) X.env :: (assignEach [.Name y p2] X.env).map (·.2) := by rfl) (hc2 : (assignEach [.Name y p2] X.env).map (·.2) = assign (.Name y p2) X.env :: (assignEach [] X.env).map (·.2) := by rfl)
    (hs : swapsWithSole [.Tuple [.Name x p1, .Starred (.Name y p2) p3] tk tp] e pos.line X.env = pure false := by rfl) (hw : swappedStores [.Tuple [.Name x p1, .Starred (.Name y p2) p3] tk tp] e X.env = pure none := by rfl)
    (h1 : (assignEach [.Tuple [.Name x p1, .Starred (.Name y p2) p3] tk tp] X.env).map (fun x => x.2) = [assign (.Tuple [.Name x p1, .Starred (.Name y p2) p3] tk tp) X.env] := by rfl) :
    Es X (.Assign [.Tuple [.Name x p1, .Starred (.Name y p2) p3] tk tp] e pos) (sStar i j me) :=
  PS.imp (ps_asg he (pg_star hc (pgs_cons (pg_name hN hi hx hf) (pgs_cons (pg_name hN hj hy hg) pgs_nil hc2) hc1) hn hl2 hst) hs hw (h1 := h1)) fun E σ H h => by
    obtain ⟨p0, H0, ok0, S, o, ⟨O, r⟩, m, q⟩ := h
    obtain ⟨d, e1, m⟩ := bind_some m
    refine ⟨_, _, d, r.closed, e1, fun v H' s rv => ?_⟩
    cases d with
    | lst ds =>
      cases ds with
      | nil => cases m
      | cons z zs =>
        have m' : (if zs.length ≤ 16000 then some (Out.nx ((S.set i (.dat z)).set j (.dat (.lst zs)))) else none) = some o := m
        split at m'
        · next hl =>
          cases m'
          cases rv with
          | lst g hb rr =>
            cases rr with
            | cons ra rr =>
              rename_i va vxs
              refine ⟨_, va, vxs, rfl, SqL.of hb, by rw [rr.length]; exact hl, fun D hD => ⟨_, _, rfl, _, _, rfl, rfl, ?_⟩⟩
              have s2 : Same H' (upd H' D (.lst vxs)) := same_new hD
              have gr : ∀ a, ex (fun a => ex ok0 H0 a ∧ ¬ O a) H a → ex ok0 H0 a ∧ ¬ O a := fun a h => good_new r h
              exact q _ _ ⟨O, ((r.grow (s.trans s2)).put ((ra.keeps (Same.keeps s2) gr))).put (.lst (gr D (.inr (s.free hD))) upd_same (rr.keeps (Same.keeps s2) gr))⟩
        · cases m'
    | _ => cases m
/-! ### more of texts -/
def splitD : D → D → Option D
  | .str a, .str b => if (b.length == 0) = false ∧ a.length ≤ 1000000 ∧ (Txt.split a b).length ≤ 1000000 then some (.lst ((Txt.split a b).map .str)) else none
  | _, _ => none
def digD : D → Option D
  | .str a => some (.bl (Txt.isdigit a))
  | _ => none
def ascD : D → Option D
  | .str a => some (.bl (Txt.isascii a))
  | _ => none
def lenS : List D → Option D
  | [.str a] => if a.length ≤ 1000000 then some (.int a.length) else none
  | _ => none
def intS : List D → Option D
  | [.str a] => (PySem.intText? a).bind fun n => if a.length ≤ 640 then some (.int n) else none
  | _ => none
def ixS : D → D → Option D
  | .str z, .int i => if z.length ≤ 1000000 then (atI z.cps.toList i).map fun c => .str ⟨#[c]⟩ else none
  | _, _ => none
def repD : D → D → Option D
  | .lst ds, .int k => if 0 ≤ k ∧ k ≤ 1000 ∧ ds.length * k.toNat ≤ 1000000 then some (.lst (List.replicate k.toNat ds).flatten) else none
  | _, _ => none
theorem reps_strs {K : PySem.W.Frag} {H : Hp} {ok : Addr → Prop} : ∀ (ys : List Str), Reps K H ok (ys.map V.str) (ys.map D.str)
  | [] => .nil
  | y :: ys => .cons (.str y) (reps_strs ys)
theorem Reps.rep {K : PySem.W.Frag} {H : Hp} {ok : Addr → Prop} {vs : List V} {ds : List D} (r : Reps K H ok vs ds) : ∀ n, Reps K H ok (List.replicate n vs).flatten (List.replicate n ds).flatten
  | 0 => .nil
  | n + 1 => by
    rw [List.replicate_succ, List.replicate_succ, List.flatten_cons, List.flatten_cons]
    exact Reps.append r (Reps.rep r n)
section
variable {X : Cx} {a b e o : Expr} {ma mb : Mi} {pos apos : Pos}
theorem ev_split (ho : Ev X o ma) (he : Ev X e mb) (hs : starEach [e] X.env = [(false, eval e X.env)] := by rfl) (hbase : attributeBase o "split" X.env (eval o X.env) = eval o X.env := by rfl) (hline : (apos.endLine == pos.line) = true := by rfl) :
    Ev X (.Call (.Attribute o "split" apos) [e] [] pos) (m2 splitD ma mb) := PE.imp (pe_split ho he hs hbase hline) fun σ H Q h => by
  obtain ⟨ok, S, d, rs, m, q⟩ := h
  obtain ⟨x, h1, m⟩ := bind_some m
  obtain ⟨y, h2, m⟩ := bind_some m
  cases x with
  | str x =>
    cases y with
    | str y =>
      have m' : (if (y.length == 0) = false ∧ x.length ≤ 1000000 ∧ (Txt.split x y).length ≤ 1000000 then some (D.lst ((Txt.split x y).map .str)) else none) = some d := m
      split at m'
      · next c =>
        cases m'
        refine ⟨ok, S, _, rs, h1, fun vx H1 s1 rx => ?_⟩
        cases rx
        refine ⟨⟨_, rfl⟩, ok, S, _, rs.keeps (Same.keeps s1) (fun _ z => z), h2, fun vy H2 s2 ry => ?_⟩
        cases ry
        refine ⟨x, y, rfl, rfl, c.1, by rw [sizeLine_eq]; omega, fun p hp => q _ _ ((s1.trans s2).trans (same_new hp)) (.lst (.inr ((s1.trans s2).free hp)) upd_same (reps_strs _))⟩
      · cases m'
    | _ => cases m
  | _ => cases m
theorem ev_dig (ho : Ev X o ma) (hbase : attributeBase o "isdigit" X.env (eval o X.env) = eval o X.env := by rfl) (hline : (apos.endLine == pos.line) = true := by rfl) : Ev X (.Call (.Attribute o "isdigit" apos) [] [] pos) (m1 digD ma) :=
  PE.imp (pe_m0 PySem.F.slot_str_isdigit PySem.F.type_str_isdigit mt_isdigit ho hbase hline) fun σ H Q h => by
    obtain ⟨ok, S, d, rs, m, q⟩ := h
    obtain ⟨x, h1, m⟩ := bind_some m
    refine ⟨ok, S, x, rs, h1, fun vx H1 s1 rx => ?_⟩
    cases x with
    | str x =>
      cases m
      cases rx
      exact ⟨⟨_, rfl⟩, _, rfl, rfl, trivial, q _ H1 s1 (.bl _)⟩
    | _ => cases m
theorem ev_asc (ho : Ev X o ma) (hbase : attributeBase o "isascii" X.env (eval o X.env) = eval o X.env := by rfl) (hline : (apos.endLine == pos.line) = true := by rfl) : Ev X (.Call (.Attribute o "isascii" apos) [] [] pos) (m1 ascD ma) :=
  PE.imp (pe_m0 PySem.F.slot_str_isascii PySem.F.type_str_isascii mt_isascii ho hbase hline) fun σ H Q h => by
    obtain ⟨ok, S, d, rs, m, q⟩ := h
    obtain ⟨x, h1, m⟩ := bind_some m
    refine ⟨ok, S, x, rs, h1, fun vx H1 s1 rx => ?_⟩
    cases x with
    | str x =>
      cases m
      cases rx
      exact ⟨⟨_, rfl⟩, _, rfl, rfl, trivial, q _ H1 s1 (.bl _)⟩
    | _ => cases m
end
theorem one_rep {K : PySem.W.Frag} {H : Hp} {ok : Addr → Prop} {vs : List V} {x : Str} (r : Reps K H ok vs [.str x]) : vs = [.str x] := by
  cases r with
  | cons a r => cases a; cases r; rfl
theorem cd_lenS {K : PySem.W.Frag} : CaD K (fun xs H Q => ∃ z, xs = [.str z] ∧ z.length ≤ sizeLine ∧ Q (.int z.length) H) lenS := fun vs ds z H ok Q rs e q => by
  unfold lenS at e
  split at e
  · split at e
    · next c =>
      cases e
      exact ⟨_, one_rep rs, by rw [sizeLine_eq]; omega, q _ H (Same.refl H) (.int _)⟩
    · cases e
  · cases e
theorem cd_intS {K : PySem.W.Frag} : CaD K (fun xs H Q => ∃ a n, xs = [.str a] ∧ PySem.intText? a = some n ∧ a.length ≤ 640 ∧ Q (.int n) H) intS := fun vs ds z H ok Q rs e q => by
  unfold intS at e
  split at e
  · obtain ⟨n, h1, e⟩ := bind_some e
    split at e
    · next c =>
      cases e
      exact ⟨_, n, one_rep rs, h1, c, q _ H (Same.refl H) (.int _)⟩
    · cases e
  · cases e
theorem od_ixS {K : PySem.W.Frag} : OpD K rIxS ixS := fun vx vy x y z H ok Q rx ry e q => by
  cases x with
  | str x =>
    cases y with
    | int i =>
      have e' : (if x.length ≤ 1000000 then (atI x.cps.toList i).map fun c => D.str ⟨#[c]⟩ else none) = some z := e
      split at e'
      · next c =>
        obtain ⟨k, h1, rfl⟩ := map_some e'
        cases rx
        cases ry
        exact ⟨x, i, k, rfl, rfl, by rw [sizeLine_eq]; omega, h1, q _ H (Same.refl H) (.str _)⟩
      · cases e'
    | _ => cases e
  | _ => cases e
theorem od_rep {K : PySem.W.Frag} : OpD K rRep repD := fun vx vy x y z H ok Q rx ry e q => by
  cases x with
  | lst ds =>
    cases y with
    | int k =>
      have e' : (if 0 ≤ k ∧ k ≤ 1000 ∧ ds.length * k.toNat ≤ 1000000 then some (D.lst (List.replicate k.toNat ds).flatten) else none) = some z := e
      split at e'
      · next c =>
        cases e'
        cases ry
        cases rx with
        | lst g hh r =>
          exact ⟨_, k, _, rfl, rfl, hh, by omega, by omega, by rw [r.length, sizeLine_eq]; omega, fun p hp => q _ _ (same_new hp) (.lst (.inr hp) upd_same ((Reps.rep r _).keeps (Same.keeps (same_new hp)) ex_of))⟩
      · cases e'
    | _ => cases e
  | _ => cases e
section
variable {X : Cx} {a b : Expr} {ma mb : Mi} {pos : Pos}
theorem ev_ixS (ha : Ev X a ma) (hb : Ev X b mb) (hs : PlainIx b := by exact fun _ _ => rfl) : Ev X (.Subscript a b pos) (m2 ixS ma mb) := ev_sub ix_str od_ixS ha hb hs
theorem ev_rep (ha : Ev X a ma) (hb : Ev X b mb) : Ev X (.BinOp a .Mult b pos) (m2 repD ma mb) := ev_bin op_rep od_rep ha hb
end
end Ice

namespace Ice
open PySem PySem.Spec PyProof.Rows L2
def topS (i : Nat) : Stmt := PySem.Challenge.pw_icehouse_k16_read_back.main.body.getD i (.Pass ⟨0, 0, 0, 0⟩)
structure Txt (K : PySem.W.Frag) (mg : Str → Option Value) : Prop where
  g_EAST : ∃ t, mg "EAST" = some (.int 1 t)
  g_HEATS : ∃ t, mg "HEATS" = some (.str "heats" t)
  g_MOST_COLUMNS : ∃ t, mg "MOST_COLUMNS" = some (.int 4 t)
  g_MOST_FIGURES : ∃ t, mg "MOST_FIGURES" = some (.int 4 t)
  g_MOST_HEAT : ∃ t, mg "MOST_HEAT" = some (.int 9 t)
  g_MOST_PARTS : ∃ t, mg "MOST_PARTS" = some (.int 9999 t)
  g_MOST_ROWS : ∃ t, mg "MOST_ROWS" = some (.int 4 t)
  g_MOST_WALLS : ∃ t, mg "MOST_WALLS" = some (.int 40 t)
  g_NORTH : ∃ t, mg "NORTH" = some (.int 0 t)
  g_ROW : ∃ t, mg "ROW" = some (.str "row" t)
  g_SOUTH : ∃ t, mg "SOUTH" = some (.int 2 t)
  g_WALL : ∃ t, mg "WALL" = some (.str "wall" t)
  g_WEST : ∃ t, mg "WEST" = some (.int 3 t)
  m_all : mg "all" = none
  m_bool : mg "bool" = none
  m_int : mg "int" = none
  m_isinstance : mg "isinstance" = none
  m_len : mg "len" = none
  m_range : mg "range" = none
  m_str : mg "str" = none
  m_tuple : mg "tuple" = none
section
variable {P : Program} {w : World} {K : PySem.W.Frag} {mg : Str → Option Value} {base : Heap}

abbrev s_is_number : Stmt := topS 15
theorem sc_is_number : FnScope ["value", "most"] ["value", "most"] (defScope s_is_number) :=
  ⟨rfl, rfl, rfl, by decide +kernel, rfl, by decide +kernel, by decide +kernel⟩
def mr_is_number : Ms := (sRet (mAndV (mA isiF (aCons (mV 0) (aCons (mC (.raw (.ty "int"))) aNil))) (mAndV (m1 notD (mA isiF (aCons (mV 0) (aCons (mC (.raw (.ty "bool"))) aNil)))) (mCh leD leD (mC (.int 0)) (mV 0) (mV 1)))))
theorem ok_is_number {f : Addr} {fd : FuncData} (F : L2.Fun K "is_number" "is_number" s_is_number f fd) (T : Txt K mg) : FnOk P w K mg base CX0 1 f fd ["value", "most"] (spD K 2 (runF 2 (mr_is_number))) :=
  fn_ok F sc_is_number fun cdv A outer s H E hr => by
    have nd := sc_is_number.nd
    exact (ess_one (es_ret (ev_and (ev_callB call_isi cd_isi (by rfl) T.m_isinstance (by decide +kernel) (ea_cons (ev_v 0) (ea_cons (ev_bty "int" (by rfl) T.m_int (by decide +kernel)) ea_nil))) (ev_and (ev_not (ev_callB call_isi cd_isi (by rfl) T.m_isinstance (by decide +kernel) (ea_cons (ev_v 0) (ea_cons (ev_bty "bool" (by rfl) T.m_bool (by decide +kernel)) ea_nil)))) (ev_one (ev_chain op_le op_le od_le od_le ev_int (ev_v 0) (ev_v 1)))))))
def G_is_number : List D → Option D := runF 2 (mr_is_number)

abbrev s__are_numbers : Stmt := topS 22
theorem sc__are_numbers : FnScope ["values", "most", "value"] ["values", "most"] (defScope s__are_numbers) :=
  ⟨rfl, rfl, rfl, by decide +kernel, rfl, by decide +kernel, by decide +kernel⟩
def mr__are_numbers (g_is_number : List D → Option D) : Ms := (sRet (mAndV (mA isiF (aCons (mV 0) (aCons (mC (.raw (.ty "tuple"))) aNil))) (mA allF (aCons (mLc (itT (mV 0)) [2] (.nm 2) mYes (mA (guardN 2 g_is_number) (aCons (mV 2) (aCons (mV 1) aNil)))) aNil))))
theorem ok__are_numbers {f : Addr} {fd : FuncData} (F : L2.Fun K "_are_numbers" "_are_numbers" s__are_numbers f fd) (T : Txt K mg) {g_is_number : List D → Option D} (c_is_number : C8.Cal P w K mg base 1 "is_number" (spD K 2 g_is_number) []) : FnOk P w K mg base CX0 2 f fd ["values", "most"] (spD K 2 (runF 3 (mr__are_numbers g_is_number))) :=
  fn_ok F sc__are_numbers fun cdv A outer s H E hr => by
    have nd := sc__are_numbers.nd
    exact (ess_one (es_ret (ev_and (ev_callB call_isi cd_isi (by rfl) T.m_isinstance (by decide +kernel) (ea_cons (ev_v 0) (ea_cons (ev_bty "tuple" (by rfl) T.m_tuple (by decide +kernel)) ea_nil))) (ev_one (ev_callB (cr_all rfl) cd_all (by rfl) T.m_all (by decide +kernel) (ea_cons (ev_lc [("value", 2)] nd (ei_tup (ev_v 0)) (by refine blkOk_by ?_; skip; dsimp only [Cx.blk, compEnvC, cxOf, Cx.nox, Cx.wish, envOfC]; decide +kernel) (fun _ _ _ _ _ => (eg_nm 2 nd)) (fun _ _ _ _ _ => ets_nil) (fun _ _ _ _ _ => (ev_call c_is_number hr (by decide) (by rfl) (ea_cons (ev_v 2) (ea_cons (ev_v 1) ea_nil))))) ea_nil))))))
def G__are_numbers : List D → Option D := runF 3 (mr__are_numbers G_is_number)

abbrev s__need_cells : Stmt := topS 19
theorem sc__need_cells : FnScope ["cells", "row"] ["cells"] (defScope s__need_cells) :=
  ⟨rfl, rfl, rfl, by decide +kernel, rfl, by decide +kernel, by decide +kernel⟩
def mr__need_cells (g__are_numbers : List D → Option D) : Ms := (sSeq (sIf (mOr (mNot (mTr (mA isiF (aCons (mV 0) (aCons (mC (.raw (.ty "tuple"))) aNil))))) (mNot (mB (mCh leD leD (mC (.int 1)) (mA lenA (aCons (mV 0) aNil)) (mC (.int 4)))))) sNever sNext)
      (sFor (itT (mV 0)) (.nm 1) (sSeq (sIf (mOr (mNot (mTr (mA (guardN 2 g__are_numbers) (aCons (mV 1) (aCons (mC (.int 9999)) aNil))))) (mNot (mB (mCh leD leD (mC (.int 1)) (mA lenA (aCons (mV 1) aNil)) (mC (.int 4)))))) sNever sNext)
      (sIf (mB (m2 neD (mA lenA (aCons (mV 1) aNil)) (mA lenA (aCons (m2 ixD (mV 0) (mC (.int 0))) aNil)))) sNever sNext))))
theorem ok__need_cells {f : Addr} {fd : FuncData} (F : L2.Fun K "_need_cells" "_need_cells" s__need_cells f fd) (T : Txt K mg) {g__are_numbers : List D → Option D} (c__are_numbers : C8.Cal P w K mg base 2 "_are_numbers" (spD K 2 g__are_numbers) []) : FnOk P w K mg base CX0 3 f fd ["cells"] (spD K 1 (runF 2 (mr__need_cells g__are_numbers))) :=
  fn_ok F sc__need_cells fun cdv A outer s H E hr => by
    have nd := sc__need_cells.nd
    exact (ess_cons (es_if (et_w (ew_or (et_not (et_tr (ev_callB call_isi cd_isi (by rfl) T.m_isinstance (by decide +kernel) (ea_cons (ev_v 0) (ea_cons (ev_bty "tuple" (by rfl) T.m_tuple (by decide +kernel)) ea_nil))))) (ew_or1 (et_not (et_chain op_le op_le od_le od_le ev_int (ev_callB (CallR.or call_len_seq call_len_dT) cd_lenA (by rfl) T.m_len (by decide +kernel) (ea_cons (ev_v 0) ea_nil)) (ev_gi (by rfl) T.g_MOST_ROWS)))))) (ess_one es_never) ess_nil)
      (ess_one (es_for (ei_tup (ev_v 0)) (el_nm 1 nd) (ess_cons (es_if (et_w (ew_or (et_not (et_tr (ev_call c__are_numbers hr (by decide) (by rfl) (ea_cons (ev_v 1) (ea_cons (ev_gi (by rfl) T.g_MOST_PARTS) ea_nil))))) (ew_or1 (et_not (et_chain op_le op_le od_le od_le ev_int (ev_callB (CallR.or call_len_seq call_len_dT) cd_lenA (by rfl) T.m_len (by decide +kernel) (ea_cons (ev_v 1) ea_nil)) (ev_gi (by rfl) T.g_MOST_COLUMNS)))))) (ess_one es_never) ess_nil)
      (ess_one (es_if (et_ne hr.units (ev_callB (CallR.or call_len_seq call_len_dT) cd_lenA (by rfl) T.m_len (by decide +kernel) (ea_cons (ev_v 1) ea_nil)) (ev_callB (CallR.or call_len_seq call_len_dT) cd_lenA (by rfl) T.m_len (by decide +kernel) (ea_cons (ev_ix (ev_v 0) ev_int) ea_nil))) (ess_one es_never) ess_nil))))))
def G__need_cells : List D → Option D := runF 2 (mr__need_cells G__are_numbers)

abbrev s__is_face : Stmt := topS 21
theorem sc__is_face : FnScope ["wall", "cells", "row", "column", "side"] ["wall", "cells"] (defScope s__is_face) :=
  ⟨rfl, rfl, rfl, by decide +kernel, rfl, by decide +kernel, by decide +kernel⟩
def mr__is_face (g_is_number : List D → Option D) : Ms := (sSeq (sIf (mOr (mNot (mTr (mA isiF (aCons (mV 0) (aCons (mC (.raw (.ty "tuple"))) aNil))))) (mB (m2 neD (mA lenA (aCons (mV 0) aNil)) (mC (.int 3))))) (sRet (mC (.bl false))) sNext)
      (sSeq (sUnp (.tp [(.nm 2), (.nm 3), (.nm 4)]) (mV 0))
      (sRet (mAndV (mA (guardN 2 g_is_number) (aCons (mV 2) (aCons (m2 subD (mA lenA (aCons (mV 1) aNil)) (mC (.int 1))) aNil))) (mAndV (mA (guardN 2 g_is_number) (aCons (mV 3) (aCons (m2 subD (mA lenA (aCons (m2 ixD (mV 1) (mC (.int 0))) aNil)) (mC (.int 1))) aNil))) (mA (guardN 2 g_is_number) (aCons (mV 4) (aCons (mC (.int 3)) aNil))))))))
theorem ok__is_face {f : Addr} {fd : FuncData} (F : L2.Fun K "_is_face" "_is_face" s__is_face f fd) (T : Txt K mg) {g_is_number : List D → Option D} (c_is_number : C8.Cal P w K mg base 1 "is_number" (spD K 2 g_is_number) []) : FnOk P w K mg base CX0 2 f fd ["wall", "cells"] (spD K 2 (runF 5 (mr__is_face g_is_number))) :=
  fn_ok F sc__is_face fun cdv A outer s H E hr => by
    have nd := sc__is_face.nd
    exact (ess_cons (es_if (et_w (ew_or (et_not (et_tr (ev_callB call_isi cd_isi (by rfl) T.m_isinstance (by decide +kernel) (ea_cons (ev_v 0) (ea_cons (ev_bty "tuple" (by rfl) T.m_tuple (by decide +kernel)) ea_nil))))) (ew_or1 (et_ne hr.units (ev_callB (CallR.or call_len_seq call_len_dT) cd_lenA (by rfl) T.m_len (by decide +kernel) (ea_cons (ev_v 0) ea_nil)) ev_int)))) (ess_one (es_ret ev_bl)) ess_nil)
      (ess_cons (es_unp (ev_v 0) (el_tp (els_cons (el_nm 2 nd) (els_cons (el_nm 3 nd) (els_cons (el_nm 4 nd) els_nil)))))
      (ess_one (es_ret (ev_and (ev_call c_is_number hr (by decide) (by rfl) (ea_cons (ev_v 2) (ea_cons (ev_subt (ev_callB (CallR.or call_len_seq call_len_dT) cd_lenA (by rfl) T.m_len (by decide +kernel) (ea_cons (ev_v 1) ea_nil)) ev_int) ea_nil))) (ev_and (ev_call c_is_number hr (by decide) (by rfl) (ea_cons (ev_v 3) (ea_cons (ev_subt (ev_callB (CallR.or call_len_seq call_len_dT) cd_lenA (by rfl) T.m_len (by decide +kernel) (ea_cons (ev_ix (ev_v 1) ev_int) ea_nil)) ev_int) ea_nil))) (ev_one (ev_call c_is_number hr (by decide) (by rfl) (ea_cons (ev_v 4) (ea_cons (ev_gi (by rfl) T.g_WEST) ea_nil))))))))))
def G__is_face : List D → Option D := runF 5 (mr__is_face G_is_number)

abbrev s_face_name : Stmt := topS 16
theorem sc_face_name : FnScope ["row", "column", "side"] ["row", "column", "side"] (defScope s_face_name) :=
  ⟨rfl, rfl, rfl, by decide +kernel, rfl, by decide +kernel, by decide +kernel⟩
def mr_face_name : Ms := (sSeq (sIf (mAnd (mB (m2 eqD (mV 2) (mC (.int 0)))) (mB (m2 gtD (mV 0) (mC (.int 0))))) (sRet (mA tupD (aCons (m2 subD (mV 0) (mC (.int 1))) (aCons (mV 1) (aCons (mC (.int 2)) aNil))))) sNext)
      (sSeq (sIf (mAnd (mB (m2 eqD (mV 2) (mC (.int 3)))) (mB (m2 gtD (mV 1) (mC (.int 0))))) (sRet (mA tupD (aCons (mV 0) (aCons (m2 subD (mV 1) (mC (.int 1))) (aCons (mC (.int 1)) aNil))))) sNext)
      (sRet (mA tupD (aCons (mV 0) (aCons (mV 1) (aCons (mV 2) aNil)))))))
theorem ok_face_name {f : Addr} {fd : FuncData} (F : L2.Fun K "face_name" "face_name" s_face_name f fd) (T : Txt K mg) : FnOk P w K mg base CX0 1 f fd ["row", "column", "side"] (spD K 3 (runF 3 (mr_face_name))) :=
  fn_ok F sc_face_name fun cdv A outer s H E hr => by
    have nd := sc_face_name.nd
    exact (ess_cons (es_if (et_w (ew_and (et_eq hr.units (ev_v 2) (ev_gi (by rfl) T.g_NORTH)) (ew_and1 (et_gt (ev_v 0) ev_int)))) (ess_one (es_ret (ev_tup (ea_cons (ev_subt (ev_v 0) ev_int) (ea_cons (ev_v 1) (ea_cons (ev_gi (by rfl) T.g_SOUTH) ea_nil)))))) ess_nil)
      (ess_cons (es_if (et_w (ew_and (et_eq hr.units (ev_v 2) (ev_gi (by rfl) T.g_WEST)) (ew_and1 (et_gt (ev_v 1) ev_int)))) (ess_one (es_ret (ev_tup (ea_cons (ev_v 0) (ea_cons (ev_subt (ev_v 1) ev_int) (ea_cons (ev_gi (by rfl) T.g_EAST) ea_nil)))))) ess_nil)
      (ess_one (es_ret (ev_tup (ea_cons (ev_v 0) (ea_cons (ev_v 1) (ea_cons (ev_v 2) ea_nil))))))))
def G_face_name : List D → Option D := runF 3 (mr_face_name)

abbrev s_shut_faces : Stmt := topS 17
theorem sc_shut_faces : FnScope ["walls", "row", "column", "side"] ["walls"] (defScope s_shut_faces) :=
  ⟨rfl, rfl, rfl, by decide +kernel, rfl, by decide +kernel, by decide +kernel⟩
def mr_shut_faces (g_face_name : List D → Option D) : Ms := (sRet (mDc (itT (mV 0)) [1, 2, 3] (.tp [(.nm 1), (.nm 2), (.nm 3)]) mYes (mA (guardN 3 g_face_name) (aCons (mV 1) (aCons (mV 2) (aCons (mV 3) aNil)))) (mC (.bl true))))
theorem ok_shut_faces {f : Addr} {fd : FuncData} (F : L2.Fun K "shut_faces" "shut_faces" s_shut_faces f fd) (T : Txt K mg) {g_face_name : List D → Option D} (c_face_name : C8.Cal P w K mg base 1 "face_name" (spD K 3 g_face_name) []) : FnOk P w K mg base CX0 2 f fd ["walls"] (spD K 1 (runF 4 (mr_shut_faces g_face_name))) :=
  fn_ok F sc_shut_faces fun cdv A outer s H E hr => by
    have nd := sc_shut_faces.nd
    exact (ess_one (es_ret (ev_dc [("row", 1), ("column", 2), ("side", 3)] nd (ei_tup (ev_v 0)) (by refine blkOk_by ?_; skip; dsimp only [Cx.blk, compEnvC, cxOf, Cx.nox, Cx.wish, envOfC]; decide +kernel) (fun _ _ _ _ _ => (eg_tp (egs_cons (eg_nm 1 nd) (egs_cons (eg_nm 2 nd) (egs_cons (eg_nm 3 nd) egs_nil))))) (fun _ _ _ _ _ => ets_nil) (fun _ _ _ _ _ => (ev_call c_face_name hr (by decide) (by rfl) (ea_cons (ev_v 1) (ea_cons (ev_v 2) (ea_cons (ev_v 3) ea_nil))))) (fun _ _ _ _ _ => ev_bl) (hu_of hr))))
def G_shut_faces : List D → Option D := runF 4 (mr_shut_faces G_face_name)

abbrev s__need_faces : Stmt := topS 20
theorem sc__need_faces : FnScope ["walls", "cells", "wall"] ["walls", "cells"] (defScope s__need_faces) :=
  ⟨rfl, rfl, rfl, by decide +kernel, rfl, by decide +kernel, by decide +kernel⟩
def mr__need_faces (g__is_face : List D → Option D) (g_shut_faces : List D → Option D) : Ms := (sSeq (sIf (mOr (mNot (mTr (mA isiF (aCons (mV 0) (aCons (mC (.raw (.ty "tuple"))) aNil))))) (mB (m2 gtD (mA lenA (aCons (mV 0) aNil)) (mC (.int 40))))) sNever sNext)
      (sSeq (sFor (itT (mV 0)) (.nm 2) (sIf (mNot (mTr (mA (guardN 2 g__is_face) (aCons (mV 2) (aCons (mV 1) aNil))))) sNever sNext))
      (sIf (mB (m2 ltD (mA lenA (aCons (mA (guardN 1 g_shut_faces) (aCons (mV 0) aNil)) aNil)) (mA lenA (aCons (mV 0) aNil)))) sNever sNext)))
theorem ok__need_faces {f : Addr} {fd : FuncData} (F : L2.Fun K "_need_faces" "_need_faces" s__need_faces f fd) (T : Txt K mg) {g__is_face : List D → Option D} {g_shut_faces : List D → Option D} (c__is_face : C8.Cal P w K mg base 2 "_is_face" (spD K 2 g__is_face) []) (c_shut_faces : C8.Cal P w K mg base 2 "shut_faces" (spD K 1 g_shut_faces) []) : FnOk P w K mg base CX0 3 f fd ["walls", "cells"] (spD K 2 (runF 3 (mr__need_faces g__is_face g_shut_faces))) :=
  fn_ok F sc__need_faces fun cdv A outer s H E hr => by
    have nd := sc__need_faces.nd
    exact (ess_cons (es_if (et_w (ew_or (et_not (et_tr (ev_callB call_isi cd_isi (by rfl) T.m_isinstance (by decide +kernel) (ea_cons (ev_v 0) (ea_cons (ev_bty "tuple" (by rfl) T.m_tuple (by decide +kernel)) ea_nil))))) (ew_or1 (et_gt (ev_callB (CallR.or call_len_seq call_len_dT) cd_lenA (by rfl) T.m_len (by decide +kernel) (ea_cons (ev_v 0) ea_nil)) (ev_gi (by rfl) T.g_MOST_WALLS))))) (ess_one es_never) ess_nil)
      (ess_cons (es_for (ei_tup (ev_v 0)) (el_nm 2 nd) (ess_one (es_if (et_not (et_tr (ev_call c__is_face hr (by decide) (by rfl) (ea_cons (ev_v 2) (ea_cons (ev_v 1) ea_nil))))) (ess_one es_never) ess_nil)))
      (ess_one (es_if (et_lt (ev_callB (CallR.or call_len_seq call_len_dT) cd_lenA (by rfl) T.m_len (by decide +kernel) (ea_cons (ev_call c_shut_faces hr (by decide) (by rfl) (ea_cons (ev_v 0) ea_nil)) ea_nil)) (ev_callB (CallR.or call_len_seq call_len_dT) cd_lenA (by rfl) T.m_len (by decide +kernel) (ea_cons (ev_v 0) ea_nil))) (ess_one es_never) ess_nil))))
def G__need_faces : List D → Option D := runF 3 (mr__need_faces G__is_face G_shut_faces)

abbrev s__need_heats : Stmt := topS 18
theorem sc__need_heats : FnScope ["heats"] ["heats"] (defScope s__need_heats) :=
  ⟨rfl, rfl, rfl, by decide +kernel, rfl, by decide +kernel, by decide +kernel⟩
def mr__need_heats (g__are_numbers : List D → Option D) : Ms := (sIf (mOr (mNot (mTr (mA (guardN 2 g__are_numbers) (aCons (mV 0) (aCons (mC (.int 9)) aNil))))) (mB (m2 neD (mA lenA (aCons (mV 0) aNil)) (mC (.int 5))))) sNever sNext)
theorem ok__need_heats {f : Addr} {fd : FuncData} (F : L2.Fun K "_need_heats" "_need_heats" s__need_heats f fd) (T : Txt K mg) {g__are_numbers : List D → Option D} (c__are_numbers : C8.Cal P w K mg base 2 "_are_numbers" (spD K 2 g__are_numbers) []) : FnOk P w K mg base CX0 3 f fd ["heats"] (spD K 1 (runF 1 (mr__need_heats g__are_numbers))) :=
  fn_ok F sc__need_heats fun cdv A outer s H E hr => by
    have nd := sc__need_heats.nd
    exact (ess_one (es_if (et_w (ew_or (et_not (et_tr (ev_call c__are_numbers hr (by decide) (by rfl) (ea_cons (ev_v 0) (ea_cons (ev_gi (by rfl) T.g_MOST_HEAT) ea_nil))))) (ew_or1 (et_ne hr.units (ev_callB (CallR.or call_len_seq call_len_dT) cd_lenA (by rfl) T.m_len (by decide +kernel) (ea_cons (ev_v 0) ea_nil)) ev_int)))) (ess_one es_never) ess_nil))
def G__need_heats : List D → Option D := runF 1 (mr__need_heats G__are_numbers)

abbrev s_need_house : Stmt := topS 14
theorem sc_need_house : FnScope ["house", "heats", "cells", "walls"] ["house"] (defScope s_need_house) :=
  ⟨rfl, rfl, rfl, by decide +kernel, rfl, by decide +kernel, by decide +kernel⟩
def mr_need_house (g__need_cells : List D → Option D) (g__need_faces : List D → Option D) (g__need_heats : List D → Option D) : Ms := (sSeq (sIf (mOr (mNot (mTr (mA isiF (aCons (mV 0) (aCons (mC (.raw (.ty "tuple"))) aNil))))) (mB (m2 neD (mA lenA (aCons (mV 0) aNil)) (mC (.int 3))))) sNever sNext)
      (sSeq (sUnp (.tp [(.nm 1), (.nm 2), (.nm 3)]) (mV 0))
      (sSeq (sDrop (mA (guardN 1 g__need_heats) (aCons (mV 1) aNil)))
      (sSeq (sDrop (mA (guardN 1 g__need_cells) (aCons (mV 2) aNil)))
      (sDrop (mA (guardN 2 g__need_faces) (aCons (mV 3) (aCons (mV 2) aNil))))))))
theorem ok_need_house {f : Addr} {fd : FuncData} (F : L2.Fun K "need_house" "need_house" s_need_house f fd) (T : Txt K mg) {g__need_cells : List D → Option D} {g__need_faces : List D → Option D} {g__need_heats : List D → Option D} (c__need_cells : C8.Cal P w K mg base 3 "_need_cells" (spD K 1 g__need_cells) []) (c__need_faces : C8.Cal P w K mg base 3 "_need_faces" (spD K 2 g__need_faces) []) (c__need_heats : C8.Cal P w K mg base 3 "_need_heats" (spD K 1 g__need_heats) []) : FnOk P w K mg base CX0 4 f fd ["house"] (spD K 1 (runF 4 (mr_need_house g__need_cells g__need_faces g__need_heats))) :=
  fn_ok F sc_need_house fun cdv A outer s H E hr => by
    have nd := sc_need_house.nd
    exact (ess_cons (es_if (et_w (ew_or (et_not (et_tr (ev_callB call_isi cd_isi (by rfl) T.m_isinstance (by decide +kernel) (ea_cons (ev_v 0) (ea_cons (ev_bty "tuple" (by rfl) T.m_tuple (by decide +kernel)) ea_nil))))) (ew_or1 (et_ne hr.units (ev_callB (CallR.or call_len_seq call_len_dT) cd_lenA (by rfl) T.m_len (by decide +kernel) (ea_cons (ev_v 0) ea_nil)) ev_int)))) (ess_one es_never) ess_nil)
      (ess_cons (es_unp (ev_v 0) (el_tp (els_cons (el_nm 1 nd) (els_cons (el_nm 2 nd) (els_cons (el_nm 3 nd) els_nil)))))
      (ess_cons (es_drop (ev_call c__need_heats hr (by decide) (by rfl) (ea_cons (ev_v 1) ea_nil)))
      (ess_cons (es_drop (ev_call c__need_cells hr (by decide) (by rfl) (ea_cons (ev_v 2) ea_nil)))
      (ess_one (es_drop (ev_call c__need_faces hr (by decide) (by rfl) (ea_cons (ev_v 3) (ea_cons (ev_v 2) ea_nil)))))))))
def G_need_house : List D → Option D := runF 4 (mr_need_house G__need_cells G__need_faces G__need_heats)

abbrev s__numbers_behind : Stmt := topS 32
theorem sc__numbers_behind : FnScope ["word", "rows", "other", "numbers"] ["word", "rows"] (defScope s__numbers_behind) :=
  ⟨rfl, rfl, rfl, by decide +kernel, rfl, by decide +kernel, by decide +kernel⟩
def mr__numbers_behind : Ms := (sRet (mA tupF (aCons (mLc (itL (mV 1)) [2, 3] (.tp [(.nm 2), (.nm 3)]) (mB (m2 eqD (mV 2) (mV 0))) (mV 3)) aNil)))
theorem ok__numbers_behind {f : Addr} {fd : FuncData} (F : L2.Fun K "_numbers_behind" "_numbers_behind" s__numbers_behind f fd) (T : Txt K mg) : FnOk P w K mg base CX0 1 f fd ["word", "rows"] (spD K 2 (runF 4 (mr__numbers_behind))) :=
  fn_ok F sc__numbers_behind fun cdv A outer s H E hr => by
    have nd := sc__numbers_behind.nd
    exact (ess_one (es_ret (ev_callT call_tuple_of cd_tuple (by rfl) T.m_tuple (by decide +kernel) (ea_cons (ev_lc [("other", 2), ("numbers", 3)] nd (ei_list (ev_v 1)) (by refine blkOk_by ?_; skip; dsimp only [Cx.blk, compEnvC, cxOf, Cx.nox, Cx.wish, envOfC]; decide +kernel) (fun _ _ _ _ _ => (eg_tp (egs_cons (eg_nm 2 nd) (egs_cons (eg_nm 3 nd) egs_nil)))) (fun _ _ _ _ _ => (ets_one (et_eq hr.units (ev_v 2) (ev_v 0)))) (fun _ _ _ _ _ => (ev_v 3))) ea_nil))))
def G__numbers_behind : List D → Option D := runF 4 (mr__numbers_behind)

abbrev s__is_count : Stmt := topS 30
theorem sc__is_count : FnScope ["word", "many"] ["word", "many"] (defScope s__is_count) :=
  ⟨rfl, rfl, rfl, by decide +kernel, rfl, by decide +kernel, by decide +kernel⟩
def mr__is_count : Ms := (sSeq (sIf (mB (m2 eqD (mV 0) (mC (.str "heats")))) (sRet (m2 eqD (mV 1) (mC (.int 5)))) sNext)
      (sSeq (sIf (mB (m2 eqD (mV 0) (mC (.str "wall")))) (sRet (m2 eqD (mV 1) (mC (.int 3)))) sNext)
      (sRet (mAndV (m2 eqD (mV 0) (mC (.str "row"))) (m2 gtD (mV 1) (mC (.int 0)))))))
theorem ok__is_count {f : Addr} {fd : FuncData} (F : L2.Fun K "_is_count" "_is_count" s__is_count f fd) (T : Txt K mg) : FnOk P w K mg base CX0 1 f fd ["word", "many"] (spD K 2 (runF 2 (mr__is_count))) :=
  fn_ok F sc__is_count fun cdv A outer s H E hr => by
    have nd := sc__is_count.nd
    exact (ess_cons (es_if (et_eq hr.units (ev_v 0) (ev_gs (by rfl) T.g_HEATS)) (ess_one (es_ret (ev_eq hr.units (ev_v 1) ev_int))) ess_nil)
      (ess_cons (es_if (et_eq hr.units (ev_v 0) (ev_gs (by rfl) T.g_WALL)) (ess_one (es_ret (ev_eq hr.units (ev_v 1) ev_int))) ess_nil)
      (ess_one (es_ret (ev_and (ev_eq hr.units (ev_v 0) (ev_gs (by rfl) T.g_ROW)) (ev_one (ev_gt (ev_v 1) ev_int)))))))
def G__is_count : List D → Option D := runF 2 (mr__is_count)

abbrev s__is_written_number : Stmt := topS 31
theorem sc__is_written_number : FnScope ["figures"] ["figures"] (defScope s__is_written_number) :=
  ⟨rfl, rfl, rfl, by decide +kernel, rfl, by decide +kernel, by decide +kernel⟩
def mr__is_written_number : Ms := (sSeq (sIf (mOr (mNot (mTr (m1 ascD (mV 0)))) (mOr (mNot (mTr (m1 digD (mV 0)))) (mB (m2 gtD (mA lenS (aCons (mV 0) aNil)) (mC (.int 4)))))) (sRet (mC (.bl false))) sNext)
      (sRet (mOrV (m2 eqD (mV 0) (mC (.str "0"))) (m2 neD (m2 ixS (mV 0) (mC (.int 0))) (mC (.str "0"))))))
theorem ok__is_written_number {f : Addr} {fd : FuncData} (F : L2.Fun K "_is_written_number" "_is_written_number" s__is_written_number f fd) (T : Txt K mg) : FnOk P w K mg base CX0 1 f fd ["figures"] (spD K 1 (runF 1 (mr__is_written_number))) :=
  fn_ok F sc__is_written_number fun cdv A outer s H E hr => by
    have nd := sc__is_written_number.nd
    exact (ess_cons (es_if (et_w (ew_or (et_not (et_tr (ev_asc (ev_v 0)))) (ew_or (et_not (et_tr (ev_dig (ev_v 0)))) (ew_or1 (et_gt (ev_callB call_len_str cd_lenS (by rfl) T.m_len (by decide +kernel) (ea_cons (ev_v 0) ea_nil)) (ev_gi (by rfl) T.g_MOST_FIGURES)))))) (ess_one (es_ret ev_bl)) ess_nil)
      (ess_one (es_ret (ev_or (ev_eq hr.units (ev_v 0) ev_str) (ev_one (ev_ne hr.units (ev_ixS (ev_v 0) ev_int) ev_str))))))
def G__is_written_number : List D → Option D := runF 1 (mr__is_written_number)

abbrev s__read_row : Stmt := topS 29
theorem sc__read_row : FnScope ["row", "word", "numbers", "number"] ["row"] (defScope s__read_row) :=
  ⟨rfl, rfl, rfl, by decide +kernel, rfl, by decide +kernel, by decide +kernel⟩
def mr__read_row (g__is_count : List D → Option D) (g__is_written_number : List D → Option D) : Ms := (sSeq (sStar 1 2 (m2 splitD (mV 0) (mC (.str " "))))
      (sSeq (sIf (mNot (mTr (mA (guardN 2 g__is_count) (aCons (mV 1) (aCons (mA lenA (aCons (mV 2) aNil)) aNil))))) sNever sNext)
      (sSeq (sIf (mNot (mTr (mA allF (aCons (mLc (itL (mV 2)) [3] (.nm 3) mYes (mA (guardN 1 g__is_written_number) (aCons (mV 3) aNil))) aNil)))) sNever sNext)
      (sRet (mA tupD (aCons (mV 1) (aCons (mA tupF (aCons (mLc (itL (mV 2)) [3] (.nm 3) mYes (mA intS (aCons (mV 3) aNil))) aNil)) aNil)))))))
theorem ok__read_row {f : Addr} {fd : FuncData} (F : L2.Fun K "_read_row" "_read_row" s__read_row f fd) (T : Txt K mg) {g__is_count : List D → Option D} {g__is_written_number : List D → Option D} (c__is_count : C8.Cal P w K mg base 1 "_is_count" (spD K 2 g__is_count) []) (c__is_written_number : C8.Cal P w K mg base 1 "_is_written_number" (spD K 1 g__is_written_number) []) : FnOk P w K mg base CX0 2 f fd ["row"] (spD K 1 (runF 4 (mr__read_row g__is_count g__is_written_number))) :=
  fn_ok F sc__read_row fun cdv A outer s H E hr => by
    have nd := sc__read_row.nd
    exact (ess_cons (es_star 1 2 nd (ev_split (ev_v 0) ev_str))
      (ess_cons (es_if (et_not (et_tr (ev_call c__is_count hr (by decide) (by rfl) (ea_cons (ev_v 1) (ea_cons (ev_callB (CallR.or call_len_seq call_len_dT) cd_lenA (by rfl) T.m_len (by decide +kernel) (ea_cons (ev_v 2) ea_nil)) ea_nil))))) (ess_one es_never) ess_nil)
      (ess_cons (es_if (et_not (et_tr (ev_callB (cr_all rfl) cd_all (by rfl) T.m_all (by decide +kernel) (ea_cons (ev_lc [("number", 3)] nd (ei_list (ev_v 2)) (by refine blkOk_by ?_; skip; dsimp only [Cx.blk, compEnvC, cxOf, Cx.nox, Cx.wish, envOfC]; decide +kernel) (fun _ _ _ _ _ => (eg_nm 3 nd)) (fun _ _ _ _ _ => ets_nil) (fun _ _ _ _ _ => (ev_call c__is_written_number hr (by decide) (by rfl) (ea_cons (ev_v 3) ea_nil)))) ea_nil)))) (ess_one es_never) ess_nil)
      (ess_one (es_ret (ev_tup (ea_cons (ev_v 1) (ea_cons (ev_callT call_tuple_of cd_tuple (by rfl) T.m_tuple (by decide +kernel) (ea_cons (ev_lc [("number", 3)] nd (ei_list (ev_v 2)) (by refine blkOk_by ?_; skip; dsimp only [Cx.blk, compEnvC, cxOf, Cx.nox, Cx.wish, envOfC]; decide +kernel) (fun _ _ _ _ _ => (eg_nm 3 nd)) (fun _ _ _ _ _ => ets_nil) (fun _ _ _ _ _ => (ev_callT call_int_str cd_intS (by rfl) T.m_int (by decide +kernel) (ea_cons (ev_v 3) ea_nil)))) ea_nil)) ea_nil))))))))
def G__read_row : List D → Option D := runF 4 (mr__read_row G__is_count G__is_written_number)

abbrev s_read : Stmt := topS 28
theorem sc_read : FnScope ["text", "rows", "row", "heats", "cells", "walls", "word", "_", "house"] ["text"] (defScope s_read) :=
  ⟨rfl, rfl, rfl, by decide +kernel, rfl, by decide +kernel, by decide +kernel⟩
def mr_read (g__numbers_behind : List D → Option D) (g__read_row : List D → Option D) (g_need_house : List D → Option D) : Ms := (sSeq (sSet 1 (mLc (itL (m2 splitD (mV 0) (mC (.str "\n")))) [2] (.nm 2) mYes (mA (guardN 1 g__read_row) (aCons (mV 2) aNil))))
      (sSeq (sSet 3 (mA (guardN 2 g__numbers_behind) (aCons (mC (.str "heats")) (aCons (mV 1) aNil))))
      (sSeq (sSet 4 (mA (guardN 2 g__numbers_behind) (aCons (mC (.str "row")) (aCons (mV 1) aNil))))
      (sSeq (sSet 5 (mA (guardN 2 g__numbers_behind) (aCons (mC (.str "wall")) (aCons (mV 1) aNil))))
      (sSeq (sIf (mB (m2 neD (mLc (itL (mV 1)) [6, 7] (.tp [(.nm 6), (.nm 7)]) mYes (mV 6)) (m2 addD (m2 addD (mA lstD (aCons (mC (.str "heats")) aNil)) (m2 repD (mA lstD (aCons (mC (.str "row")) aNil)) (mA lenA (aCons (mV 4) aNil)))) (m2 repD (mA lstD (aCons (mC (.str "wall")) aNil)) (mA lenA (aCons (mV 5) aNil)))))) sNever sNext)
      (sSeq (sSet 8 (mA tupD (aCons (m2 ixD (mV 3) (mC (.int 0))) (aCons (mV 4) (aCons (mV 5) aNil)))))
      (sSeq (sDrop (mA (guardN 1 g_need_house) (aCons (mV 8) aNil)))
      (sRet (mV 8)))))))))
theorem ok_read {f : Addr} {fd : FuncData} (F : L2.Fun K "read" "read" s_read f fd) (T : Txt K mg) {g__numbers_behind : List D → Option D} {g__read_row : List D → Option D} {g_need_house : List D → Option D} (c__numbers_behind : C8.Cal P w K mg base 1 "_numbers_behind" (spD K 2 g__numbers_behind) []) (c__read_row : C8.Cal P w K mg base 2 "_read_row" (spD K 1 g__read_row) []) (c_need_house : C8.Cal P w K mg base 4 "need_house" (spD K 1 g_need_house) []) : FnOk P w K mg base CX0 5 f fd ["text"] (spD K 1 (runF 9 (mr_read g__numbers_behind g__read_row g_need_house))) :=
  fn_ok F sc_read fun cdv A outer s H E hr => by
    have nd := sc_read.nd
    exact (ess_cons (es_lc 1 [("row", 2)] nd (ei_list (ev_split (ev_v 0) ev_str)) (by refine blkOk_by ?_; skip; dsimp only [Cx.blk, compEnvC, cxOf, Cx.nox, Cx.wish, envOfC]; decide +kernel) (fun _ _ _ _ _ => (eg_nm 2 nd)) (fun _ _ _ _ _ => ets_nil) (fun _ _ _ _ _ => (ev_call c__read_row hr (by decide) (by rfl) (ea_cons (ev_v 2) ea_nil))))
      (ess_cons (es_set 3 nd (ev_call c__numbers_behind hr (by decide) (by rfl) (ea_cons (ev_gs (by rfl) T.g_HEATS) (ea_cons (ev_v 1) ea_nil))))
      (ess_cons (es_set 4 nd (ev_call c__numbers_behind hr (by decide) (by rfl) (ea_cons (ev_gs (by rfl) T.g_ROW) (ea_cons (ev_v 1) ea_nil))))
      (ess_cons (es_set 5 nd (ev_call c__numbers_behind hr (by decide) (by rfl) (ea_cons (ev_gs (by rfl) T.g_WALL) (ea_cons (ev_v 1) ea_nil))))
      (ess_cons (es_if (et_ne hr.units (ev_lc [("word", 6), ("_", 7)] nd (ei_list (ev_v 1)) (by refine blkOk_by ?_; skip; dsimp only [Cx.blk, compEnvC, cxOf, Cx.nox, Cx.wish, envOfC]; decide +kernel) (fun _ _ _ _ _ => (eg_tp (egs_cons (eg_nm 6 nd) (egs_cons (eg_nm 7 nd) egs_nil)))) (fun _ _ _ _ _ => ets_nil) (fun _ _ _ _ _ => (ev_v 6))) (ev_add (ev_add (ev_lst (ea_cons (ev_gs (by rfl) T.g_HEATS) ea_nil)) (ev_rep (ev_lst (ea_cons (ev_gs (by rfl) T.g_ROW) ea_nil)) (ev_callB (CallR.or call_len_seq call_len_dT) cd_lenA (by rfl) T.m_len (by decide +kernel) (ea_cons (ev_v 4) ea_nil)))) (ev_rep (ev_lst (ea_cons (ev_gs (by rfl) T.g_WALL) ea_nil)) (ev_callB (CallR.or call_len_seq call_len_dT) cd_lenA (by rfl) T.m_len (by decide +kernel) (ea_cons (ev_v 5) ea_nil))))) (ess_one es_never) ess_nil)
      (ess_cons (es_set 8 nd (ev_tup (ea_cons (ev_ix (ev_v 3) ev_int) (ea_cons (ev_v 4) (ea_cons (ev_v 5) ea_nil)))))
      (ess_cons (es_drop (ev_call c_need_house hr (by decide) (by rfl) (ea_cons (ev_v 8) ea_nil)))
      (ess_one (es_ret (ev_v 8))))))))))
def G_read : List D → Option D := runF 9 (mr_read G__numbers_behind G__read_row G_need_house)

abbrev s__law_cell_at : Stmt := topS 34
theorem sc__law_cell_at : FnScope ["_law_script", "_law_k"] ["_law_script", "_law_k"] (defScope s__law_cell_at) :=
  ⟨rfl, rfl, rfl, by decide +kernel, rfl, by decide +kernel, by decide +kernel⟩
def mr__law_cell_at : Ms := (sSeq (sIf (mB (m2 ltD (mV 1) (mA lenA (aCons (mV 0) aNil)))) (sRet (m2 ixD (mV 0) (mV 1))) sNext)
      (sRet (mC (.int 0))))
theorem ok__law_cell_at {f : Addr} {fd : FuncData} (F : L2.Fun K "_law_cell_at" "_law_cell_at" s__law_cell_at f fd) (T : Txt K mg) : FnOk P w K mg base CX0 1 f fd ["_law_script", "_law_k"] (spD K 2 (runF 2 (mr__law_cell_at))) :=
  fn_ok F sc__law_cell_at fun cdv A outer s H E hr => by
    have nd := sc__law_cell_at.nd
    exact (ess_cons (es_if (et_lt (ev_v 1) (ev_callB (CallR.or call_len_seq call_len_dT) cd_lenA (by rfl) T.m_len (by decide +kernel) (ea_cons (ev_v 0) ea_nil))) (ess_one (es_ret (ev_ix (ev_v 0) (ev_v 1)))) ess_nil)
      (ess_one (es_ret ev_int)))
def G__law_cell_at : List D → Option D := runF 2 (mr__law_cell_at)

abbrev s__law_dice : Stmt := topS 35
theorem sc__law_dice : FnScope ["_law_cell"] ["_law_cell"] (defScope s__law_dice) :=
  ⟨rfl, rfl, rfl, by decide +kernel, rfl, by decide +kernel, by decide +kernel⟩
def mr__law_dice : Ms := (sRet (mA lstD (aCons (m2 modD (mV 0) (mC (.int 2147483647))) (aCons (m2 mulD (m2 divW (mV 0) (mC (.int 2147483647))) (mA intB (aCons (m2 geD (mV 0) (m2 powD (mC (.int 10)) (mC (.int 18)))) aNil))) aNil))))
theorem ok__law_dice {f : Addr} {fd : FuncData} (F : L2.Fun K "_law_dice" "_law_dice" s__law_dice f fd) (T : Txt K mg) : FnOk P w K mg base CX0 1 f fd ["_law_cell"] (spD K 1 (runF 1 (mr__law_dice))) :=
  fn_ok F sc__law_dice fun cdv A outer s H E hr => by
    have nd := sc__law_dice.nd
    exact (ess_one (es_ret (ev_lst (ea_cons (ev_mod (ev_v 0) ev_int) (ea_cons (ev_mul (ev_divW (ev_v 0) ev_int) (ev_callT call_int1 cd_intB (by rfl) T.m_int (by decide +kernel) (ea_cons (ev_ge (ev_v 0) (ev_pow ev_int ev_int)) ea_nil))) ea_nil)))))
def G__law_dice : List D → Option D := runF 1 (mr__law_dice)

abbrev s__law_roll : Stmt := topS 36
theorem sc__law_roll : FnScope ["_law_dice_here", "_law_most", "_law_found"] ["_law_dice_here", "_law_most"] (defScope s__law_roll) :=
  ⟨rfl, rfl, rfl, by decide +kernel, rfl, by decide +kernel, by decide +kernel⟩
def mr__law_roll : Ms := (sSeq (sIf (mB (m2 gtD (m2 ixD (mV 0) (mC (.int 1))) (mC (.int 0)))) (sSeq (sSetF 2 (m2 modD (m2 ixD (mV 0) (mC (.int 1))) (mV 1)))
      (sSeq (ySub 0 (mC (.int 1)) (m2 divD (m2 ixD (mV 0) (mC (.int 1))) (mV 1)))
      (sRet (mV 2)))) sNext)
      (sSeq (ySub 0 (mC (.int 0)) (m2 modD (m2 addD (m2 mulD (m2 ixD (mV 0) (mC (.int 0))) (mC (.int 48271))) (mC (.int 11))) (mC (.int 2147483647))))
      (sRet (m2 modD (m2 divD (m2 ixD (mV 0) (mC (.int 0))) (mC (.int 7))) (mV 1)))))
theorem ok__law_roll {f : Addr} {fd : FuncData} (F : L2.Fun K "_law_roll" "_law_roll" s__law_roll f fd) (T : Txt K mg) : FnOk P w K mg base CX0 1 f fd ["_law_dice_here", "_law_most"] (spX K 2 (runX 3 (mr__law_roll))) :=
  fn_okX F sc__law_roll (by decide) fun cdv A outer s H E hr => by
    have nd := sc__law_roll.nd
    exact (ess_cons (es_if (et_gt (ev_ix (ev_v 0) ev_int) ev_int) (ess_cons (es_setF 2 nd (ev_mod (ev_ix (ev_v 0) ev_int) (ev_v 1)))
      (ess_cons (ys_sub 0 (ev_div (ev_ix (ev_v 0) ev_int) (ev_v 1)) ev_int)
      (ess_one (es_ret (ev_v 2))))) ess_nil)
      (ess_cons (ys_sub 0 (ev_mod (ev_add (ev_mul (ev_ix (ev_v 0) ev_int) ev_int) ev_int) ev_int) ev_int)
      (ess_one (es_ret (ev_mod (ev_div (ev_ix (ev_v 0) ev_int) ev_int) (ev_v 1))))))
def G__law_roll : List D → List D → Option (D × List D) := runX 3 (mr__law_roll)

abbrev s__law_whole : Stmt := topS 37
theorem sc__law_whole : FnScope ["_law_found"] ["_law_found"] (defScope s__law_whole) :=
  ⟨rfl, rfl, rfl, by decide +kernel, rfl, by decide +kernel, by decide +kernel⟩
def mr__law_whole : Ms := (sRet (mAndV (mA isiF (aCons (mV 0) (aCons (mC (.raw (.ty "int"))) aNil))) (m1 notD (mA isiF (aCons (mV 0) (aCons (mC (.raw (.ty "bool"))) aNil))))))
theorem ok__law_whole {f : Addr} {fd : FuncData} (F : L2.Fun K "_law_whole" "_law_whole" s__law_whole f fd) (T : Txt K mg) : FnOk P w K mg base CX0 1 f fd ["_law_found"] (spD K 1 (runF 1 (mr__law_whole))) :=
  fn_ok F sc__law_whole fun cdv A outer s H E hr => by
    have nd := sc__law_whole.nd
    exact (ess_one (es_ret (ev_and (ev_callB call_isi cd_isi (by rfl) T.m_isinstance (by decide +kernel) (ea_cons (ev_v 0) (ea_cons (ev_bty "int" (by rfl) T.m_int (by decide +kernel)) ea_nil))) (ev_one (ev_not (ev_callB call_isi cd_isi (by rfl) T.m_isinstance (by decide +kernel) (ea_cons (ev_v 0) (ea_cons (ev_bty "bool" (by rfl) T.m_bool (by decide +kernel)) ea_nil))))))))
def G__law_whole : List D → Option D := runF 1 (mr__law_whole)

abbrev s__law_heats : Stmt := topS 38
theorem sc__law_heats : FnScope ["_law_dice_here", "_law_sort", "_law_out", "_law_k", "_law_heat"] ["_law_dice_here"] (defScope s__law_heats) :=
  ⟨rfl, rfl, rfl, by decide +kernel, rfl, by decide +kernel, by decide +kernel⟩
def mr__law_heats (g__law_roll : List D → List D → Option (D × List D)) : Ms := (sSeq (ySet 1 (xCall 0 2 g__law_roll (aCons (mC (.int 4)) aNil)))
      (sSeq (sSetO 2 (mA lstD aNil))
      (sSeq (sFor (itR1 (aCons (mC (.int 5)) aNil)) (.nm 3) (sSeq (ySet 4 (x2 ixD (xA lstD (xCons (xCall 0 2 g__law_roll (aCons (mC (.int 4)) aNil)) (xCons (xCall 0 2 g__law_roll (aCons (mC (.int 10)) aNil)) (xCons (xP (mC (.int 0))) (xCons (x2 addD (xP (mC (.int 1))) (xCall 0 2 g__law_roll (aCons (mC (.int 3)) aNil))) xNil))))) (xP (mV 1))))
      (yApp 2 (x2 mulD (xP (mV 4)) (xA intB (xCons (x2 gtD (xCall 0 2 g__law_roll (aCons (mC (.int 6)) aNil)) (xP (mC (.int 0)))) xNil))))))
      (sRet (mA tupF (aCons (mV 2) aNil))))))
theorem ok__law_heats {f : Addr} {fd : FuncData} (F : L2.Fun K "_law_heats" "_law_heats" s__law_heats f fd) (T : Txt K mg) {g__law_roll : List D → List D → Option (D × List D)} (c__law_roll : C8.Cal P w K mg base 1 "_law_roll" (spX K 2 g__law_roll) []) : FnOk P w K mg base CX0 2 f fd ["_law_dice_here"] (spX K 1 (runX 5 (mr__law_heats g__law_roll))) :=
  fn_okX F sc__law_heats (by decide) fun cdv A outer s H E hr => by
    have nd := sc__law_heats.nd
    exact (ess_cons (ys_set 1 nd (xv_call 0 c__law_roll hr (by decide) (by rfl) (ea_cons ev_int ea_nil)))
      (ess_cons (es_setO 2 nd (ev_lst ea_nil))
      (ess_cons (es_for (ei_range1 (by rfl) T.m_range (ea_cons ev_int ea_nil)) (el_nm 3 nd) (ess_cons (ys_set 4 nd (xv_sub ix_seq od_ix (xv_lst (xa_cons (xv_call 0 c__law_roll hr (by decide) (by rfl) (ea_cons ev_int ea_nil)) (xa_cons (xv_call 0 c__law_roll hr (by decide) (by rfl) (ea_cons ev_int ea_nil)) (xa_cons (xv_p ev_int) (xa_cons (xv_bin (OpR.or op_add op_cat) od_add (xv_p ev_int) (xv_call 0 c__law_roll hr (by decide) (by rfl) (ea_cons ev_int ea_nil))) xa_nil))))) (xv_p (ev_v 1))))
      (ess_one (ys_app 2 (ye_app 2 (xv_bin op_mul od_mul (xv_p (ev_v 4)) (xv_callT call_int1 cd_intB (by rfl) T.m_int (by decide +kernel) (xa_cons (xv_cmp op_gt od_gt (xv_call 0 c__law_roll hr (by decide) (by rfl) (ea_cons ev_int ea_nil)) (xv_p ev_int)) xa_nil))))))))
      (ess_one (es_ret (ev_callT call_tuple_of cd_tuple (by rfl) T.m_tuple (by decide +kernel) (ea_cons (ev_v 2) ea_nil)))))))
def G__law_heats : List D → List D → Option (D × List D) := runX 5 (mr__law_heats G__law_roll)

abbrev s__law_cells : Stmt := topS 39
theorem sc__law_cells : FnScope ["_law_dice_here", "_law_high", "_law_wide", "_law_sort", "_law_rows", "_law_row", "_law_out", "_law_column", "_law_parts"] ["_law_dice_here", "_law_high", "_law_wide"] (defScope s__law_cells) :=
  ⟨rfl, rfl, rfl, by decide +kernel, rfl, by decide +kernel, by decide +kernel⟩
def mr__law_cells (g__law_roll : List D → List D → Option (D × List D)) : Ms := (sSeq (ySet 3 (xCall 0 2 g__law_roll (aCons (mC (.int 4)) aNil)))
      (sSeq (sSetO 4 (mA lstD aNil))
      (sSeq (sFor (itR1 (aCons (mV 1) aNil)) (.nm 5) (sSeq (sSetO 6 (mA lstD aNil))
      (sSeq (sFor (itR1 (aCons (mV 2) aNil)) (.nm 7) (sSeq (ySet 8 (x2 ixD (xA lstD (xCons (xCall 0 2 g__law_roll (aCons (mC (.int 6)) aNil)) (xCons (x2 addD (xP (mC (.int 1))) (xCall 0 2 g__law_roll (aCons (mC (.int 40)) aNil))) (xCons (xCall 0 2 g__law_roll (aCons (mC (.int 10000)) aNil)) (xCons (x2 addD (xP (mC (.int 9))) (xCall 0 2 g__law_roll (aCons (mC (.int 2)) aNil))) xNil))))) (xP (mV 3))))
      (yApp 6 (x2 mulD (xP (mV 8)) (xA intB (xCons (x2 gtD (xCall 0 2 g__law_roll (aCons (mC (.int 5)) aNil)) (xP (mC (.int 0)))) xNil))))))
      (sAppF 4 (mA tupF (aCons (mV 6) aNil))))))
      (sRet (mA tupF (aCons (mV 4) aNil))))))
theorem ok__law_cells {f : Addr} {fd : FuncData} (F : L2.Fun K "_law_cells" "_law_cells" s__law_cells f fd) (T : Txt K mg) {g__law_roll : List D → List D → Option (D × List D)} (c__law_roll : C8.Cal P w K mg base 1 "_law_roll" (spX K 2 g__law_roll) []) : FnOk P w K mg base CX0 2 f fd ["_law_dice_here", "_law_high", "_law_wide"] (spX K 3 (runX 9 (mr__law_cells g__law_roll))) :=
  fn_okX F sc__law_cells (by decide) fun cdv A outer s H E hr => by
    have nd := sc__law_cells.nd
    exact (ess_cons (ys_set 3 nd (xv_call 0 c__law_roll hr (by decide) (by rfl) (ea_cons ev_int ea_nil)))
      (ess_cons (es_setO 4 nd (ev_lst ea_nil))
      (ess_cons (es_for (ei_range1 (by rfl) T.m_range (ea_cons (ev_v 1) ea_nil)) (el_nm 5 nd) (ess_cons (es_setO 6 nd (ev_lst ea_nil))
      (ess_cons (es_for (ei_range1 (by rfl) T.m_range (ea_cons (ev_v 2) ea_nil)) (el_nm 7 nd) (ess_cons (ys_set 8 nd (xv_sub ix_seq od_ix (xv_lst (xa_cons (xv_call 0 c__law_roll hr (by decide) (by rfl) (ea_cons ev_int ea_nil)) (xa_cons (xv_bin (OpR.or op_add op_cat) od_add (xv_p ev_int) (xv_call 0 c__law_roll hr (by decide) (by rfl) (ea_cons ev_int ea_nil))) (xa_cons (xv_call 0 c__law_roll hr (by decide) (by rfl) (ea_cons ev_int ea_nil)) (xa_cons (xv_bin (OpR.or op_add op_cat) od_add (xv_p ev_int) (xv_call 0 c__law_roll hr (by decide) (by rfl) (ea_cons ev_int ea_nil))) xa_nil))))) (xv_p (ev_v 3))))
      (ess_one (ys_app 6 (ye_app 6 (xv_bin op_mul od_mul (xv_p (ev_v 8)) (xv_callT call_int1 cd_intB (by rfl) T.m_int (by decide +kernel) (xa_cons (xv_cmp op_gt od_gt (xv_call 0 c__law_roll hr (by decide) (by rfl) (ea_cons ev_int ea_nil)) (xv_p ev_int)) xa_nil))))))))
      (ess_one (es_appF 4 (pe_app 4 (ev_callT call_tuple_of cd_tuple (by rfl) T.m_tuple (by decide +kernel) (ea_cons (ev_v 6) ea_nil))))))))
      (ess_one (es_ret (ev_callT call_tuple_of cd_tuple (by rfl) T.m_tuple (by decide +kernel) (ea_cons (ev_v 4) ea_nil)))))))
def G__law_cells : List D → List D → Option (D × List D) := runX 9 (mr__law_cells G__law_roll)

abbrev s__law_beside : Stmt := topS 40
theorem sc__law_beside : FnScope ["_law_row", "_law_column", "_law_side"] ["_law_row", "_law_column", "_law_side"] (defScope s__law_beside) :=
  ⟨rfl, rfl, rfl, by decide +kernel, rfl, by decide +kernel, by decide +kernel⟩
def mr__law_beside : Ms := (sRet (mA tupD (aCons (m2 addD (mV 0) (m2 ixD (mA lstD (aCons (m1 negD (mC (.int 1))) (aCons (mC (.int 0)) (aCons (mC (.int 1)) (aCons (mC (.int 0)) aNil))))) (mV 2))) (aCons (m2 addD (mV 1) (m2 ixD (mA lstD (aCons (mC (.int 0)) (aCons (mC (.int 1)) (aCons (mC (.int 0)) (aCons (m1 negD (mC (.int 1))) aNil))))) (mV 2))) aNil))))
theorem ok__law_beside {f : Addr} {fd : FuncData} (F : L2.Fun K "_law_beside" "_law_beside" s__law_beside f fd) (T : Txt K mg) : FnOk P w K mg base CX0 1 f fd ["_law_row", "_law_column", "_law_side"] (spD K 3 (runF 3 (mr__law_beside))) :=
  fn_ok F sc__law_beside fun cdv A outer s H E hr => by
    have nd := sc__law_beside.nd
    exact (ess_one (es_ret (ev_tup (ea_cons (ev_add (ev_v 0) (ev_ix (ev_lst (ea_cons (ev_neg ev_int) (ea_cons ev_int (ea_cons ev_int (ea_cons ev_int ea_nil))))) (ev_v 2))) (ea_cons (ev_add (ev_v 1) (ev_ix (ev_lst (ea_cons ev_int (ea_cons ev_int (ea_cons ev_int (ea_cons (ev_neg ev_int) ea_nil))))) (ev_v 2))) ea_nil)))))
def G__law_beside : List D → Option D := runF 3 (mr__law_beside)

abbrev s__law_is_cell : Stmt := topS 41
theorem sc__law_is_cell : FnScope ["_law_cells_here", "_law_row", "_law_column"] ["_law_cells_here", "_law_row", "_law_column"] (defScope s__law_is_cell) :=
  ⟨rfl, rfl, rfl, by decide +kernel, rfl, by decide +kernel, by decide +kernel⟩
def mr__law_is_cell : Ms := (sRet (mAndV (mCh leD ltD (mC (.int 0)) (mV 1) (mA lenA (aCons (mV 0) aNil))) (mCh leD ltD (mC (.int 0)) (mV 2) (mA lenA (aCons (m2 ixD (mV 0) (mC (.int 0))) aNil)))))
theorem ok__law_is_cell {f : Addr} {fd : FuncData} (F : L2.Fun K "_law_is_cell" "_law_is_cell" s__law_is_cell f fd) (T : Txt K mg) : FnOk P w K mg base CX0 1 f fd ["_law_cells_here", "_law_row", "_law_column"] (spD K 3 (runF 3 (mr__law_is_cell))) :=
  fn_ok F sc__law_is_cell fun cdv A outer s H E hr => by
    have nd := sc__law_is_cell.nd
    exact (ess_one (es_ret (ev_and (ev_chain op_le op_lt od_le od_lt ev_int (ev_v 1) (ev_callB (CallR.or call_len_seq call_len_dT) cd_lenA (by rfl) T.m_len (by decide +kernel) (ea_cons (ev_v 0) ea_nil))) (ev_one (ev_chain op_le op_lt od_le od_lt ev_int (ev_v 2) (ev_callB (CallR.or call_len_seq call_len_dT) cd_lenA (by rfl) T.m_len (by decide +kernel) (ea_cons (ev_ix (ev_v 0) ev_int) ea_nil)))))))
def G__law_is_cell : List D → Option D := runF 3 (mr__law_is_cell)

abbrev s__law_face : Stmt := topS 42
theorem sc__law_face : FnScope ["_law_cells_here", "_law_shut", "_law_row", "_law_column", "_law_side", "_law_other"] ["_law_cells_here", "_law_shut"] (defScope s__law_face) :=
  ⟨rfl, rfl, rfl, by decide +kernel, rfl, by decide +kernel, by decide +kernel⟩
def mr__law_face (g__law_beside : List D → Option D) (g__law_is_cell : List D → Option D) : Ms := (sSeq (sUnp (.tp [(.nm 2), (.nm 3), (.nm 4)]) (mV 1))
      (sSeq (sSet 5 (mA (guardN 3 g__law_beside) (aCons (mV 2) (aCons (mV 3) (aCons (mV 4) aNil)))))
      (sSeq (sIf (mAnd (mB (m2 eqD (m2 modD (mV 4) (mC (.int 3))) (mC (.int 0)))) (mTr (mA (guardN 3 g__law_is_cell) (aCons (mV 0) (aCons (m2 ixD (mV 5) (mC (.int 0))) (aCons (m2 ixD (mV 5) (mC (.int 1))) aNil)))))) (sRet (mA tupD (aCons (m2 ixD (mV 5) (mC (.int 0))) (aCons (m2 ixD (mV 5) (mC (.int 1))) (aCons (m2 modD (m2 addD (mV 4) (mC (.int 2))) (mC (.int 4))) aNil))))) sNext)
      (sRet (mA tupD (aCons (mV 2) (aCons (mV 3) (aCons (mV 4) aNil))))))))
theorem ok__law_face {f : Addr} {fd : FuncData} (F : L2.Fun K "_law_face" "_law_face" s__law_face f fd) (T : Txt K mg) {g__law_beside : List D → Option D} {g__law_is_cell : List D → Option D} (c__law_beside : C8.Cal P w K mg base 1 "_law_beside" (spD K 3 g__law_beside) []) (c__law_is_cell : C8.Cal P w K mg base 1 "_law_is_cell" (spD K 3 g__law_is_cell) []) : FnOk P w K mg base CX0 2 f fd ["_law_cells_here", "_law_shut"] (spD K 2 (runF 6 (mr__law_face g__law_beside g__law_is_cell))) :=
  fn_ok F sc__law_face fun cdv A outer s H E hr => by
    have nd := sc__law_face.nd
    exact (ess_cons (es_unp (ev_v 1) (el_tp (els_cons (el_nm 2 nd) (els_cons (el_nm 3 nd) (els_cons (el_nm 4 nd) els_nil)))))
      (ess_cons (es_set 5 nd (ev_call c__law_beside hr (by decide) (by rfl) (ea_cons (ev_v 2) (ea_cons (ev_v 3) (ea_cons (ev_v 4) ea_nil)))))
      (ess_cons (es_if (et_w (ew_and (et_eq hr.units (ev_mod (ev_v 4) ev_int) ev_int) (ew_and1 (et_tr (ev_call c__law_is_cell hr (by decide) (by rfl) (ea_cons (ev_v 0) (ea_cons (ev_ix (ev_v 5) ev_int) (ea_cons (ev_ix (ev_v 5) ev_int) ea_nil)))))))) (ess_one (es_ret (ev_tup (ea_cons (ev_ix (ev_v 5) ev_int) (ea_cons (ev_ix (ev_v 5) ev_int) (ea_cons (ev_mod (ev_add (ev_v 4) ev_int) ev_int) ea_nil)))))) ess_nil)
      (ess_one (es_ret (ev_tup (ea_cons (ev_v 2) (ea_cons (ev_v 3) (ea_cons (ev_v 4) ea_nil)))))))))
def G__law_face : List D → Option D := runF 6 (mr__law_face G__law_beside G__law_is_cell)

abbrev s__law_screens : Stmt := topS 43
theorem sc__law_screens : FnScope ["_law_dice_here", "_law_cells_here", "_law_out", "_law_seen", "_law_often", "_law_row", "_law_column", "_law_side", "_law_face_here"] ["_law_dice_here", "_law_cells_here"] (defScope s__law_screens) :=
  ⟨rfl, rfl, rfl, by decide +kernel, rfl, by decide +kernel, by decide +kernel⟩
def mr__law_screens (g__law_face : List D → Option D) (g__law_roll : List D → List D → Option (D × List D)) : Ms := (sSeq (sSetO 2 (mA lstD aNil))
      (sSeq (sSetO 3 (mA lstD aNil))
      (sSeq (ySet 4 (x2 addD (xP (mC (.int 1))) (xCall 0 2 g__law_roll (aCons (mC (.int 5)) aNil))))
      (sSeq (sFor (itR1 (aCons (mA lenA (aCons (mV 1) aNil)) aNil)) (.nm 5) (sFor (itR1 (aCons (mA lenA (aCons (m2 ixD (mV 1) (mC (.int 0))) aNil)) aNil)) (.nm 6) (sFor (itR1 (aCons (mC (.int 4)) aNil)) (.nm 7) (sSeq (sSet 8 (mA (guardN 2 g__law_face) (aCons (mV 1) (aCons (mA tupD (aCons (mV 5) (aCons (mV 6) (aCons (mV 7) aNil)))) aNil))))
      (yIf (xAnd (xB (x2 gtD (xCall 0 2 g__law_roll (aCons (mV 4) aNil)) (xP (mC (.int 0))))) (xAnd (xT (mB (m2 ninL (mV 8) (mV 3)))) (xT (mB (m2 ltD (mA lenA (aCons (mV 2) aNil)) (mC (.int 40))))))) (sSeq (sApp 3 (mV 8))
      (sApp 2 (mA tupD (aCons (mV 5) (aCons (mV 6) (aCons (mV 7) aNil)))))) sNext)))))
      (sSeq (yIf (xB (x2 eqD (xCall 0 2 g__law_roll (aCons (mC (.int 2)) aNil)) (xP (mC (.int 0))))) (yRev 2) sNext)
      (sRet (mA tupF (aCons (mV 2) aNil))))))))
theorem ok__law_screens {f : Addr} {fd : FuncData} (F : L2.Fun K "_law_screens" "_law_screens" s__law_screens f fd) (T : Txt K mg) {g__law_face : List D → Option D} {g__law_roll : List D → List D → Option (D × List D)} (c__law_face : C8.Cal P w K mg base 2 "_law_face" (spD K 2 g__law_face) []) (c__law_roll : C8.Cal P w K mg base 1 "_law_roll" (spX K 2 g__law_roll) []) : FnOk P w K mg base CX0 3 f fd ["_law_dice_here", "_law_cells_here"] (spX K 2 (runX 9 (mr__law_screens g__law_face g__law_roll))) :=
  fn_okX F sc__law_screens (by decide) fun cdv A outer s H E hr => by
    have nd := sc__law_screens.nd
    exact (ess_cons (es_setO 2 nd (ev_lst ea_nil))
      (ess_cons (es_setO 3 nd (ev_lst ea_nil))
      (ess_cons (ys_set 4 nd (xv_bin (OpR.or op_add op_cat) od_add (xv_p ev_int) (xv_call 0 c__law_roll hr (by decide) (by rfl) (ea_cons ev_int ea_nil))))
      (ess_cons (es_for (ei_range1 (by rfl) T.m_range (ea_cons (ev_callB (CallR.or call_len_seq call_len_dT) cd_lenA (by rfl) T.m_len (by decide +kernel) (ea_cons (ev_v 1) ea_nil)) ea_nil)) (el_nm 5 nd) (ess_one (es_for (ei_range1 (by rfl) T.m_range (ea_cons (ev_callB (CallR.or call_len_seq call_len_dT) cd_lenA (by rfl) T.m_len (by decide +kernel) (ea_cons (ev_ix (ev_v 1) ev_int) ea_nil)) ea_nil)) (el_nm 6 nd) (ess_one (es_for (ei_range1 (by rfl) T.m_range (ea_cons ev_int ea_nil)) (el_nm 7 nd) (ess_cons (es_set 8 nd (ev_call c__law_face hr (by decide) (by rfl) (ea_cons (ev_v 1) (ea_cons (ev_tup (ea_cons (ev_v 5) (ea_cons (ev_v 6) (ea_cons (ev_v 7) ea_nil)))) ea_nil))))
      (ess_one (ys_if (xt_w (xw_and (xt_op op_gt od_gt (xv_call 0 c__law_roll hr (by decide) (by rfl) (ea_cons (ev_v 4) ea_nil)) (xv_p ev_int)) (xw_and (xt_p (et_ninL (hu65 hr) (ev_v 8) (ev_v 3))) (xw_and1 (xt_p (et_lt (ev_callB (CallR.or call_len_seq call_len_dT) cd_lenA (by rfl) T.m_len (by decide +kernel) (ea_cons (ev_v 2) ea_nil)) ev_int)))))) (ess_cons (es_app 3 (pe_app 3 (ev_v 8)))
      (ess_one (es_app 2 (pe_app 2 (ev_tup (ea_cons (ev_v 5) (ea_cons (ev_v 6) (ea_cons (ev_v 7) ea_nil)))))))) ess_nil))))))))
      (ess_cons (ys_if (xt_op (op_eqD hr.units) od_eq (xv_call 0 c__law_roll hr (by decide) (by rfl) (ea_cons ev_int ea_nil)) (xv_p ev_int)) (ess_one (ys_rev 2)) ess_nil)
      (ess_one (es_ret (ev_callT call_tuple_of cd_tuple (by rfl) T.m_tuple (by decide +kernel) (ea_cons (ev_v 2) ea_nil)))))))))
def G__law_screens : List D → List D → Option (D × List D) := runX 9 (mr__law_screens G__law_face G__law_roll)

abbrev s__law_house : Stmt := topS 44
theorem sc__law_house : FnScope ["_law_script", "_law_most", "_law_dice_here", "_law_cell", "_law_cells_here", "_law_heats_here"] ["_law_script", "_law_most"] (defScope s__law_house) :=
  ⟨rfl, rfl, rfl, by decide +kernel, rfl, by decide +kernel, by decide +kernel⟩
def mr__law_house (g__law_cell_at : List D → Option D) (g__law_cells : List D → List D → Option (D × List D)) (g__law_dice : List D → Option D) (g__law_heats : List D → List D → Option (D × List D)) (g__law_screens : List D → List D → Option (D × List D)) : Ms := (sSeq (yOwn 2 1 g__law_dice (aCons (mA (guardN 2 g__law_cell_at) (aCons (mV 0) (aCons (mC (.int 0)) aNil))) aNil))
      (sSeq (sSet 3 (mA (guardN 2 g__law_cell_at) (aCons (mV 0) (aCons (mC (.int 1)) aNil))))
      (sSeq (ySet 4 (xCall 2 3 g__law_cells (aCons (m2 addD (mC (.int 1)) (m2 modD (mV 3) (mV 1))) (aCons (m2 addD (mC (.int 1)) (m2 modD (m2 divD (mV 3) (mV 1)) (mV 1))) aNil))))
      (sSeq (ySet 5 (xCall 2 1 g__law_heats aNil))
      (yRet (xA tupD (xCons (xP (mV 5)) (xCons (xP (mV 4)) (xCons (xCall 2 2 g__law_screens (aCons (mV 4) aNil)) xNil)))))))))
theorem ok__law_house {f : Addr} {fd : FuncData} (F : L2.Fun K "_law_house" "_law_house" s__law_house f fd) (T : Txt K mg) {g__law_cell_at : List D → Option D} {g__law_cells : List D → List D → Option (D × List D)} {g__law_dice : List D → Option D} {g__law_heats : List D → List D → Option (D × List D)} {g__law_screens : List D → List D → Option (D × List D)} (c__law_cell_at : C8.Cal P w K mg base 1 "_law_cell_at" (spD K 2 g__law_cell_at) []) (c__law_cells : C8.Cal P w K mg base 2 "_law_cells" (spX K 3 g__law_cells) []) (c__law_dice : C8.Cal P w K mg base 1 "_law_dice" (spD K 1 g__law_dice) []) (c__law_heats : C8.Cal P w K mg base 2 "_law_heats" (spX K 1 g__law_heats) []) (c__law_screens : C8.Cal P w K mg base 3 "_law_screens" (spX K 2 g__law_screens) []) : FnOk P w K mg base CX0 4 f fd ["_law_script", "_law_most"] (spD K 2 (runF 6 (mr__law_house g__law_cell_at g__law_cells g__law_dice g__law_heats g__law_screens))) :=
  fn_ok F sc__law_house fun cdv A outer s H E hr => by
    have nd := sc__law_house.nd
    exact (ess_cons (ys_own 2 nd c__law_dice hr (by decide) (by rfl) (ea_cons (ev_call c__law_cell_at hr (by decide) (by rfl) (ea_cons (ev_v 0) (ea_cons ev_int ea_nil))) ea_nil))
      (ess_cons (es_set 3 nd (ev_call c__law_cell_at hr (by decide) (by rfl) (ea_cons (ev_v 0) (ea_cons ev_int ea_nil))))
      (ess_cons (ys_set 4 nd (xv_call 2 c__law_cells hr (by decide) (by rfl) (ea_cons (ev_add ev_int (ev_mod (ev_v 3) (ev_v 1))) (ea_cons (ev_add ev_int (ev_mod (ev_div (ev_v 3) (ev_v 1)) (ev_v 1))) ea_nil))))
      (ess_cons (ys_set 5 nd (xv_call 2 c__law_heats hr (by decide) (by rfl) ea_nil))
      (ess_one (ys_ret (xv_tup (xa_cons (xv_p (ev_v 5)) (xa_cons (xv_p (ev_v 4)) (xa_cons (xv_call 2 c__law_screens hr (by decide) (by rfl) (ea_cons (ev_v 4) ea_nil)) xa_nil))))))))))
def G__law_house : List D → Option D := runF 6 (mr__law_house G__law_cell_at G__law_cells G__law_dice G__law_heats G__law_screens)

abbrev s__law_text : Stmt := topS 45
theorem sc__law_text : FnScope ["_law_house_here", "_law_out", "_law_heat", "_law_row", "_law_parts", "_law_shut", "_law_number"] ["_law_house_here"] (defScope s__law_text) :=
  ⟨rfl, rfl, rfl, by decide +kernel, rfl, by decide +kernel, by decide +kernel⟩
def mr__law_text : Ms := (sSeq (sSetO 1 (mA lstD (aCons (m2 joinD (mC (.str " ")) (m2 addD (mA lstD (aCons (mC (.str "heats")) aNil)) (mLc (itT (m2 ixD (mV 0) (mC (.int 0)))) [2] (.nm 2) mYes (mA strF (aCons (mV 2) aNil))))) aNil)))
      (sSeq (sFor (itT (m2 ixD (mV 0) (mC (.int 1)))) (.nm 3) (sApp 1 (m2 joinD (mC (.str " ")) (m2 addD (mA lstD (aCons (mC (.str "row")) aNil)) (mLc (itT (mV 3)) [4] (.nm 4) mYes (mA strF (aCons (mV 4) aNil)))))))
      (sSeq (sFor (itT (m2 ixD (mV 0) (mC (.int 2)))) (.nm 5) (sApp 1 (m2 joinD (mC (.str " ")) (m2 addD (mA lstD (aCons (mC (.str "wall")) aNil)) (mLc (itT (mV 5)) [6] (.nm 6) mYes (mA strF (aCons (mV 6) aNil)))))))
      (sRet (m2 joinD (mC (.str "\n")) (mV 1))))))
theorem ok__law_text {f : Addr} {fd : FuncData} (F : L2.Fun K "_law_text" "_law_text" s__law_text f fd) (T : Txt K mg) : FnOk P w K mg base CX0 1 f fd ["_law_house_here"] (spD K 1 (runF 7 (mr__law_text))) :=
  fn_ok F sc__law_text fun cdv A outer s H E hr => by
    have nd := sc__law_text.nd
    exact (ess_cons (es_setO 1 nd (ev_lst (ea_cons (ev_join ev_str (ev_add (ev_lst (ea_cons ev_str ea_nil)) (ev_lc [("_law_heat", 2)] nd (ei_tup (ev_ix (ev_v 0) ev_int)) (by refine blkOk_by ?_; skip; dsimp only [Cx.blk, compEnvC, cxOf, Cx.nox, Cx.wish, envOfC]; decide +kernel) (fun _ _ _ _ _ => (eg_nm 2 nd)) (fun _ _ _ _ _ => ets_nil) (fun _ _ _ _ _ => (ev_callT call_str_int cd_str (by rfl) T.m_str (by decide +kernel) (ea_cons (ev_v 2) ea_nil)))))) ea_nil)))
      (ess_cons (es_for (ei_tup (ev_ix (ev_v 0) ev_int)) (el_nm 3 nd) (ess_one (es_app 1 (pe_app 1 (ev_join ev_str (ev_add (ev_lst (ea_cons ev_str ea_nil)) (ev_lc [("_law_parts", 4)] nd (ei_tup (ev_v 3)) (by refine blkOk_by ?_; skip; dsimp only [Cx.blk, compEnvC, cxOf, Cx.nox, Cx.wish, envOfC]; decide +kernel) (fun _ _ _ _ _ => (eg_nm 4 nd)) (fun _ _ _ _ _ => ets_nil) (fun _ _ _ _ _ => (ev_callT call_str_int cd_str (by rfl) T.m_str (by decide +kernel) (ea_cons (ev_v 4) ea_nil))))))))))
      (ess_cons (es_for (ei_tup (ev_ix (ev_v 0) ev_int)) (el_nm 5 nd) (ess_one (es_app 1 (pe_app 1 (ev_join ev_str (ev_add (ev_lst (ea_cons ev_str ea_nil)) (ev_lc [("_law_number", 6)] nd (ei_tup (ev_v 5)) (by refine blkOk_by ?_; skip; dsimp only [Cx.blk, compEnvC, cxOf, Cx.nox, Cx.wish, envOfC]; decide +kernel) (fun _ _ _ _ _ => (eg_nm 6 nd)) (fun _ _ _ _ _ => ets_nil) (fun _ _ _ _ _ => (ev_callT call_str_int cd_str (by rfl) T.m_str (by decide +kernel) (ea_cons (ev_v 6) ea_nil))))))))))
      (ess_one (es_ret (ev_join ev_str (ev_v 1)))))))
def G__law_text : List D → Option D := runF 7 (mr__law_text)

abbrev s__law_are_tuples : Stmt := topS 46
theorem sc__law_are_tuples : FnScope ["_law_rows", "_law_row", "_law_one"] ["_law_rows"] (defScope s__law_are_tuples) :=
  ⟨rfl, rfl, rfl, by decide +kernel, rfl, by decide +kernel, by decide +kernel⟩
def mr__law_are_tuples (g__law_whole : List D → Option D) : Ms := (sSeq (sIf (mNot (mTr (mA isiF (aCons (mV 0) (aCons (mC (.raw (.ty "tuple"))) aNil))))) (sRet (mC (.bl false))) sNext)
      (sSeq (sFor (itT (mV 0)) (.nm 1) (sIf (mOr (mNot (mTr (mA isiF (aCons (mV 1) (aCons (mC (.raw (.ty "tuple"))) aNil))))) (mB (m2 neD (mLc (itT (mV 1)) [2] (.nm 2) (mNot (mTr (mA (guardN 1 g__law_whole) (aCons (mV 2) aNil)))) (mV 2)) (mA lstD aNil)))) (sRet (mC (.bl false))) sNext))
      (sRet (mC (.bl true)))))
theorem ok__law_are_tuples {f : Addr} {fd : FuncData} (F : L2.Fun K "_law_are_tuples" "_law_are_tuples" s__law_are_tuples f fd) (T : Txt K mg) {g__law_whole : List D → Option D} (c__law_whole : C8.Cal P w K mg base 1 "_law_whole" (spD K 1 g__law_whole) []) : FnOk P w K mg base CX0 2 f fd ["_law_rows"] (spD K 1 (runF 3 (mr__law_are_tuples g__law_whole))) :=
  fn_ok F sc__law_are_tuples fun cdv A outer s H E hr => by
    have nd := sc__law_are_tuples.nd
    exact (ess_cons (es_if (et_not (et_tr (ev_callB call_isi cd_isi (by rfl) T.m_isinstance (by decide +kernel) (ea_cons (ev_v 0) (ea_cons (ev_bty "tuple" (by rfl) T.m_tuple (by decide +kernel)) ea_nil))))) (ess_one (es_ret ev_bl)) ess_nil)
      (ess_cons (es_for (ei_tup (ev_v 0)) (el_nm 1 nd) (ess_one (es_if (et_w (ew_or (et_not (et_tr (ev_callB call_isi cd_isi (by rfl) T.m_isinstance (by decide +kernel) (ea_cons (ev_v 1) (ea_cons (ev_bty "tuple" (by rfl) T.m_tuple (by decide +kernel)) ea_nil))))) (ew_or1 (et_ne hr.units (ev_lc [("_law_one", 2)] nd (ei_tup (ev_v 1)) (by refine blkOk_by ?_; skip; dsimp only [Cx.blk, compEnvC, cxOf, Cx.nox, Cx.wish, envOfC]; decide +kernel) (fun _ _ _ _ _ => (eg_nm 2 nd)) (fun _ _ _ _ _ => (ets_one (et_not (et_tr (ev_call c__law_whole hr (by decide) (by rfl) (ea_cons (ev_v 2) ea_nil)))))) (fun _ _ _ _ _ => (ev_v 2))) (ev_lst ea_nil))))) (ess_one (es_ret ev_bl)) ess_nil)))
      (ess_one (es_ret ev_bl))))
def G__law_are_tuples : List D → Option D := runF 3 (mr__law_are_tuples G__law_whole)

abbrev s_law : Stmt := topS 47
theorem sc_law : FnScope ["_law_script", "_law_house_here", "_law_great", "_law_due", "_law_found"] ["_law_script"] (defScope s_law) :=
  ⟨rfl, rfl, rfl, by decide +kernel, rfl, by decide +kernel, by decide +kernel⟩
def mr_law (g__law_are_tuples : List D → Option D) (g__law_house : List D → Option D) (g__law_text : List D → Option D) (g_read : List D → Option D) : Ms := (sSeq (sSet 1 (mA (guardN 2 g__law_house) (aCons (mV 0) (aCons (mC (.int 4)) aNil))))
      (sSeq (sSet 2 (mA tupD (aCons (mA tupD (aCons (mC (.int 9)) (aCons (mC (.int 0)) (aCons (mC (.int 9)) (aCons (mC (.int 0)) (aCons (mC (.int 9)) aNil)))))) (aCons (mA tupD (aCons (mA tupD (aCons (mC (.int 9999)) (aCons (mC (.int 0)) (aCons (mC (.int 1000)) (aCons (mC (.int 10)) aNil))))) aNil)) (aCons (mA tupD (aCons (mA tupD (aCons (mC (.int 0)) (aCons (mC (.int 3)) (aCons (mC (.int 1)) aNil)))) (aCons (mA tupD (aCons (mC (.int 0)) (aCons (mC (.int 0)) (aCons (mC (.int 3)) aNil)))) aNil))) aNil)))))
      (sSeq (sFor (itL (mA lstD (aCons (mV 1) (aCons (mV 2) (aCons (mV 1) aNil))))) (.nm 3) (sSeq (sSet 4 (mA (guardN 1 g_read) (aCons (mA (guardN 1 g__law_text) (aCons (mV 3) aNil)) aNil)))
      (sSeq (sIf (mOr (mNot (mTr (mA isiF (aCons (mV 4) (aCons (mC (.raw (.ty "tuple"))) aNil))))) (mB (m2 neD (mV 4) (mV 3)))) (sRet (mC (.bl false))) sNext)
      (sIf (mOr (mNot (mTr (mA (guardN 1 g__law_are_tuples) (aCons (m2 ixD (mV 4) (mC (.int 1))) aNil)))) (mOr (mNot (mTr (mA (guardN 1 g__law_are_tuples) (aCons (m2 ixD (mV 4) (mC (.int 2))) aNil)))) (mNot (mTr (mA (guardN 1 g__law_are_tuples) (aCons (mA tupD (aCons (m2 ixD (mV 4) (mC (.int 0))) aNil)) aNil)))))) (sRet (mC (.bl false))) sNext))))
      (sRet (mC (.bl true))))))
theorem ok_law {f : Addr} {fd : FuncData} (F : L2.Fun K "law" "law" s_law f fd) (T : Txt K mg) {g__law_are_tuples : List D → Option D} {g__law_house : List D → Option D} {g__law_text : List D → Option D} {g_read : List D → Option D} (c__law_are_tuples : C8.Cal P w K mg base 2 "_law_are_tuples" (spD K 1 g__law_are_tuples) []) (c__law_house : C8.Cal P w K mg base 4 "_law_house" (spD K 2 g__law_house) []) (c__law_text : C8.Cal P w K mg base 1 "_law_text" (spD K 1 g__law_text) []) (c_read : C8.Cal P w K mg base 5 "read" (spD K 1 g_read) []) : FnOk P w K mg base CX0 6 f fd ["_law_script"] (spD K 1 (runF 5 (mr_law g__law_are_tuples g__law_house g__law_text g_read))) :=
  fn_ok F sc_law fun cdv A outer s H E hr => by
    have nd := sc_law.nd
    exact (ess_cons (es_set 1 nd (ev_call c__law_house hr (by decide) (by rfl) (ea_cons (ev_v 0) (ea_cons ev_int ea_nil))))
      (ess_cons (es_set 2 nd (ev_tup (ea_cons (ev_tup (ea_cons ev_int (ea_cons ev_int (ea_cons ev_int (ea_cons ev_int (ea_cons ev_int ea_nil)))))) (ea_cons (ev_tup (ea_cons (ev_tup (ea_cons ev_int (ea_cons ev_int (ea_cons ev_int (ea_cons ev_int ea_nil))))) ea_nil)) (ea_cons (ev_tup (ea_cons (ev_tup (ea_cons ev_int (ea_cons ev_int (ea_cons ev_int ea_nil)))) (ea_cons (ev_tup (ea_cons ev_int (ea_cons ev_int (ea_cons ev_int ea_nil)))) ea_nil))) ea_nil)))))
      (ess_cons (es_for (ei_list (ev_lst (ea_cons (ev_v 1) (ea_cons (ev_v 2) (ea_cons (ev_v 1) ea_nil))))) (el_nm 3 nd) (ess_cons (es_set 4 nd (ev_call c_read hr (by decide) (by rfl) (ea_cons (ev_call c__law_text hr (by decide) (by rfl) (ea_cons (ev_v 3) ea_nil)) ea_nil)))
      (ess_cons (es_if (et_w (ew_or (et_not (et_tr (ev_callB call_isi cd_isi (by rfl) T.m_isinstance (by decide +kernel) (ea_cons (ev_v 4) (ea_cons (ev_bty "tuple" (by rfl) T.m_tuple (by decide +kernel)) ea_nil))))) (ew_or1 (et_ne hr.units (ev_v 4) (ev_v 3))))) (ess_one (es_ret ev_bl)) ess_nil)
      (ess_one (es_if (et_w (ew_or (et_not (et_tr (ev_call c__law_are_tuples hr (by decide) (by rfl) (ea_cons (ev_ix (ev_v 4) ev_int) ea_nil)))) (ew_or (et_not (et_tr (ev_call c__law_are_tuples hr (by decide) (by rfl) (ea_cons (ev_ix (ev_v 4) ev_int) ea_nil)))) (ew_or1 (et_not (et_tr (ev_call c__law_are_tuples hr (by decide) (by rfl) (ea_cons (ev_tup (ea_cons (ev_ix (ev_v 4) ev_int) ea_nil)) ea_nil)))))))) (ess_one (es_ret ev_bl)) ess_nil)))))
      (ess_one (es_ret ev_bl)))))
def G_law : List D → Option D := runF 5 (mr_law G__law_are_tuples G__law_house G__law_text G_read)

/-! words of the program that this law does not hold -/
def dSTEPS : D := (.wt [(.wt [(.int (-1)), (.int (0))]), (.wt [(.int (0)), (.int (1))]), (.wt [(.int (1)), (.int (0))]), (.wt [(.int (0)), (.int (-1))])])
def mr_has_cell : Ms := (sRet (mAndV (mCh leD ltD (mC (.int 0)) (mV 1) (mA lenA (aCons (mV 0) aNil))) (mCh leD ltD (mC (.int 0)) (mV 2) (mA lenA (aCons (m2 ixD (mV 0) (mC (.int 0))) aNil)))))
def G_has_cell : List D → Option D := runF 3 (mr_has_cell)

def mr__need_cell (g_has_cell : List D → Option D) (g_need_house : List D → Option D) : Ms := (sSeq (sDrop (mA (guardN 1 g_need_house) (aCons (mV 0) aNil)))
      (sIf (mNot (mTr (mA (guardN 3 g_has_cell) (aCons (m2 ixD (mV 0) (mC (.int 1))) (aCons (mV 1) (aCons (mV 2) aNil)))))) sNever sNext))
def G__need_cell : List D → Option D := runF 3 (mr__need_cell G_has_cell G_need_house)

def mr__faces (g_face_name : List D → Option D) (g_has_cell : List D → Option D) : Ms := (sSeq (sIf (mB (m2 eqD (m2 ixD (m2 ixD (mV 1) (mV 3)) (mV 4)) (mC (.int 0)))) (sRet (mA lstD aNil)) sNext)
      (sSeq (sSetO 5 (mA lstD aNil))
      (sSeq (sFor (itE (aCons (mC dSTEPS) aNil)) (.tp [(.nm 6), (.tp [(.nm 7), (.nm 8)])]) (sSeq (sIf (mB (m2 inK (mA (guardN 3 g_face_name) (aCons (mV 3) (aCons (mV 4) (aCons (mV 6) aNil)))) (mV 2))) (fun S => some (.ct S)) sNext)
      (sIf (mNot (mTr (mA (guardN 3 g_has_cell) (aCons (mV 1) (aCons (m2 addD (mV 3) (mV 7)) (aCons (m2 addD (mV 4) (mV 8)) aNil)))))) (sApp 5 (mA tupD (aCons (mV 6) (aCons (m2 ixD (mV 0) (mV 6)) aNil)))) (sIf (mB (m2 eqD (m2 ixD (m2 ixD (mV 1) (m2 addD (mV 3) (mV 7))) (m2 addD (mV 4) (mV 8))) (mC (.int 0)))) (sApp 5 (mA tupD (aCons (mV 6) (aCons (m2 ixD (mV 0) (mC (.int 4))) aNil)))) sNext))))
      (sRet (mV 5)))))
def G__faces : List D → Option D := runF 9 (mr__faces G_face_name G_has_cell)

def mr__loss (g__faces : List D → Option D) : Ms := (sRet (mA sumA (aCons (mLc (itL (mA (guardN 5 g__faces) (aCons (mV 0) (aCons (mV 1) (aCons (mV 2) (aCons (mV 3) (aCons (mV 4) aNil))))))) [5, 6] (.tp [(.nm 5), (.nm 6)]) mYes (mV 6)) aNil)))
def G__loss : List D → Option D := runF 7 (mr__loss G__faces)

def mr__losses (g__loss : List D → Option D) : Ms := (sRet (mA tupF (aCons (mLc (itR1 (aCons (mA lenA (aCons (mV 1) aNil)) aNil)) [4] (.nm 4) mYes (mA tupF (aCons (mLc (itR1 (aCons (mA lenA (aCons (m2 ixD (mV 1) (mC (.int 0))) aNil)) aNil)) [3] (.nm 3) mYes (mA (guardN 5 g__loss) (aCons (mV 0) (aCons (mV 1) (aCons (mV 2) (aCons (mV 4) (aCons (mV 3) aNil))))))) aNil))) aNil)))
def G__losses : List D → Option D := runF 5 (mr__losses G__loss)

def mr__hours_to_empty : Ms := (sRet (mA minDF (aCons (mLc2 (itZ (aCons (mV 0) (aCons (mV 1) aNil))) [2, 3, 4, 5] (.tp [(.nm 2), (.nm 3)]) mYes (itZ (aCons (mV 2) (aCons (mV 3) aNil))) [4, 5] (.tp [(.nm 4), (.nm 5)]) (mB (m2 gtD (mV 5) (mC (.int 0)))) (m2 divD (m2 subD (m2 addD (mV 4) (mV 5)) (mC (.int 1))) (mV 5))) aNil)))
def G__hours_to_empty : List D → Option D := runF 6 (mr__hours_to_empty)

def mr__melt : Ms := (sRet (mA tupF (aCons (mLc (itZ (aCons (mV 0) (aCons (mV 1) aNil))) [5, 6] (.tp [(.nm 5), (.nm 6)]) mYes (mA tupF (aCons (mLc (itZ (aCons (mV 5) (aCons (mV 6) aNil))) [3, 4] (.tp [(.nm 3), (.nm 4)]) mYes (mA maxF (aCons (mC (.int 0)) (aCons (m2 subD (mV 3) (m2 mulD (mV 4) (mV 2))) aNil)))) aNil))) aNil)))
def G__melt : List D → Option D := runF 7 (mr__melt)

def mr__stages (g__hours_to_empty : List D → Option D) (g__losses : List D → Option D) (g__melt : List D → Option D) (g_shut_faces : List D → Option D) : Ms := (sSeq (sUnp (.tp [(.nm 1), (.nm 2), (.nm 3)]) (mV 0))
      (sSeq (sSet 4 (mA (guardN 1 g_shut_faces) (aCons (mV 3) aNil)))
      (sSeq (sSet 5 (mC (.int 0)))
      (sSeq (sSet 6 (mA (guardN 3 g__losses) (aCons (mV 1) (aCons (mV 2) (aCons (mV 4) aNil)))))
      (sSeq (sSetO 7 (mA lstD (aCons (mA tupD (aCons (mV 5) (aCons (mV 2) (aCons (mV 6) aNil)))) aNil)))
      (sSeq (sSet 8 (mA (guardN 2 g__hours_to_empty) (aCons (mV 2) (aCons (mV 6) aNil))))
      (sSeq (sWhile (fun _ => 100) (mB (m2 isnD (mV 8) (mC .non))) (sSeq (sAugI 5 (mV 8))
      (sSeq (sSet 2 (mA (guardN 3 g__melt) (aCons (mV 2) (aCons (mV 6) (aCons (mV 8) aNil)))))
      (sSeq (sSet 6 (mA (guardN 3 g__losses) (aCons (mV 1) (aCons (mV 2) (aCons (mV 4) aNil)))))
      (sSeq (sApp 7 (mA tupD (aCons (mV 5) (aCons (mV 2) (aCons (mV 6) aNil)))))
      (sSet 8 (mA (guardN 2 g__hours_to_empty) (aCons (mV 2) (aCons (mV 6) aNil)))))))))
      (sRet (mV 7)))))))))
def G__stages : List D → Option D := runF 9 (mr__stages G__hours_to_empty G__losses G__melt G_shut_faces)

def mr_left (g__melt : List D → Option D) (g__stages : List D → Option D) (g_need_house : List D → Option D) : Ms := (sSeq (sDrop (mA (guardN 1 g_need_house) (aCons (mV 0) aNil)))
      (sSeq (sUnp (.tp [(.nm 2), (.nm 3), (.nm 4)]) (mV 0))
      (sSeq (sFor (itL (mA (guardN 1 g__stages) (aCons (mV 0) aNil))) (.tp [(.nm 5), (.nm 6), (.nm 7)]) (sSeq (sIf (mB (m2 gtD (mV 5) (mV 1))) (fun S => some (.bk S)) sNext)
      (sSet 3 (mA (guardN 3 g__melt) (aCons (mV 6) (aCons (mV 7) (aCons (m2 subD (mV 1) (mV 5)) aNil)))))))
      (sRet (mA tupD (aCons (mV 2) (aCons (mV 3) (aCons (mV 4) aNil))))))))
def G_left : List D → Option D := runF 8 (mr_left G__melt G__stages G_need_house)

def mr__law_faces (g__law_beside : List D → Option D) (g__law_face : List D → Option D) (g__law_is_cell : List D → Option D) : Ms := (sSeq (sUnp (.tp [(.nm 4), (.nm 5), (.nm 6)]) (mV 0))
      (sSeq (sSetO 7 (mA lstD aNil))
      (sSeq (sFor (itR1 (aCons (mC (.int 4)) aNil)) (.nm 8) (sIf (mAnd (mB (m2 gtD (m2 ixD (m2 ixD (mV 5) (mV 1)) (mV 2)) (mC (.int 0)))) (mB (m2 ninK (mA (guardN 2 g__law_face) (aCons (mV 5) (aCons (mA tupD (aCons (mV 1) (aCons (mV 2) (aCons (mV 8) aNil)))) aNil))) (mV 3)))) (sSeq (sSet 9 (mA (guardN 3 g__law_beside) (aCons (mV 1) (aCons (mV 2) (aCons (mV 8) aNil)))))
      (sIf (mNot (mTr (mA (guardN 3 g__law_is_cell) (aCons (mV 5) (aCons (m2 ixD (mV 9) (mC (.int 0))) (aCons (m2 ixD (mV 9) (mC (.int 1))) aNil)))))) (sApp 7 (mA tupD (aCons (mV 8) (aCons (m2 ixD (mV 4) (mV 8)) aNil)))) (sIf (mB (m2 eqD (m2 ixD (m2 ixD (mV 5) (m2 ixD (mV 9) (mC (.int 0)))) (m2 ixD (mV 9) (mC (.int 1)))) (mC (.int 0)))) (sApp 7 (mA tupD (aCons (mV 8) (aCons (m2 ixD (mV 4) (mC (.int 4))) aNil)))) sNext))) sNext))
      (sRet (mV 7)))))
def G__law_faces : List D → Option D := runF 10 (mr__law_faces G__law_beside G__law_face G__law_is_cell)

def mr__law_screened (g__law_face : List D → Option D) : Ms := (sRet (mA dicF (aCons (mLc (itT (m2 ixD (mV 0) (mC (.int 2)))) [1] (.nm 1) mYes (mA tupD (aCons (mA (guardN 2 g__law_face) (aCons (m2 ixD (mV 0) (mC (.int 1))) (aCons (mV 1) aNil))) (aCons (mC (.bl true)) aNil)))) aNil)))
def G__law_screened : List D → Option D := runF 2 (mr__law_screened G__law_face)

def mr__law_rates (g__law_faces : List D → Option D) (g__law_screened : List D → Option D) : Ms := (sSeq (sSet 1 (mA (guardN 1 g__law_screened) (aCons (mV 0) aNil)))
      (sSeq (sSetO 2 (mA lstD aNil))
      (sSeq (sFor (itR1 (aCons (mA lenA (aCons (m2 ixD (mV 0) (mC (.int 1))) aNil)) aNil)) (.nm 3) (sSeq (sSetO 4 (mA lstD aNil))
      (sSeq (sFor (itR1 (aCons (mA lenA (aCons (m2 ixD (m2 ixD (mV 0) (mC (.int 1))) (mC (.int 0))) aNil)) aNil)) (.nm 5) (sApp 4 (mA sumA (aCons (mLc (itL (mA (guardN 4 g__law_faces) (aCons (mV 0) (aCons (mV 3) (aCons (mV 5) (aCons (mV 1) aNil)))))) [6] (.nm 6) mYes (m2 ixD (mV 6) (mC (.int 1)))) aNil))))
      (sLend 4 (sApp 2 (mV 4))))))
      (sRet (mV 2)))))
def G__law_rates : List D → Option D := runF 7 (mr__law_rates G__law_faces G__law_screened)

def mr__law_fewer : Ms := (sSeq (sSetO 3 (mA lstD aNil))
      (sSeq (sFor (itR1 (aCons (mA lenA (aCons (mV 1) aNil)) aNil)) (.nm 4) (sSeq (sSetO 5 (mA lstD aNil))
      (sSeq (sFor (itR1 (aCons (mA lenA (aCons (m2 ixD (mV 1) (mV 4)) aNil)) aNil)) (.nm 6) (sApp 5 (mA maxF (aCons (mC (.int 0)) (aCons (m2 subD (m2 ixD (m2 ixD (m2 ixD (mV 0) (mC (.int 1))) (mV 4)) (mV 6)) (m2 mulD (mV 2) (m2 ixD (m2 ixD (mV 1) (mV 4)) (mV 6)))) aNil)))))
      (sAppF 3 (mA tupF (aCons (mV 5) aNil))))))
      (sRet (mA tupD (aCons (m2 ixD (mV 0) (mC (.int 0))) (aCons (mA tupF (aCons (mV 3) aNil)) (aCons (m2 ixD (mV 0) (mC (.int 2))) aNil)))))))
def G__law_fewer : List D → Option D := runF 7 (mr__law_fewer)

def mr__law_hour (g__law_fewer : List D → Option D) (g__law_rates : List D → Option D) : Ms := (sSeq (sSet 1 (mA (guardN 1 g__law_rates) (aCons (mV 0) aNil)))
      (sRet (mA (guardN 3 g__law_fewer) (aCons (mV 0) (aCons (mV 1) (aCons (mC (.int 1)) aNil))))))
def G__law_hour : List D → Option D := runF 2 (mr__law_hour G__law_fewer G__law_rates)

def mr__law_skip (g__law_fewer : List D → Option D) (g__law_rates : List D → Option D) : Ms := (sSeq (sWhile (fun _ => 100) (mB (m2 gtD (mV 1) (mC (.int 0)))) (sSeq (sSet 2 (mA (guardN 1 g__law_rates) (aCons (mV 0) aNil)))
      (sSeq (sSetO 3 (mA lstD (aCons (mV 1) aNil)))
      (sSeq (sFor (itR1 (aCons (mA lenA (aCons (mV 2) aNil)) aNil)) (.nm 4) (sFor (itR1 (aCons (mA lenA (aCons (m2 ixD (mV 2) (mV 4)) aNil)) aNil)) (.nm 5) (sSeq (sSet 6 (m2 ixD (m2 ixD (m2 ixD (mV 0) (mC (.int 1))) (mV 4)) (mV 5)))
      (sIf (mB (m2 gtD (m2 ixD (m2 ixD (mV 2) (mV 4)) (mV 5)) (mC (.int 0)))) (sApp 3 (m2 divD (m2 subD (m2 addD (mV 6) (m2 ixD (m2 ixD (mV 2) (mV 4)) (mV 5))) (mC (.int 1))) (m2 ixD (m2 ixD (mV 2) (mV 4)) (mV 5)))) sNext))))
      (sSeq (sSetF 7 (mA minF (aCons (mV 3) aNil)))
      (sSeq (sSet 0 (mA (guardN 3 g__law_fewer) (aCons (mV 0) (aCons (mV 2) (aCons (mV 7) aNil)))))
      (sSet 1 (m2 subD (mV 1) (mV 7)))))))))
      (sRet (mV 0)))
def G__law_skip : List D → Option D := runF 8 (mr__law_skip G__law_fewer G__law_rates)

end
end Ice

/-! evaluation of mirrors: words about data -/
namespace Ice
open PySem PySem.Spec PyProof.Rows L2

/-! ### equality -/
theorem sh_int (i : Int) : SeqAt.shaped (py (.int i)) = true := rfl
theorem sh_nil : SeqAt.shaped (py (.lst [])) = true := rfl
@[simp] theorem eqD_int (i j : Int) : eqD (.int i) (.int j) = some (.bl (i == j)) := rfl
@[simp] theorem neD_int (i j : Int) : neD (.int i) (.int j) = some (.bl (!(i == j))) := rfl
/- data of numbers, by depth -/
mutual
def numd : Nat → D → Bool
  | _, .int _ => true
  | n + 1, .tup ds => numds n ds
  | n + 1, .lst ds => numds n ds
  | _, _ => false
def numds : Nat → List D → Bool
  | _, [] => true
  | n, d :: ds => numd n d && numds n ds
end
theorem numds_mem {n : Nat} : ∀ {ds : List D}, (∀ d ∈ ds, numd n d = true) → numds n ds = true
  | [], _ => rfl
  | d :: ds, h => by
    show (numd n d && numds n ds) = true
    rw [h d List.mem_cons_self, numds_mem fun e he => h e (List.mem_cons_of_mem _ he)]
    rfl
theorem numds_map {α : Type} {n : Nat} {xs : List α} {e : α → D} (h : ∀ x ∈ xs, numd n (e x) = true) : numds n (xs.map e) = true := numds_mem fun d hd => by
  obtain ⟨x, hx, rfl⟩ := List.mem_map.mp hd
  exact h x hx
mutual
theorem numd_lay : ∀ (n : Nat) (d : D), numd n d = true → (py d).canLay0 = true ∧ (py d).depth ≤ n
  | n, .int i, h => by cases n <;> exact ⟨rfl, Nat.zero_le _⟩
  | n + 1, .tup ds, h => ⟨(numds_lay n ds h).1, Nat.succ_le_succ (numds_lay n ds h).2⟩
  | n + 1, .lst ds, h => ⟨(numds_lay n ds h).1, Nat.succ_le_succ (numds_lay n ds h).2⟩
  | 0, .tup ds, h => by cases h
  | 0, .lst ds, h => by cases h
  | n, .non, h => by cases n <;> cases h
  | n, .bl _, h => by cases n <;> cases h
  | n, .str _, h => by cases n <;> cases h
  | n, .dic _ _, h => by cases n <;> cases h
  | n, .wt _, h => by cases n <;> cases h
  | n, .raw _, h => by cases n <;> cases h
  | n, .fz _, h => by cases n <;> cases h
theorem numds_lay : ∀ (n : Nat) (ds : List D), numds n ds = true → PyData.canLayAll0 (pys ds) = true ∧ PyData.depthAll (pys ds) ≤ n
  | n, [], h => ⟨rfl, Nat.zero_le _⟩
  | n, d :: ds, h => by
    have h' : (numd n d && numds n ds) = true := h
    rw [Bool.and_eq_true] at h'
    obtain ⟨a, b⟩ := numd_lay n d h'.1
    obtain ⟨c, e⟩ := numds_lay n ds h'.2
    refine ⟨?_, Nat.max_le.mpr ⟨b, e⟩⟩
    show (PyData.canLay0 (py d) && PyData.canLayAll0 (pys ds)) = true
    rw [a, c]
    rfl
end
theorem numd_sh {n : Nat} {d : D} (hn : n ≤ 64) (h : numd n d = true) : SeqAt.shaped (py d) = true := by
  obtain ⟨a, b⟩ := numd_lay n d h
  show ((py d).canLay0 && decide ((py d).depth ≤ 64)) = true
  rw [a, decide_eq_true (Nat.le_trans b hn)]
  rfl
mutual
theorem numd_eqv : ∀ (n : Nat) (x : D) (m : Nat) (y : D), numd n x = true → numd m y = true → (PyData.eqv (py x) (py y) = true ↔ x = y)
  | n, .int i, m, .int j, _, _ => by
    show (i == j) = true ↔ _
    rw [beq_iff_eq]
    exact ⟨fun h => by rw [h], fun h => by injection h⟩
  | n + 1, .tup ds, m + 1, .tup es, h, g => by
    show PyData.eqvAll (pys ds) (pys es) = true ↔ _
    rw [numds_eqv n ds m es h g]
    exact ⟨fun h => by rw [h], fun h => by injection h⟩
  | n + 1, .lst ds, m + 1, .lst es, h, g => by
    show PyData.eqvAll (pys ds) (pys es) = true ↔ _
    rw [numds_eqv n ds m es h g]
    exact ⟨fun h => by rw [h], fun h => by injection h⟩
  | n, .int i, m, .tup es, _, _ => ⟨fun h => (by cases h), fun h => (by cases h)⟩
  | n, .int i, m, .lst es, _, _ => ⟨fun h => (by cases h), fun h => (by cases h)⟩
  | n + 1, .tup ds, m, .int i, _, _ => ⟨fun h => (by cases h), fun h => (by cases h)⟩
  | n + 1, .lst ds, m, .int i, _, _ => ⟨fun h => (by cases h), fun h => (by cases h)⟩
  | n + 1, .tup ds, m, .lst i, _, _ => ⟨fun h => (by cases h), fun h => (by cases h)⟩
  | n + 1, .lst ds, m, .tup i, _, _ => ⟨fun h => (by cases h), fun h => (by cases h)⟩
  | 0, .tup ds, _, _, h, _ => by cases h
  | 0, .lst ds, _, _, h, _ => by cases h
  | n + 1, .tup ds, 0, .tup es, h, g => by cases g
  | n + 1, .lst ds, 0, .lst es, h, g => by cases g
  | n, .non, _, _, h, _ => by cases n <;> cases h
  | n, .bl _, _, _, h, _ => by cases n <;> cases h
  | n, .str _, _, _, h, _ => by cases n <;> cases h
  | n, .dic _ _, _, _, h, _ => by cases n <;> cases h
  | n, .wt _, _, _, h, _ => by cases n <;> cases h
  | n, .raw _, _, _, h, _ => by cases n <;> cases h
  | n, .fz _, _, _, h, _ => by cases n <;> cases h
  | n, _, m, .non, _, h => by cases m <;> cases h
  | n, _, m, .bl _, _, h => by cases m <;> cases h
  | n, _, m, .str _, _, h => by cases m <;> cases h
  | n, _, m, .dic _ _, _, h => by cases m <;> cases h
  | n, _, m, .wt _, _, h => by cases m <;> cases h
  | n, _, m, .raw _, _, h => by cases m <;> cases h
  | n, _, m, .fz _, _, h => by cases m <;> cases h
theorem numds_eqv : ∀ (n : Nat) (xs : List D) (m : Nat) (ys : List D), numds n xs = true → numds m ys = true → (PyData.eqvAll (pys xs) (pys ys) = true ↔ xs = ys)
  | n, [], m, [], _, _ => ⟨fun _ => rfl, fun _ => rfl⟩
  | n, [], m, _ :: _, _, _ => ⟨fun h => (by cases h), fun h => (by cases h)⟩
  | n, _ :: _, m, [], _, _ => ⟨fun h => (by cases h), fun h => (by cases h)⟩
  | n, x :: xs, m, y :: ys, h, g => by
    have h' : (numd n x && numds n xs) = true := h
    have g' : (numd m y && numds m ys) = true := g
    rw [Bool.and_eq_true] at h' g'
    show (PyData.eqv (py x) (py y) && PyData.eqvAll (pys xs) (pys ys)) = true ↔ _
    rw [Bool.and_eq_true, numd_eqv n x m y h'.1 g'.1, numds_eqv n xs m ys h'.2 g'.2]
    exact ⟨fun h => by rw [h.1, h.2], fun h => by injection h with a b; exact ⟨a, b⟩⟩
end
theorem eqD_num {x y : D} {n m : Nat} {b : Bool} (hn : n ≤ 64) (hm : m ≤ 64) (h : numd n x = true) (g : numd m y = true) (hb : b = true ↔ x = y) : eqD x y = some (.bl b) := by
  unfold eqD
  rw [if_pos ⟨numd_sh hn h, numd_sh hm g⟩]
  have := numd_eqv n x m y h g
  congr 2
  rw [Bool.eq_iff_iff, this, hb]
theorem neD_num {x y : D} {n m : Nat} {b : Bool} (hn : n ≤ 64) (hm : m ≤ 64) (h : numd n x = true) (g : numd m y = true) (hb : b = true ↔ x = y) : neD x y = some (.bl (!b)) := by
  unfold neD
  rw [if_pos ⟨numd_sh hn h, numd_sh hm g⟩]
  have := numd_eqv n x m y h g
  congr 3
  rw [Bool.eq_iff_iff, this, hb]

/-! ### places in lists -/
theorem atI_at {α : Type} {xs : List α} {i : Int} (h0 : 0 ≤ i) (h1 : i < xs.length) : atI xs i = xs[i.toNat]? := by
  unfold atI ixN
  rw [if_pos h0, if_pos h1]
  rfl
theorem atI_nat {α : Type} {xs : List α} {i : Nat} {x : α} (h : xs[i]? = some x) : atI xs (i : Int) = some x := by
  have hl : i < xs.length := (List.getElem?_eq_some_iff.mp h).1
  rw [atI_at (by omega) (by omega)]
  exact h
theorem atI_last {α : Type} {xs : List α} {x : α} : atI (xs ++ [x]) (-1) = some x := by
  unfold atI ixN
  rw [if_neg (by omega), if_pos (by rw [List.length_append]; simp only [List.length_cons, List.length_nil]; omega)]
  show (xs ++ [x])[(-1 + ((xs ++ [x]).length : Int)).toNat]? = some x
  have : (-1 + ((xs ++ [x]).length : Int)).toNat = xs.length := by rw [List.length_append]; simp only [List.length_cons, List.length_nil]; omega
  rw [this, List.getElem?_append_right (Nat.le_refl _), Nat.sub_self]
  rfl

/-! ### comprehensions -/
theorem compM_map {α : Type} {vs : List Nat} {t : Tg} {tt : Mt} {me : Mi} {S : Sd} (e f : α → D) (p : α → Bool) : ∀ (xs : List α),
    (∀ x ∈ xs, ∃ S1, asg t (e x) (wipeD S vs) = some S1 ∧ tt S1 = some (p x) ∧ (p x = true → me S1 = some (f x))) → compM vs t tt me S (xs.map e) = some ((xs.filter p).map f)
  | [], _ => rfl
  | x :: xs, h => by
    obtain ⟨S1, h1, h2, h3⟩ := h x List.mem_cons_self
    have ih := compM_map e f p xs fun y hy => h y (List.mem_cons_of_mem _ hy)
    show ((asg t (e x) (wipeD S vs)).bind fun S1 => (tt S1).bind fun c => if c = true then (me S1).bind fun y => (compM vs t tt me S (xs.map e)).map fun ys => y :: ys else compM vs t tt me S (xs.map e)) = _
    rw [h1]
    show ((tt S1).bind fun c => if c = true then (me S1).bind fun y => (compM vs t tt me S (xs.map e)).map fun ys => y :: ys else compM vs t tt me S (xs.map e)) = _
    rw [h2]
    show (if p x = true then (me S1).bind fun y => (compM vs t tt me S (xs.map e)).map fun ys => y :: ys else compM vs t tt me S (xs.map e)) = _
    by_cases c : p x = true
    · rw [if_pos c, h3 c, ih, List.filter_cons_of_pos c]
      rfl
    · rw [if_neg c, ih, List.filter_cons_of_neg c]
theorem filter_yes {α : Type} : ∀ (xs : List α), xs.filter (fun _ => true) = xs
  | [] => rfl
  | x :: xs => by rw [List.filter_cons_of_pos rfl, filter_yes xs]
/-- no test -/
theorem mLc_map {α : Type} {mi : Ma} {vs : List Nat} {t : Tg} {me : Mi} {S : Sd} (e f : α → D) (xs : List α) (hi : mi S = some (xs.map e)) (hl : xs.length ≤ 1000000)
    (h : ∀ x ∈ xs, ∃ S1, asg t (e x) (wipeD S vs) = some S1 ∧ me S1 = some (f x)) : mLc mi vs t mYes me S = some (.lst (xs.map f)) := by
  unfold mLc
  rw [hi]
  show (if (xs.map e).length ≤ 1000000 then (compM vs t mYes me S (xs.map e)).map D.lst else none) = _
  rw [if_pos (by rw [List.length_map]; exact hl), compM_map e f (fun _ => true) xs fun x hx => by
    obtain ⟨S1, a, b⟩ := h x hx
    exact ⟨S1, a, rfl, fun _ => b⟩, filter_yes]
  rfl
theorem mLc_filter {α : Type} {mi : Ma} {vs : List Nat} {t : Tg} {tt : Mt} {me : Mi} {S : Sd} (e f : α → D) (p : α → Bool) (xs : List α) (hi : mi S = some (xs.map e)) (hl : xs.length ≤ 1000000)
    (h : ∀ x ∈ xs, ∃ S1, asg t (e x) (wipeD S vs) = some S1 ∧ tt S1 = some (p x) ∧ (p x = true → me S1 = some (f x))) : mLc mi vs t tt me S = some (.lst ((xs.filter p).map f)) := by
  unfold mLc
  rw [hi]
  show (if (xs.map e).length ≤ 1000000 then (compM vs t tt me S (xs.map e)).map D.lst else none) = _
  rw [if_pos (by rw [List.length_map]; exact hl), compM_map e f p xs h]
  rfl

/-! ### loops -/
/-- one turn: goes on, in a state that R speaks of -/
def Turn (t : Tg) (b : Ms) (d : D) (S : Sl) (P : Sl → Prop) : Prop := ∃ S1 S2, asgL t d S = some S1 ∧ (b S1 = some (.nx S2) ∨ b S1 = some (.ct S2)) ∧ P S2
theorem forM_rel {α β : Type} {t : Tg} {b : Ms} (e : α → D) (R : Nat → β → Sl → Prop) (step : β → α → β) : ∀ (xs : List α) (z : β) (S : Sl), R xs.length z S →
    (∀ n z S, R (n + 1) z S → ∀ x ∈ xs, Turn t b (e x) S (R n (step z x))) → ∃ S', forM t b (xs.map e) S = some (.nx S') ∧ R 0 (xs.foldl step z) S'
  | [], z, S, r, _ => ⟨S, rfl, r⟩
  | x :: xs, z, S, r, h => by
    obtain ⟨S1, S2, h1, h2, h3⟩ := h xs.length z S r x List.mem_cons_self
    obtain ⟨S', g1, g2⟩ := forM_rel e R step xs (step z x) S2 h3 fun n z S r y hy => h n z S r y (List.mem_cons_of_mem _ hy)
    refine ⟨S', ?_, g2⟩
    show ((asgL t (e x) S).bind fun S1 => (b S1).bind fun o => match o with
      | .nx S2 => forM t b (xs.map e) S2
      | .ct S2 => forM t b (xs.map e) S2
      | .bk S2 => some (.nx S2)
      | .rt d S2 => some (.rt d S2)) = _
    rw [h1]
    show ((b S1).bind _) = _
    rcases h2 with h2 | h2 <;> rw [h2] <;> exact g1
theorem sFor_rel {α β : Type} {mi : Ma} {t : Tg} {b : Ms} (e : α → D) (R : Nat → β → Sl → Prop) (step : β → α → β) (xs : List α) (z : β) {S : Sl} (hi : mi (cl S) = some (xs.map e)) (r : R xs.length z S)
    (h : ∀ n z S, R (n + 1) z S → ∀ x ∈ xs, Turn t b (e x) S (R n (step z x))) : ∃ S', sFor mi t b S = some (.nx S') ∧ R 0 (xs.foldl step z) S' := by
  unfold sFor
  rw [hi]
  exact forM_rel e R step xs z S r h
theorem bind_for {α β γ : Type} {mi : Ma} {t : Tg} {b : Ms} {S : Sl} {k : Out → Option γ} {res : Option γ} (e : α → D) (R : Nat → β → Sl → Prop) (step : β → α → β) (xs : List α) (z : β) (hi : mi (cl S) = some (xs.map e)) (r : R xs.length z S)
    (h : ∀ n z S, R (n + 1) z S → ∀ x ∈ xs, Turn t b (e x) S (R n (step z x))) (fin : ∀ S', R 0 (xs.foldl step z) S' → k (.nx S') = res) : (sFor mi t b S).bind k = res := by
  obtain ⟨S', e1, r'⟩ := sFor_rel e R step xs z hi r h
  rw [e1]
  exact fin S' r'
theorem whM_go {t : Mt} {b : Ms} {n : Nat} {S S2 : Sl} (h1 : t (op S) = some true) (h2 : b S = some (.nx S2)) : whM t b (n + 1) S = whM t b n S2 := by
  show ((t (op S)).bind fun c => if c = true then (b S).bind fun o => match o with
      | .nx S2 => whM t b n S2
      | .ct S2 => whM t b n S2
      | .bk S2 => some (.nx S2)
      | .rt d S2 => some (.rt d S2)
    else some (.nx S)) = _
  rw [h1, h2]
  rfl
theorem whM_end {t : Mt} {b : Ms} {n : Nat} {S : Sl} (h1 : t (op S) = some false) : whM t b (n + 1) S = some (.nx S) := by
  show ((t (op S)).bind fun c => if c = true then (b S).bind fun o => match o with
      | .nx S2 => whM t b n S2
      | .ct S2 => whM t b n S2
      | .bk S2 => some (.nx S2)
      | .rt d S2 => some (.rt d S2)
    else some (Out.nx S)) = _
  rw [h1]
  rfl
theorem whM_rt {t : Mt} {b : Ms} {n : Nat} {S S2 : Sl} {d : D} (h1 : t (op S) = some true) (h2 : b S = some (.rt d S2)) : whM t b (n + 1) S = some (.rt d S2) := by
  show ((t (op S)).bind fun c => if c = true then (b S).bind fun o => match o with
      | .nx S2 => whM t b n S2
      | .ct S2 => whM t b n S2
      | .bk S2 => some (.nx S2)
      | .rt d S2 => some (.rt d S2)
    else some (.nx S)) = _
  rw [h1, h2]
  rfl
theorem asgL_nm (i : Nat) (d : D) (S : Sl) : asgL (.nm i) d S = some (S.set i (.dat d)) := rfl
theorem asgL_tp (ts : List Tg) (ds : List D) (S : Sl) : asgL (.tp ts) (.tup ds) S = asgsL ts ds S := rfl
theorem asgL_wt (ts : List Tg) (ds : List D) (S : Sl) : asgL (.tp ts) (.wt ds) S = asgsL ts ds S := rfl
theorem asgsL_nil (S : Sl) : asgsL [] [] S = some S := rfl
theorem asgsL_cons (t : Tg) (ts : List Tg) (d : D) (ds : List D) (S : Sl) : asgsL (t :: ts) (d :: ds) S = (asgL t d S).bind fun S1 => asgsL ts ds S1 := rfl
theorem asg_nm (i : Nat) (d : D) (S : Sd) : asg (.nm i) d S = some (S.set i (some d)) := rfl
theorem asg_tp (ts : List Tg) (ds : List D) (S : Sd) : asg (.tp ts) (.tup ds) S = asgs ts ds S := rfl
theorem asgs_nil (S : Sd) : asgs [] [] S = some S := rfl
theorem asgs_cons (t : Tg) (ts : List Tg) (d : D) (ds : List D) (S : Sd) : asgs (t :: ts) (d :: ds) S = (asg t d S).bind fun S1 => asgs ts ds S1 := rfl
theorem sSeq_nx {a b : Ms} {S S1 : Sl} (h : a S = some (.nx S1)) : sSeq a b S = b S1 := by
  unfold sSeq
  rw [h]
  rfl
theorem sSeq_rt {a b : Ms} {S S1 : Sl} {d : D} (h : a S = some (.rt d S1)) : sSeq a b S = some (.rt d S1) := by
  unfold sSeq
  rw [h]
  rfl
theorem sSeq_ct {a b : Ms} {S S1 : Sl} (h : a S = some (.ct S1)) : sSeq a b S = some (.ct S1) := by
  unfold sSeq
  rw [h]
  rfl
theorem run_rt {n : Nat} {m : Ms} {ds : List D} {d : D} {S : Sl} (h : m (initS n ds) = some (.rt d S)) : runF n m ds = some d := by
  unfold runF
  rw [h]
  rfl
theorem run_nx {n : Nat} {m : Ms} {ds : List D} {S : Sl} (h : m (initS n ds) = some (.nx S)) : runF n m ds = some .non := by
  unfold runF
  rw [h]
  rfl
theorem flat_tp (ds : List D) : flat (.tup ds) = flats ds := rfl
theorem flat_in (i : Int) : flat (.int i) = true := rfl
theorem flat_bo (i : Bool) : flat (.bl i) = true := rfl
theorem flat_no : flat .non = true := rfl
theorem flats_nl : flats [] = true := rfl
theorem flats_cn (d : D) (ds : List D) : flats (d :: ds) = (flat d && flats ds) := rfl
theorem turn_nx {t : Tg} {b : Ms} {d : D} {S S2 : Sl} {P : Sl → Prop} (h : (asgL t d S).bind b = some (.nx S2)) (p : P S2) : Turn t b d S P := by
  obtain ⟨S1, h1, h2⟩ := bind_some h
  exact ⟨S1, S2, h1, .inl h2, p⟩
theorem turn_ct {t : Tg} {b : Ms} {d : D} {S S2 : Sl} {P : Sl → Prop} (h : (asgL t d S).bind b = some (.ct S2)) (p : P S2) : Turn t b d S P := by
  obtain ⟨S1, h1, h2⟩ := bind_some h
  exact ⟨S1, S2, h1, .inr h2, p⟩
theorem rangeL_map (n : Nat) : rangeL 0 n = (List.range n).map fun (i : Nat) => D.int (i : Int) := by
  unfold rangeL
  congr 1
  funext i
  rw [Int.zero_add]
theorem itR1_a1 (n : Nat) (hn : n ≤ 1000000) : (-4611686018427387904 : Int) ≤ (n : Int) ∧ (n : Int) < 4611686018427387904 := ⟨by omega, by omega⟩
theorem itR1_a2 {m : Ma} {S : Sd} {n : Int} (h : m S = some [.int n]) (c : (-4611686018427387904 : Int) ≤ n ∧ n < 4611686018427387904) : itR1 m S = some (rangeL 0 n.toNat) := by
  unfold itR1
  rw [h]
  simp only [Option.bind_some]
  exact if_pos c
theorem itR1_at {m : Ma} {S : Sd} {n : Nat} (h : m S = some [.int (n : Int)]) (hn : n ≤ 1000000) : itR1 m S = some ((List.range n).map fun (i : Nat) => D.int (i : Int)) :=
  (itR1_a2 h (itR1_a1 n hn)).trans (congrArg some (rangeL_map n))
theorem intsOf_map : ∀ (ns : List Int), intsOf (ns.map .int) = some ns
  | [] => rfl
  | n :: ns => by
    show (intsOf (ns.map .int)).map (fun k => n :: k) = _
    rw [intsOf_map ns]
    rfl
theorem pairUp_map {α : Type} (e f : α → D) : ∀ (xs : List α), pairUp (xs.map e) (xs.map f) = xs.map fun x => .tup [e x, f x]
  | [] => rfl
  | x :: xs => by
    show D.tup [e x, f x] :: pairUp (xs.map e) (xs.map f) = _
    rw [pairUp_map e f xs]
    rfl
theorem flats_map {α : Type} {e : α → D} : ∀ {xs : List α}, (∀ x ∈ xs, flat (e x) = true) → flats (xs.map e) = true
  | [], _ => rfl
  | x :: xs, h => by
    show (flat (e x) && flats (xs.map e)) = true
    rw [h x List.mem_cons_self, flats_map fun y hy => h y (List.mem_cons_of_mem _ hy)]
    rfl
end Ice

/-! the program's defs by plain functions -/
namespace Ice
open PySem PySem.Spec PyProof.Rows L2

theorem bind_c1 {α β : Type} {a a' : Option α} {f : α → Option β} (h : a = a') : a.bind f = a'.bind f := by rw [h]
theorem map_c1 {α β : Type} {a a' : Option α} {f : α → β} (h : a = a') : a.map f = a'.map f := by rw [h]
/-! ### data of a house -/
structure Hs where
  heats : List Int
  cells : List (List Int)
  walls : List (Int × Int × Int)
def eW (w : Int × Int × Int) : D := .tup [.int w.1, .int w.2.1, .int w.2.2]
def eRow (r : List Int) : D := .tup (r.map .int)
def eCells (c : List (List Int)) : D := .tup (c.map eRow)
def eWalls (ws : List (Int × Int × Int)) : D := .tup (ws.map eW)
def eH (h : Hs) : D := .tup [eRow h.heats, eCells h.cells, eWalls h.walls]
def e2 (x : Int × Int) : D := .tup [.int x.1, .int x.2]
def wide (cs : List (List Int)) : Nat := (cs.headD []).length
def cellAt (cs : List (List Int)) (r c : Int) : Int := (cs.getD r.toNat []).getD c.toNat 0
/-- a grid -/
structure Gr (cs : List (List Int)) : Prop where
  hi : 1 ≤ cs.length ∧ cs.length ≤ 4
  wi : 1 ≤ wide cs ∧ wide cs ≤ 4
  all : ∀ r ∈ cs, r.length = wide cs
def inG (cs : List (List Int)) (r c : Int) : Bool := decide (0 ≤ r ∧ r < cs.length) && decide (0 ≤ c ∧ c < wide cs)
theorem len_cells (cs : List (List Int)) : lenA [eCells cs] = some (.int cs.length) := by
  show some (D.int ((cs.map eRow).length : Nat)) = _
  rw [List.length_map]
theorem len_row (r : List Int) : lenA [eRow r] = some (.int r.length) := by
  show some (D.int ((r.map D.int).length : Nat)) = _
  rw [List.length_map]
theorem ix_cells {cs : List (List Int)} {r : Int} (h0 : 0 ≤ r) (h1 : r < cs.length) : ixD (eCells cs) (.int r) = some (eRow (cs.getD r.toNat [])) := by
  show atI (cs.map eRow) r = _
  have h : r.toNat < cs.length := by omega
  rw [atI_at h0 (by rw [List.length_map]; exact h1), List.getElem?_map, List.getElem?_eq_getElem h, List.getD_eq_getElem?_getD, List.getElem?_eq_getElem h]
  rfl
theorem ix_row {r : List Int} {c : Int} (h0 : 0 ≤ c) (h1 : c < r.length) : ixD (eRow r) (.int c) = some (.int (r.getD c.toNat 0)) := by
  show atI (r.map D.int) c = _
  have h : c.toNat < r.length := by omega
  rw [atI_at h0 (by rw [List.length_map]; exact h1), List.getElem?_map, List.getElem?_eq_getElem h, List.getD_eq_getElem?_getD, List.getElem?_eq_getElem h]
  rfl
theorem Gr.row {cs : List (List Int)} (g : Gr cs) {r : Int} (h0 : 0 ≤ r) (h1 : r < cs.length) : (cs.getD r.toNat []).length = wide cs := by
  have h : r.toNat < cs.length := by omega
  rw [List.getD_eq_getElem?_getD, List.getElem?_eq_getElem h]
  exact g.all _ (List.getElem_mem h)
theorem Gr.zero {cs : List (List Int)} (g : Gr cs) : ixD (eCells cs) (.int 0) = some (eRow (cs.headD [])) := by
  have := g.hi
  rw [ix_cells (Int.le_refl _) (by omega)]
  cases cs with
  | nil => rfl
  | cons r rs => rfl
theorem Gr.ix {cs : List (List Int)} (g : Gr cs) {r c : Int} (h : inG cs r c = true) : ixD (eCells cs) (.int r) = some (eRow (cs.getD r.toNat [])) ∧ ixD (eRow (cs.getD r.toNat [])) (.int c) = some (.int (cellAt cs r c)) := by
  unfold inG at h
  rw [Bool.and_eq_true, decide_eq_true_iff, decide_eq_true_iff] at h
  exact ⟨ix_cells h.1.1 h.1.2, ix_row h.2.1 (by rw [g.row h.1.1 h.1.2]; exact h.2.2)⟩

/-! ### faces -/
def face (w : Int × Int × Int) : Int × Int × Int := if w.2.2 = 0 ∧ 0 < w.1 then (w.1 - 1, w.2.1, 2) else if w.2.2 = 3 ∧ 0 < w.2.1 then (w.1, w.2.1 - 1, 1) else w
theorem g_face (r c s : Int) : G_face_name [.int r, .int c, .int s] = some (eW (face (r, c, s))) := by
  unfold G_face_name mr_face_name face
  by_cases h1 : s = 0 <;> by_cases h2 : 0 < r <;> by_cases h3 : s = 3 <;> by_cases h4 : 0 < c <;>
    simp (config := { decide := false }) only [runF, initS, sSeq, sIf, sRet, sRetN, sSet, sSetF, sSetO, sDrop, sNext, sNever, sUnp, sUnpF, sApp, sAppF, sLend, sAugI, asgL_nm, asgL_tp, asgL_wt, asgsL_nil, asgsL_cons, asg_nm, asg_tp, asgs_nil, asgs_cons, wipeD, mAnd, mOr, mNot, mB, mTr, m2, m1, mV, mC, mA, mCh, mAndV, mOrV, aCons, aNil, guardN, op, cl, fl, opn, clos, flt, eqD_int, neD_int, gtD, ltD, leD, geD, addD, subD, negD, tupD, lstD, tupF, lstF, outD, notD, tru, isD, isnD, isN, flat_tp, flat_in, flat_bo, flat_no, flats_nl, flats_cn,
  List.map_cons, List.map_nil, List.length_cons, List.length_nil, List.replicate, List.getElem?_cons_zero, List.getElem?_cons_succ, List.getElem?_nil, List.cons_append, List.nil_append, Option.bind_some, Option.bind_none, Option.bind_assoc, Option.map_some, Option.map_none, Nat.reduceAdd, Nat.reduceSub, Nat.reduceLeDiff, List.set_cons_zero, List.set_cons_succ, if_true, if_false, ite_true, ite_false, reduceCtorEq, Bool.false_eq_true, Bool.not_true, Bool.not_false, ↓reduceIte, eq_self, h1, h2, h3, h4, eW, beq_iff_eq, decide_true, decide_false, and_true, and_false, beq_self_eq_true, and_self, Int.reduceBEq, Int.reduceEq, beq_eq_false_iff_ne] <;> simp [h1, h3]
theorem g_has_cell {cs : List (List Int)} (g : Gr cs) (r c : Int) : G_has_cell [eCells cs, .int r, .int c] = some (.bl (inG cs r c)) := by
  unfold G_has_cell mr_has_cell inG
  have hz := g.zero
  by_cases h1 : 0 ≤ r <;> by_cases h2 : r < cs.length <;> by_cases h3 : 0 ≤ c <;> by_cases h4 : c < wide cs <;>
    simp (config := { decide := false }) only [runF, initS, sSeq, sIf, sRet, sRetN, sSet, sSetF, sSetO, sDrop, sNext, sNever, sUnp, sUnpF, sApp, sAppF, sLend, sAugI, asgL_nm, asgL_tp, asgL_wt, asgsL_nil, asgsL_cons, asg_nm, asg_tp, asgs_nil, asgs_cons, wipeD, mAnd, mOr, mNot, mB, mTr, m2, m1, mV, mC, mA, mCh, mAndV, mOrV, aCons, aNil, guardN, op, cl, fl, opn, clos, flt, eqD_int, neD_int, gtD, ltD, leD, geD, addD, subD, negD, tupD, lstD, tupF, lstF, outD, notD, tru, isD, isnD, isN, flat_tp, flat_in, flat_bo, flat_no, flats_nl, flats_cn,
  List.map_cons, List.map_nil, List.length_cons, List.length_nil, List.replicate, List.getElem?_cons_zero, List.getElem?_cons_succ, List.getElem?_nil, List.cons_append, List.nil_append, Option.bind_some, Option.bind_none, Option.bind_assoc, Option.map_some, Option.map_none, Nat.reduceAdd, Nat.reduceSub, Nat.reduceLeDiff, List.set_cons_zero, List.set_cons_succ, if_true, if_false, ite_true, ite_false, reduceCtorEq, Bool.false_eq_true, Bool.not_true, Bool.not_false, ↓reduceIte, eq_self, len_cells, len_row, hz, h1, h2, h3, h4, decide_true, decide_false, Bool.and_true, Bool.and_false, Bool.true_and, Bool.false_and, and_true, and_false, true_and, false_and] <;> (try (unfold wide at h4; simp only [h4, decide_true, decide_false]))
def kKey (w : Int × Int × Int) : List Key := [.inl w.1, .inl w.2.1, .inl w.2.2]
def shutK (ws : List (Int × Int × Int)) : List (List Key) := ws.foldl (fun ks w => putKs ks (kKey (face w))) []
def eShut (ks : List (List Key)) : D := .dic ks (ks.map fun _ => .bl true)
theorem key_eW (w : Int × Int × Int) : keyOf [.int w.1, .int w.2.1, .int w.2.2] = some (kKey w) := rfl
theorem put_true (ks : List (List Key)) (k : List Key) : putDs ks (ks.map fun _ => D.bl true) k (.bl true) = (putKs ks k).map fun _ => D.bl true := by
  unfold putDs putKs
  split
  · have : ∀ l : List (List Key), replD l (l.map fun _ => D.bl true) k (.bl true) = l.map fun _ => D.bl true := fun l => by
      induction l with
      | nil => rfl
      | cons j l ih =>
        show (if j = k then D.bl true else D.bl true) :: replD l (l.map fun _ => D.bl true) k (.bl true) = _
        rw [ih, ite_self]
        rfl
    exact this ks
  · rw [List.map_append]
    rfl
theorem shut_comp {vs : List Nat} {t : Tg} {mk mv : Mi} {S : Sd} : ∀ (ws : List (Int × Int × Int)) (ks : List (List Key)),
    (∀ w ∈ ws, ∃ S1, asg t (eW w) (wipeD S vs) = some S1 ∧ mk S1 = some (eW (face w)) ∧ mv S1 = some (.bl true)) →
    compDc vs t mYes mk mv S (ws.map eW) ks (ks.map fun _ => .bl true) = some (ws.foldl (fun ks w => putKs ks (kKey (face w))) ks, (ws.foldl (fun ks w => putKs ks (kKey (face w))) ks).map fun _ => .bl true)
  | [], ks, _ => rfl
  | w :: ws, ks, h => by
    obtain ⟨S1, h1, h2, h3⟩ := h w List.mem_cons_self
    have ih := shut_comp ws (putKs ks (kKey (face w))) fun v hv => h v (List.mem_cons_of_mem _ hv)
    rw [List.map_cons]
    unfold compDc
    rw [h1]
    simp only [Option.bind_some, mYes, if_true, h2, h3]
    show (keyOf [.int (face w).1, .int (face w).2.1, .int (face w).2.2]).bind _ = _
    rw [key_eW]
    simp only [Option.bind_some, put_true]
    exact ih
theorem g_shut (ws : List (Int × Int × Int)) (hl : ws.length ≤ 1000000) : G_shut_faces [eWalls ws] = some (eShut (shutK ws)) := by
  unfold G_shut_faces mr_shut_faces
  have e : mDc (itT (mV 0)) [1, 2, 3] (.tp [(.nm 1), (.nm 2), (.nm 3)]) mYes (mA (guardN 3 G_face_name) (aCons (mV 1) (aCons (mV 2) (aCons (mV 3) aNil)))) (mC (.bl true)) [some (eWalls ws), none, none, none] = some (eShut (shutK ws)) := by
    have := shut_comp (vs := [1, 2, 3]) (t := .tp [(.nm 1), (.nm 2), (.nm 3)]) (mk := mA (guardN 3 G_face_name) (aCons (mV 1) (aCons (mV 2) (aCons (mV 3) aNil)))) (mv := mC (.bl true)) (S := [some (eWalls ws), none, none, none]) ws [] fun w _ => by
      refine ⟨[some (eWalls ws), some (.int w.1), some (.int w.2.1), some (.int w.2.2)], rfl, ?_, rfl⟩
      simp (config := { decide := false }) only [runF, initS, sSeq, sIf, sRet, sRetN, sSet, sSetF, sSetO, sDrop, sNext, sNever, sUnp, sUnpF, sApp, sAppF, sLend, sAugI, asgL_nm, asgL_tp, asgL_wt, asgsL_nil, asgsL_cons, asg_nm, asg_tp, asgs_nil, asgs_cons, wipeD, mAnd, mOr, mNot, mB, mTr, m2, m1, mV, mC, mA, mCh, mAndV, mOrV, aCons, aNil, guardN, op, cl, fl, opn, clos, flt, eqD_int, neD_int, gtD, ltD, leD, geD, addD, subD, negD, tupD, lstD, tupF, lstF, outD, notD, tru, isD, isnD, isN, flat_tp, flat_in, flat_bo, flat_no, flats_nl, flats_cn,
  List.map_cons, List.map_nil, List.length_cons, List.length_nil, List.replicate, List.getElem?_cons_zero, List.getElem?_cons_succ, List.getElem?_nil, List.cons_append, List.nil_append, Option.bind_some, Option.bind_none, Option.bind_assoc, Option.map_some, Option.map_none, Nat.reduceAdd, Nat.reduceSub, Nat.reduceLeDiff, List.set_cons_zero, List.set_cons_succ, if_true, if_false, ite_true, ite_false, reduceCtorEq, Bool.false_eq_true, Bool.not_true, Bool.not_false, ↓reduceIte, eq_self, g_face]
    unfold mDc
    show (if (ws.map eW).length ≤ 1000000 then _ else none) = _
    rw [if_pos (by rw [List.length_map]; exact hl)]
    exact congrArg (Option.map fun p => D.dic p.1 p.2) this
  show ((sRet _ [.dat (eWalls ws), .un, .un, .un]).bind outD) = _
  unfold sRet
  show (((mDc _ _ _ _ _ _ [some (eWalls ws), none, none, none]).map _).bind outD) = _
  rw [e]
  rfl
end Ice

namespace Ice
open PySem PySem.Spec PyProof.Rows L2
def isShut (ks : List (List Key)) (w : Int × Int × Int) : Bool := ks.any fun j => decide (j = kKey w)
def heatAt (hs : List Int) (s : Int) : Int := hs.getD s.toNat 0
def faceAt (hs : List Int) (cs : List (List Int)) (ks : List (List Key)) (r c : Int) (x : Int × Int × Int) : List (Int × Int) :=
  if isShut ks (face (r, c, x.1)) = true then [] else if inG cs (r + x.2.1) (c + x.2.2) = true then (if cellAt cs (r + x.2.1) (c + x.2.2) = 0 then [(x.1, heatAt hs 4)] else []) else [(x.1, heatAt hs x.1)]
def sides : List (Int × Int × Int) := [(0, -1, 0), (1, 0, 1), (2, 1, 0), (3, 0, -1)]
def eSide (x : Int × Int × Int) : D := .tup [.int x.1, .wt [.int x.2.1, .int x.2.2]]
def faces (hs : List Int) (cs : List (List Int)) (ks : List (List Key)) (r c : Int) : List (Int × Int) := if cellAt cs r c = 0 then [] else sides.foldl (fun z x => z ++ faceAt hs cs ks r c x) []
theorem in_shut (ks : List (List Key)) (w : Int × Int × Int) : inK (eW w) (eShut ks) = some (.bl (isShut ks w)) := by
  unfold inK eW eShut
  simp only [key_eW, Option.map_some]
  rfl
theorem ix_heat {hs : List Int} (hl : hs.length = 5) {s : Int} (h0 : 0 ≤ s) (h1 : s < 5) : ixD (eRow hs) (.int s) = some (.int (heatAt hs s)) := ix_row h0 (by rw [hl]; exact h1)
theorem sides_ok : ∀ x ∈ sides, 0 ≤ x.1 ∧ x.1 < 4 := by decide
theorem g_faces {hs : List Int} {cs : List (List Int)} (ks : List (List Key)) (hl : hs.length = 5) (g : Gr cs) {r c : Int} (hc : inG cs r c = true) :
    G__faces [eRow hs, eCells cs, eShut ks, .int r, .int c] = some (.lst ((faces hs cs ks r c).map e2)) := by
  obtain ⟨hx1, hx2⟩ := g.ix hc
  unfold G__faces mr__faces faces
  by_cases h0 : cellAt cs r c = 0
  · simp (config := { decide := false }) only [runF, initS, sSeq, sIf, sRet, sRetN, sSet, sSetF, sSetO, sDrop, sNext, sNever, sUnp, sUnpF, sApp, sAppF, sLend, sAugI, asgL_nm, asgL_tp, asgL_wt, asgsL_nil, asgsL_cons, asg_nm, asg_tp, asgs_nil, asgs_cons, wipeD, mAnd, mOr, mNot, mB, mTr, m2, m1, mV, mC, mA, mCh, mAndV, mOrV, aCons, aNil, guardN, op, cl, fl, opn, clos, flt, eqD_int, neD_int, gtD, ltD, leD, geD, addD, subD, negD, tupD, lstD, tupF, lstF, outD, notD, tru, isD, isnD, isN, flat_tp, flat_in, flat_bo, flat_no, flats_nl, flats_cn,
  List.map_cons, List.map_nil, List.length_cons, List.length_nil, List.replicate, List.getElem?_cons_zero, List.getElem?_cons_succ, List.getElem?_nil, List.cons_append, List.nil_append, Option.bind_some, Option.bind_none, Option.bind_assoc, Option.map_some, Option.map_none, Nat.reduceAdd, Nat.reduceSub, Nat.reduceLeDiff, List.set_cons_zero, List.set_cons_succ, if_true, if_false, ite_true, ite_false, reduceCtorEq, Bool.false_eq_true, Bool.not_true, Bool.not_false, ↓reduceIte, eq_self, hx1, hx2, h0, beq_self_eq_true]
  · have hb : (cellAt cs r c == 0) = false := beq_eq_false_iff_ne.mpr h0
    simp (config := { decide := false }) only [runF, initS, sSeq, sIf, sRet, sRetN, sSet, sSetF, sSetO, sDrop, sNext, sNever, sUnp, sUnpF, sApp, sAppF, sLend, sAugI, asgL_nm, asgL_tp, asgL_wt, asgsL_nil, asgsL_cons, asg_nm, asg_tp, asgs_nil, asgs_cons, wipeD, mAnd, mOr, mNot, mB, mTr, m2, m1, mV, mC, mA, mCh, mAndV, mOrV, aCons, aNil, guardN, op, cl, fl, opn, clos, flt, eqD_int, neD_int, gtD, ltD, leD, geD, addD, subD, negD, tupD, lstD, tupF, lstF, outD, notD, tru, isD, isnD, isN, flat_tp, flat_in, flat_bo, flat_no, flats_nl, flats_cn,
  List.map_cons, List.map_nil, List.length_cons, List.length_nil, List.replicate, List.getElem?_cons_zero, List.getElem?_cons_succ, List.getElem?_nil, List.cons_append, List.nil_append, Option.bind_some, Option.bind_none, Option.bind_assoc, Option.map_some, Option.map_none, Nat.reduceAdd, Nat.reduceSub, Nat.reduceLeDiff, List.set_cons_zero, List.set_cons_succ, if_true, if_false, ite_true, ite_false, reduceCtorEq, Bool.false_eq_true, Bool.not_true, Bool.not_false, ↓reduceIte, eq_self, hx1, hx2, hb, h0, beq_self_eq_true]
    refine bind_for eSide (fun n (z : List (Int × Int)) S => z.length + n ≤ 4 ∧ ∃ u v w, S = [.dat (eRow hs), .dat (eCells cs), .dat (eShut ks), .dat (.int r), .dat (.int c), .own (z.map e2), u, v, w]) (fun z x => z ++ faceAt hs cs ks r c x) sides [] ?_ ⟨by decide, .un, .un, .un, rfl⟩ ?_ ?_
    · rfl
    · rintro n z S ⟨hz, u, v, w, rfl⟩ x hx
      have hzl : (z.map e2).length < 1000000 := by rw [List.length_map]; omega
      have hs1 := sides_ok x hx
      have hh := ix_heat hl hs1.1 (Int.lt_trans hs1.2 (by decide))
      have h4 := ix_heat hl (s := 4) (by decide) (by decide)
      unfold faceAt
      by_cases h1 : isShut ks (face (r, c, x.1)) = true
      · apply turn_ct
        case h =>
          simp (config := { decide := false }) only [runF, initS, sSeq, sIf, sRet, sRetN, sSet, sSetF, sSetO, sDrop, sNext, sNever, sUnp, sUnpF, sApp, sAppF, sLend, sAugI, asgL_nm, asgL_tp, asgL_wt, asgsL_nil, asgsL_cons, asg_nm, asg_tp, asgs_nil, asgs_cons, wipeD, mAnd, mOr, mNot, mB, mTr, m2, m1, mV, mC, mA, mCh, mAndV, mOrV, aCons, aNil, guardN, op, cl, fl, opn, clos, flt, eqD_int, neD_int, gtD, ltD, leD, geD, addD, subD, negD, tupD, lstD, tupF, lstF, outD, notD, tru, isD, isnD, isN, flat_tp, flat_in, flat_bo, flat_no, flats_nl, flats_cn,
  List.map_cons, List.map_nil, List.length_cons, List.length_nil, List.replicate, List.getElem?_cons_zero, List.getElem?_cons_succ, List.getElem?_nil, List.cons_append, List.nil_append, Option.bind_some, Option.bind_none, Option.bind_assoc, Option.map_some, Option.map_none, Nat.reduceAdd, Nat.reduceSub, Nat.reduceLeDiff, List.set_cons_zero, List.set_cons_succ, if_true, if_false, ite_true, ite_false, reduceCtorEq, Bool.false_eq_true, Bool.not_true, Bool.not_false, ↓reduceIte, eq_self, eSide, g_face, in_shut, h1]
          rfl
        case p =>
          rw [if_pos h1, List.append_nil]
          exact ⟨by omega, _, _, _, rfl⟩
      · have h1' : isShut ks (face (r, c, x.1)) = false := Bool.eq_false_iff.mpr h1
        by_cases h2 : inG cs (r + x.2.1) (c + x.2.2) = true
        · obtain ⟨gx1, gx2⟩ := g.ix h2
          by_cases h3 : cellAt cs (r + x.2.1) (c + x.2.2) = 0
          · apply turn_nx
            case h =>
              simp (config := { decide := false }) only [runF, initS, sSeq, sIf, sRet, sRetN, sSet, sSetF, sSetO, sDrop, sNext, sNever, sUnp, sUnpF, sApp, sAppF, sLend, sAugI, asgL_nm, asgL_tp, asgL_wt, asgsL_nil, asgsL_cons, asg_nm, asg_tp, asgs_nil, asgs_cons, wipeD, mAnd, mOr, mNot, mB, mTr, m2, m1, mV, mC, mA, mCh, mAndV, mOrV, aCons, aNil, guardN, op, cl, fl, opn, clos, flt, eqD_int, neD_int, gtD, ltD, leD, geD, addD, subD, negD, tupD, lstD, tupF, lstF, outD, notD, tru, isD, isnD, isN, flat_tp, flat_in, flat_bo, flat_no, flats_nl, flats_cn,
  List.map_cons, List.map_nil, List.length_cons, List.length_nil, List.replicate, List.getElem?_cons_zero, List.getElem?_cons_succ, List.getElem?_nil, List.cons_append, List.nil_append, Option.bind_some, Option.bind_none, Option.bind_assoc, Option.map_some, Option.map_none, Nat.reduceAdd, Nat.reduceSub, Nat.reduceLeDiff, List.set_cons_zero, List.set_cons_succ, if_true, if_false, ite_true, ite_false, reduceCtorEq, Bool.false_eq_true, Bool.not_true, Bool.not_false, ↓reduceIte, eq_self, eSide, g_face, in_shut, h1', g_has_cell g, h2, gx1, gx2, h3, beq_self_eq_true, h4, hzl]
              rfl
            case p =>
              rw [if_neg h1, if_pos h2, if_pos h3]
              exact ⟨by rw [List.length_append]; show z.length + 1 + n ≤ 4; omega, _, _, _, by rw [List.map_append]; rfl⟩
          · apply turn_nx
            case h =>
              simp (config := { decide := false }) only [runF, initS, sSeq, sIf, sRet, sRetN, sSet, sSetF, sSetO, sDrop, sNext, sNever, sUnp, sUnpF, sApp, sAppF, sLend, sAugI, asgL_nm, asgL_tp, asgL_wt, asgsL_nil, asgsL_cons, asg_nm, asg_tp, asgs_nil, asgs_cons, wipeD, mAnd, mOr, mNot, mB, mTr, m2, m1, mV, mC, mA, mCh, mAndV, mOrV, aCons, aNil, guardN, op, cl, fl, opn, clos, flt, eqD_int, neD_int, gtD, ltD, leD, geD, addD, subD, negD, tupD, lstD, tupF, lstF, outD, notD, tru, isD, isnD, isN, flat_tp, flat_in, flat_bo, flat_no, flats_nl, flats_cn,
  List.map_cons, List.map_nil, List.length_cons, List.length_nil, List.replicate, List.getElem?_cons_zero, List.getElem?_cons_succ, List.getElem?_nil, List.cons_append, List.nil_append, Option.bind_some, Option.bind_none, Option.bind_assoc, Option.map_some, Option.map_none, Nat.reduceAdd, Nat.reduceSub, Nat.reduceLeDiff, List.set_cons_zero, List.set_cons_succ, if_true, if_false, ite_true, ite_false, reduceCtorEq, Bool.false_eq_true, Bool.not_true, Bool.not_false, ↓reduceIte, eq_self, eSide, g_face, in_shut, h1', g_has_cell g, h2, gx1, gx2, beq_eq_false_iff_ne.mpr h3, h4, hzl]
              rfl
            case p =>
              rw [if_neg h1, if_pos h2, if_neg h3, List.append_nil]
              exact ⟨by omega, _, _, _, rfl⟩
        · have h2' : inG cs (r + x.2.1) (c + x.2.2) = false := Bool.eq_false_iff.mpr h2
          apply turn_nx
          case h =>
            simp (config := { decide := false }) only [runF, initS, sSeq, sIf, sRet, sRetN, sSet, sSetF, sSetO, sDrop, sNext, sNever, sUnp, sUnpF, sApp, sAppF, sLend, sAugI, asgL_nm, asgL_tp, asgL_wt, asgsL_nil, asgsL_cons, asg_nm, asg_tp, asgs_nil, asgs_cons, wipeD, mAnd, mOr, mNot, mB, mTr, m2, m1, mV, mC, mA, mCh, mAndV, mOrV, aCons, aNil, guardN, op, cl, fl, opn, clos, flt, eqD_int, neD_int, gtD, ltD, leD, geD, addD, subD, negD, tupD, lstD, tupF, lstF, outD, notD, tru, isD, isnD, isN, flat_tp, flat_in, flat_bo, flat_no, flats_nl, flats_cn,
  List.map_cons, List.map_nil, List.length_cons, List.length_nil, List.replicate, List.getElem?_cons_zero, List.getElem?_cons_succ, List.getElem?_nil, List.cons_append, List.nil_append, Option.bind_some, Option.bind_none, Option.bind_assoc, Option.map_some, Option.map_none, Nat.reduceAdd, Nat.reduceSub, Nat.reduceLeDiff, List.set_cons_zero, List.set_cons_succ, if_true, if_false, ite_true, ite_false, reduceCtorEq, Bool.false_eq_true, Bool.not_true, Bool.not_false, ↓reduceIte, eq_self, eSide, g_face, in_shut, h1', g_has_cell g, h2', hh, hzl]
            rfl
          case p =>
            rw [if_neg h1, if_neg h2]
            exact ⟨by rw [List.length_append]; show z.length + 1 + n ≤ 4; omega, _, _, _, by rw [List.map_append]; rfl⟩
    · rintro S' ⟨hz, u, v, w, rfl⟩
      simp (config := { decide := false }) only [runF, initS, sSeq, sIf, sRet, sRetN, sSet, sSetF, sSetO, sDrop, sNext, sNever, sUnp, sUnpF, sApp, sAppF, sLend, sAugI, asgL_nm, asgL_tp, asgL_wt, asgsL_nil, asgsL_cons, asg_nm, asg_tp, asgs_nil, asgs_cons, wipeD, mAnd, mOr, mNot, mB, mTr, m2, m1, mV, mC, mA, mCh, mAndV, mOrV, aCons, aNil, guardN, op, cl, fl, opn, clos, flt, eqD_int, neD_int, gtD, ltD, leD, geD, addD, subD, negD, tupD, lstD, tupF, lstF, outD, notD, tru, isD, isnD, isN, flat_tp, flat_in, flat_bo, flat_no, flats_nl, flats_cn,
  List.map_cons, List.map_nil, List.length_cons, List.length_nil, List.replicate, List.getElem?_cons_zero, List.getElem?_cons_succ, List.getElem?_nil, List.cons_append, List.nil_append, Option.bind_some, Option.bind_none, Option.bind_assoc, Option.map_some, Option.map_none, Nat.reduceAdd, Nat.reduceSub, Nat.reduceLeDiff, List.set_cons_zero, List.set_cons_succ, if_true, if_false, ite_true, ite_false, reduceCtorEq, Bool.false_eq_true, Bool.not_true, Bool.not_false, ↓reduceIte, eq_self]
end Ice

namespace Ice
open PySem PySem.Spec PyProof.Rows L2
theorem faceAt_len (hs : List Int) (cs : List (List Int)) (ks : List (List Key)) (r c : Int) (x : Int × Int × Int) : (faceAt hs cs ks r c x).length ≤ 1 := by
  unfold faceAt
  split
  · exact Nat.zero_le _
  · split
    · split
      · exact Nat.le_refl _
      · exact Nat.zero_le _
    · exact Nat.le_refl _
theorem faces_len (hs : List Int) (cs : List (List Int)) (ks : List (List Key)) (r c : Int) : (faces hs cs ks r c).length ≤ 4 := by
  unfold faces
  split
  · exact Nat.zero_le _
  · have h := faceAt_len hs cs ks r c
    have a := h (0, -1, 0)
    have b := h (1, 0, 1)
    have d := h (2, 1, 0)
    have e := h (3, 0, -1)
    simp only [sides, List.foldl_cons, List.foldl_nil, List.nil_append, List.length_append]
    omega
def rate (hs : List Int) (cs : List (List Int)) (ks : List (List Key)) (r c : Int) : Int := ((faces hs cs ks r c).map fun x => x.2).sum
def rates (hs : List Int) (cs : List (List Int)) (ks : List (List Key)) : List (List Int) := (List.range cs.length).map fun (r : Nat) => (List.range (wide cs)).map fun (c : Nat) => rate hs cs ks r c
theorem sum_ints (ns : List Int) : sumA [.lst (ns.map .int)] = some (.int ns.sum) := by
  show (intsOf (ns.map .int)).map _ = _
  rw [intsOf_map]
  rfl
theorem g_loss {hs : List Int} {cs : List (List Int)} (ks : List (List Key)) (hl : hs.length = 5) (g : Gr cs) {r c : Int} (hc : inG cs r c = true) :
    G__loss [eRow hs, eCells cs, eShut ks, .int r, .int c] = some (.int (rate hs cs ks r c)) := by
  unfold G__loss mr__loss
  simp (config := { decide := false }) only [runF, initS, sSeq, sIf, sRet, sRetN, sSet, sSetF, sSetO, sDrop, sNext, sNever, sUnp, sUnpF, sApp, sAppF, sLend, sAugI, asgL_nm, asgL_tp, asgL_wt, asgsL_nil, asgsL_cons, asg_nm, asg_tp, asgs_nil, asgs_cons, wipeD, mAnd, mOr, mNot, mB, mTr, m2, m1, mV, mC, mA, mCh, mAndV, mOrV, aCons, aNil, guardN, op, cl, fl, opn, clos, flt, eqD_int, neD_int, gtD, ltD, leD, geD, addD, subD, negD, tupD, lstD, tupF, lstF, outD, notD, tru, isD, isnD, isN, flat_tp, flat_in, flat_bo, flat_no, flats_nl, flats_cn,
  List.map_cons, List.map_nil, List.length_cons, List.length_nil, List.replicate, List.getElem?_cons_zero, List.getElem?_cons_succ, List.getElem?_nil, List.cons_append, List.nil_append, Option.bind_some, Option.bind_none, Option.bind_assoc, Option.map_some, Option.map_none, Nat.reduceAdd, Nat.reduceSub, Nat.reduceLeDiff, List.set_cons_zero, List.set_cons_succ, if_true, if_false, ite_true, ite_false, reduceCtorEq, Bool.false_eq_true, Bool.not_true, Bool.not_false, ↓reduceIte, eq_self]
  rw [mLc_map e2 (fun x => D.int x.2) (faces hs cs ks r c) (by simp (config := { decide := false }) only [runF, initS, sSeq, sIf, sRet, sRetN, sSet, sSetF, sSetO, sDrop, sNext, sNever, sUnp, sUnpF, sApp, sAppF, sLend, sAugI, asgL_nm, asgL_tp, asgL_wt, asgsL_nil, asgsL_cons, asg_nm, asg_tp, asgs_nil, asgs_cons, wipeD, mAnd, mOr, mNot, mB, mTr, m2, m1, mV, mC, mA, mCh, mAndV, mOrV, aCons, aNil, guardN, op, cl, fl, opn, clos, flt, eqD_int, neD_int, gtD, ltD, leD, geD, addD, subD, negD, tupD, lstD, tupF, lstF, outD, notD, tru, isD, isnD, isN, flat_tp, flat_in, flat_bo, flat_no, flats_nl, flats_cn,
  List.map_cons, List.map_nil, List.length_cons, List.length_nil, List.replicate, List.getElem?_cons_zero, List.getElem?_cons_succ, List.getElem?_nil, List.cons_append, List.nil_append, Option.bind_some, Option.bind_none, Option.bind_assoc, Option.map_some, Option.map_none, Nat.reduceAdd, Nat.reduceSub, Nat.reduceLeDiff, List.set_cons_zero, List.set_cons_succ, if_true, if_false, ite_true, ite_false, reduceCtorEq, Bool.false_eq_true, Bool.not_true, Bool.not_false, ↓reduceIte, eq_self, itL, g_faces ks hl g hc]) (Nat.le_trans (faces_len hs cs ks r c) (by decide)) (fun x _ => ⟨_, rfl, rfl⟩)]
  simp (config := { decide := false }) only [runF, initS, sSeq, sIf, sRet, sRetN, sSet, sSetF, sSetO, sDrop, sNext, sNever, sUnp, sUnpF, sApp, sAppF, sLend, sAugI, asgL_nm, asgL_tp, asgL_wt, asgsL_nil, asgsL_cons, asg_nm, asg_tp, asgs_nil, asgs_cons, wipeD, mAnd, mOr, mNot, mB, mTr, m2, m1, mV, mC, mA, mCh, mAndV, mOrV, aCons, aNil, guardN, op, cl, fl, opn, clos, flt, eqD_int, neD_int, gtD, ltD, leD, geD, addD, subD, negD, tupD, lstD, tupF, lstF, outD, notD, tru, isD, isnD, isN, flat_tp, flat_in, flat_bo, flat_no, flats_nl, flats_cn,
  List.map_cons, List.map_nil, List.length_cons, List.length_nil, List.replicate, List.getElem?_cons_zero, List.getElem?_cons_succ, List.getElem?_nil, List.cons_append, List.nil_append, Option.bind_some, Option.bind_none, Option.bind_assoc, Option.map_some, Option.map_none, Nat.reduceAdd, Nat.reduceSub, Nat.reduceLeDiff, List.set_cons_zero, List.set_cons_succ, if_true, if_false, ite_true, ite_false, reduceCtorEq, Bool.false_eq_true, Bool.not_true, Bool.not_false, ↓reduceIte, eq_self]
  have e : (faces hs cs ks r c).map (fun x => D.int x.2) = ((faces hs cs ks r c).map fun x => x.2).map D.int := by rw [List.map_map]; rfl
  rw [e, sum_ints]
  rfl
theorem inG_nat {cs : List (List Int)} {r c : Nat} (h1 : r < cs.length) (h2 : c < wide cs) : inG cs r c = true := by
  unfold inG
  rw [Bool.and_eq_true, decide_eq_true_iff, decide_eq_true_iff]
  omega
theorem map_row (f : Nat → Int) (n : Nat) : D.tup ((List.range n).map fun (c : Nat) => D.int (f c)) = eRow ((List.range n).map f) := by
  unfold eRow
  rw [List.map_map]
  rfl
theorem g_losses {hs : List Int} {cs : List (List Int)} (ks : List (List Key)) (hl : hs.length = 5) (g : Gr cs) :
    G__losses [eRow hs, eCells cs, eShut ks] = some (eCells (rates hs cs ks)) := by
  unfold G__losses mr__losses
  have hi := g.hi
  have hw := g.wi
  simp (config := { decide := false }) only [runF, initS, sSeq, sIf, sRet, sRetN, sSet, sSetF, sSetO, sDrop, sNext, sNever, sUnp, sUnpF, sApp, sAppF, sLend, sAugI, asgL_nm, asgL_tp, asgL_wt, asgsL_nil, asgsL_cons, asg_nm, asg_tp, asgs_nil, asgs_cons, wipeD, mAnd, mOr, mNot, mB, mTr, m2, m1, mV, mC, mA, mCh, mAndV, mOrV, aCons, aNil, guardN, op, cl, fl, opn, clos, flt, eqD_int, neD_int, gtD, ltD, leD, geD, addD, subD, negD, tupD, lstD, tupF, lstF, outD, notD, tru, isD, isnD, isN, flat_tp, flat_in, flat_bo, flat_no, flats_nl, flats_cn,
  List.map_cons, List.map_nil, List.length_cons, List.length_nil, List.replicate, List.getElem?_cons_zero, List.getElem?_cons_succ, List.getElem?_nil, List.cons_append, List.nil_append, Option.bind_some, Option.bind_none, Option.bind_assoc, Option.map_some, Option.map_none, Nat.reduceAdd, Nat.reduceSub, Nat.reduceLeDiff, List.set_cons_zero, List.set_cons_succ, if_true, if_false, ite_true, ite_false, reduceCtorEq, Bool.false_eq_true, Bool.not_true, Bool.not_false, ↓reduceIte, eq_self]
  rw [mLc_map (fun (r : Nat) => D.int r) (fun (r : Nat) => eRow ((List.range (wide cs)).map fun (c : Nat) => rate hs cs ks r c)) (List.range cs.length) (itR1_at (by simp (config := { decide := false }) only [runF, initS, sSeq, sIf, sRet, sRetN, sSet, sSetF, sSetO, sDrop, sNext, sNever, sUnp, sUnpF, sApp, sAppF, sLend, sAugI, asgL_nm, asgL_tp, asgL_wt, asgsL_nil, asgsL_cons, asg_nm, asg_tp, asgs_nil, asgs_cons, wipeD, mAnd, mOr, mNot, mB, mTr, m2, m1, mV, mC, mA, mCh, mAndV, mOrV, aCons, aNil, guardN, op, cl, fl, opn, clos, flt, eqD_int, neD_int, gtD, ltD, leD, geD, addD, subD, negD, tupD, lstD, tupF, lstF, outD, notD, tru, isD, isnD, isN, flat_tp, flat_in, flat_bo, flat_no, flats_nl, flats_cn,
  List.map_cons, List.map_nil, List.length_cons, List.length_nil, List.replicate, List.getElem?_cons_zero, List.getElem?_cons_succ, List.getElem?_nil, List.cons_append, List.nil_append, Option.bind_some, Option.bind_none, Option.bind_assoc, Option.map_some, Option.map_none, Nat.reduceAdd, Nat.reduceSub, Nat.reduceLeDiff, List.set_cons_zero, List.set_cons_succ, if_true, if_false, ite_true, ite_false, reduceCtorEq, Bool.false_eq_true, Bool.not_true, Bool.not_false, ↓reduceIte, eq_self, len_cells]) (by omega)) (by rw [List.length_range]; omega) (fun r hr => ⟨_, rfl, by
    have hr' := List.mem_range.mp hr
    simp (config := { decide := false }) only [runF, initS, sSeq, sIf, sRet, sRetN, sSet, sSetF, sSetO, sDrop, sNext, sNever, sUnp, sUnpF, sApp, sAppF, sLend, sAugI, asgL_nm, asgL_tp, asgL_wt, asgsL_nil, asgsL_cons, asg_nm, asg_tp, asgs_nil, asgs_cons, wipeD, mAnd, mOr, mNot, mB, mTr, m2, m1, mV, mC, mA, mCh, mAndV, mOrV, aCons, aNil, guardN, op, cl, fl, opn, clos, flt, eqD_int, neD_int, gtD, ltD, leD, geD, addD, subD, negD, tupD, lstD, tupF, lstF, outD, notD, tru, isD, isnD, isN, flat_tp, flat_in, flat_bo, flat_no, flats_nl, flats_cn,
  List.map_cons, List.map_nil, List.length_cons, List.length_nil, List.replicate, List.getElem?_cons_zero, List.getElem?_cons_succ, List.getElem?_nil, List.cons_append, List.nil_append, Option.bind_some, Option.bind_none, Option.bind_assoc, Option.map_some, Option.map_none, Nat.reduceAdd, Nat.reduceSub, Nat.reduceLeDiff, List.set_cons_zero, List.set_cons_succ, if_true, if_false, ite_true, ite_false, reduceCtorEq, Bool.false_eq_true, Bool.not_true, Bool.not_false, ↓reduceIte, eq_self]
    rw [mLc_map (fun (c : Nat) => D.int c) (fun (c : Nat) => D.int (rate hs cs ks r c)) (List.range (wide cs)) (itR1_at (by simp (config := { decide := false }) only [runF, initS, sSeq, sIf, sRet, sRetN, sSet, sSetF, sSetO, sDrop, sNext, sNever, sUnp, sUnpF, sApp, sAppF, sLend, sAugI, asgL_nm, asgL_tp, asgL_wt, asgsL_nil, asgsL_cons, asg_nm, asg_tp, asgs_nil, asgs_cons, wipeD, mAnd, mOr, mNot, mB, mTr, m2, m1, mV, mC, mA, mCh, mAndV, mOrV, aCons, aNil, guardN, op, cl, fl, opn, clos, flt, eqD_int, neD_int, gtD, ltD, leD, geD, addD, subD, negD, tupD, lstD, tupF, lstF, outD, notD, tru, isD, isnD, isN, flat_tp, flat_in, flat_bo, flat_no, flats_nl, flats_cn,
  List.map_cons, List.map_nil, List.length_cons, List.length_nil, List.replicate, List.getElem?_cons_zero, List.getElem?_cons_succ, List.getElem?_nil, List.cons_append, List.nil_append, Option.bind_some, Option.bind_none, Option.bind_assoc, Option.map_some, Option.map_none, Nat.reduceAdd, Nat.reduceSub, Nat.reduceLeDiff, List.set_cons_zero, List.set_cons_succ, if_true, if_false, ite_true, ite_false, reduceCtorEq, Bool.false_eq_true, Bool.not_true, Bool.not_false, ↓reduceIte, eq_self, g.zero, len_row]; rfl) (by omega)) (by rw [List.length_range]; omega) (fun c hc => ⟨_, rfl, by
      have hc' := List.mem_range.mp hc
      simp (config := { decide := false }) only [runF, initS, sSeq, sIf, sRet, sRetN, sSet, sSetF, sSetO, sDrop, sNext, sNever, sUnp, sUnpF, sApp, sAppF, sLend, sAugI, asgL_nm, asgL_tp, asgL_wt, asgsL_nil, asgsL_cons, asg_nm, asg_tp, asgs_nil, asgs_cons, wipeD, mAnd, mOr, mNot, mB, mTr, m2, m1, mV, mC, mA, mCh, mAndV, mOrV, aCons, aNil, guardN, op, cl, fl, opn, clos, flt, eqD_int, neD_int, gtD, ltD, leD, geD, addD, subD, negD, tupD, lstD, tupF, lstF, outD, notD, tru, isD, isnD, isN, flat_tp, flat_in, flat_bo, flat_no, flats_nl, flats_cn,
  List.map_cons, List.map_nil, List.length_cons, List.length_nil, List.replicate, List.getElem?_cons_zero, List.getElem?_cons_succ, List.getElem?_nil, List.cons_append, List.nil_append, Option.bind_some, Option.bind_none, Option.bind_assoc, Option.map_some, Option.map_none, Nat.reduceAdd, Nat.reduceSub, Nat.reduceLeDiff, List.set_cons_zero, List.set_cons_succ, if_true, if_false, ite_true, ite_false, reduceCtorEq, Bool.false_eq_true, Bool.not_true, Bool.not_false, ↓reduceIte, eq_self, g_loss ks hl g (inG_nat hr' hc')]⟩)]
    simp (config := { decide := false }) only [runF, initS, sSeq, sIf, sRet, sRetN, sSet, sSetF, sSetO, sDrop, sNext, sNever, sUnp, sUnpF, sApp, sAppF, sLend, sAugI, asgL_nm, asgL_tp, asgL_wt, asgsL_nil, asgsL_cons, asg_nm, asg_tp, asgs_nil, asgs_cons, wipeD, mAnd, mOr, mNot, mB, mTr, m2, m1, mV, mC, mA, mCh, mAndV, mOrV, aCons, aNil, guardN, op, cl, fl, opn, clos, flt, eqD_int, neD_int, gtD, ltD, leD, geD, addD, subD, negD, tupD, lstD, tupF, lstF, outD, notD, tru, isD, isnD, isN, flat_tp, flat_in, flat_bo, flat_no, flats_nl, flats_cn,
  List.map_cons, List.map_nil, List.length_cons, List.length_nil, List.replicate, List.getElem?_cons_zero, List.getElem?_cons_succ, List.getElem?_nil, List.cons_append, List.nil_append, Option.bind_some, Option.bind_none, Option.bind_assoc, Option.map_some, Option.map_none, Nat.reduceAdd, Nat.reduceSub, Nat.reduceLeDiff, List.set_cons_zero, List.set_cons_succ, if_true, if_false, ite_true, ite_false, reduceCtorEq, Bool.false_eq_true, Bool.not_true, Bool.not_false, ↓reduceIte, eq_self]
    rw [map_row (fun c => rate hs cs ks r c)]⟩)]
  simp (config := { decide := false }) only [runF, initS, sSeq, sIf, sRet, sRetN, sSet, sSetF, sSetO, sDrop, sNext, sNever, sUnp, sUnpF, sApp, sAppF, sLend, sAugI, asgL_nm, asgL_tp, asgL_wt, asgsL_nil, asgsL_cons, asg_nm, asg_tp, asgs_nil, asgs_cons, wipeD, mAnd, mOr, mNot, mB, mTr, m2, m1, mV, mC, mA, mCh, mAndV, mOrV, aCons, aNil, guardN, op, cl, fl, opn, clos, flt, eqD_int, neD_int, gtD, ltD, leD, geD, addD, subD, negD, tupD, lstD, tupF, lstF, outD, notD, tru, isD, isnD, isN, flat_tp, flat_in, flat_bo, flat_no, flats_nl, flats_cn,
  List.map_cons, List.map_nil, List.length_cons, List.length_nil, List.replicate, List.getElem?_cons_zero, List.getElem?_cons_succ, List.getElem?_nil, List.cons_append, List.nil_append, Option.bind_some, Option.bind_none, Option.bind_assoc, Option.map_some, Option.map_none, Nat.reduceAdd, Nat.reduceSub, Nat.reduceLeDiff, List.set_cons_zero, List.set_cons_succ, if_true, if_false, ite_true, ite_false, reduceCtorEq, Bool.false_eq_true, Bool.not_true, Bool.not_false, ↓reduceIte, eq_self]
  unfold eCells rates
  rw [List.map_map]
  rfl
theorem pairUp_zip {α β : Type} (e : α → D) (f : β → D) : ∀ (xs : List α) (ys : List β), pairUp (xs.map e) (ys.map f) = (xs.zip ys).map fun p => .tup [e p.1, f p.2]
  | [], _ => by unfold pairUp; rfl
  | x :: xs, [] => rfl
  | x :: xs, y :: ys => by
    show D.tup [e x, f y] :: pairUp (xs.map e) (ys.map f) = _
    rw [pairUp_zip e f xs ys]
    rfl
theorem compM2_map {α : Type} {vs vs1 : List Nat} {t t1 : Tg} {tt tt1 : Mt} {mi1 : Ma} {me : Mi} {S : Sd} (e : α → D) (L : α → List D) : ∀ (xs : List α),
    (∀ x ∈ xs, ∃ S1 ds1, asg t (e x) (wipeD S vs) = some S1 ∧ tt S1 = some true ∧ mi1 S1 = some ds1 ∧ compM vs1 t1 tt1 me S1 ds1 = some (L x)) → compM2 vs t tt mi1 vs1 t1 tt1 me S (xs.map e) = some ((xs.map L).flatten)
  | [], _ => rfl
  | x :: xs, h => by
    obtain ⟨S1, ds1, h1, h2, h3, h4⟩ := h x List.mem_cons_self
    have ih := compM2_map e L xs fun y hy => h y (List.mem_cons_of_mem _ hy)
    rw [List.map_cons]
    unfold compM2
    simp only [h1, h2, h3, h4, ih, Option.bind_some, Option.map_some, if_true, List.map_cons, List.flatten_cons]
def cap (q : Int × Int) : Int := (q.1 + q.2 - 1) / q.2
def stepsRow (p : List Int × List Int) : List Int := ((p.1.zip p.2).filter fun q => decide (0 < q.2)).map cap
def steps (cs ls : List (List Int)) : List Int := ((cs.zip ls).map stepsRow).flatten
def eOpt : Option Int → D
  | some m => .int m
  | none => .non
theorem map_flatten_int (L : List (List Int)) : (L.map fun l => l.map D.int).flatten = L.flatten.map D.int := by
  induction L with
  | nil => rfl
  | cons l L ih => rw [List.map_cons, List.flatten_cons, List.flatten_cons, List.map_append, ih]
theorem flatten_len {n m : Nat} {L : List (List Int)} (h : ∀ l ∈ L, l.length ≤ m) (hn : L.length ≤ n) : L.flatten.length ≤ n * m := by
  induction L generalizing n with
  | nil => exact Nat.zero_le _
  | cons l L ih =>
    cases n with
    | zero => cases hn
    | succ n =>
      rw [List.flatten_cons, List.length_append, Nat.succ_mul]
      have a := h l List.mem_cons_self
      have b := ih (n := n) (fun l hl => h l (List.mem_cons_of_mem _ hl)) (Nat.le_of_succ_le_succ hn)
      omega
theorem g_hours {cs ls : List (List Int)} (g : Gr cs) (hb : ∀ l ∈ ls, ∀ x ∈ l, x < 1073741824) : G__hours_to_empty [eCells cs, eCells ls] = some (eOpt (minL (steps cs ls))) := by
  unfold G__hours_to_empty mr__hours_to_empty
  simp (config := { decide := false }) only [runF, initS, sSeq, sIf, sRet, sRetN, sSet, sSetF, sSetO, sDrop, sNext, sNever, sUnp, sUnpF, sApp, sAppF, sLend, sAugI, asgL_nm, asgL_tp, asgL_wt, asgsL_nil, asgsL_cons, asg_nm, asg_tp, asgs_nil, asgs_cons, wipeD, mAnd, mOr, mNot, mB, mTr, m2, m1, mV, mC, mA, mCh, mAndV, mOrV, aCons, aNil, guardN, op, cl, fl, opn, clos, flt, eqD_int, neD_int, gtD, ltD, leD, geD, addD, subD, negD, tupD, lstD, tupF, lstF, outD, notD, tru, isD, isnD, isN, flat_tp, flat_in, flat_bo, flat_no, flats_nl, flats_cn,
  List.map_cons, List.map_nil, List.length_cons, List.length_nil, List.replicate, List.getElem?_cons_zero, List.getElem?_cons_succ, List.getElem?_nil, List.cons_append, List.nil_append, Option.bind_some, Option.bind_none, Option.bind_assoc, Option.map_some, Option.map_none, Nat.reduceAdd, Nat.reduceSub, Nat.reduceLeDiff, List.set_cons_zero, List.set_cons_succ, if_true, if_false, ite_true, ite_false, reduceCtorEq, Bool.false_eq_true, Bool.not_true, Bool.not_false, ↓reduceIte, eq_self]
  have e : mLc2 (itZ (aCons (mV 0) (aCons (mV 1) aNil))) [2, 3, 4, 5] (.tp [(.nm 2), (.nm 3)]) mYes (itZ (aCons (mV 2) (aCons (mV 3) aNil))) [4, 5] (.tp [(.nm 4), (.nm 5)]) (mB (m2 gtD (mV 5) (mC (.int 0)))) (m2 divD (m2 subD (m2 addD (mV 4) (mV 5)) (mC (.int 1))) (mV 5)) [some (eCells cs), some (eCells ls), none, none, none, none] = some (.lst ((steps cs ls).map .int)) := by
    unfold mLc2
    have hi : itZ (aCons (mV 0) (aCons (mV 1) aNil)) [some (eCells cs), some (eCells ls), none, none, none, none] = some ((cs.zip ls).map fun p => .tup [eRow p.1, eRow p.2]) := by
      show some (pairUp (cs.map eRow) (ls.map eRow)) = _
      rw [pairUp_zip]
    rw [hi]
    simp only [Option.bind_some]
    rw [compM2_map (fun p : List Int × List Int => D.tup [eRow p.1, eRow p.2]) (fun p => (stepsRow p).map D.int) (cs.zip ls) fun p hp => ⟨_, (p.1.zip p.2).map fun q => .tup [.int q.1, .int q.2], rfl, rfl, by
        show some (pairUp (p.1.map D.int) (p.2.map D.int)) = _
        rw [pairUp_zip], by
        have hp2 := (List.of_mem_zip hp).2
        rw [compM_map (fun q : Int × Int => D.tup [.int q.1, .int q.2]) (fun q => D.int (cap q)) (fun q => decide (0 < q.2)) (p.1.zip p.2) fun q hq => ⟨_, rfl, rfl, fun hpos => by
          have h0 : 0 < q.2 := of_decide_eq_true hpos
          have h1 := hb _ hp2 _ (List.of_mem_zip hq).2
          simp (config := { decide := false }) only [runF, initS, sSeq, sIf, sRet, sRetN, sSet, sSetF, sSetO, sDrop, sNext, sNever, sUnp, sUnpF, sApp, sAppF, sLend, sAugI, asgL_nm, asgL_tp, asgL_wt, asgsL_nil, asgsL_cons, asg_nm, asg_tp, asgs_nil, asgs_cons, wipeD, mAnd, mOr, mNot, mB, mTr, m2, m1, mV, mC, mA, mCh, mAndV, mOrV, aCons, aNil, guardN, op, cl, fl, opn, clos, flt, eqD_int, neD_int, gtD, ltD, leD, geD, addD, subD, negD, tupD, lstD, tupF, lstF, outD, notD, tru, isD, isnD, isN, flat_tp, flat_in, flat_bo, flat_no, flats_nl, flats_cn,
  List.map_cons, List.map_nil, List.length_cons, List.length_nil, List.replicate, List.getElem?_cons_zero, List.getElem?_cons_succ, List.getElem?_nil, List.cons_append, List.nil_append, Option.bind_some, Option.bind_none, Option.bind_assoc, Option.map_some, Option.map_none, Nat.reduceAdd, Nat.reduceSub, Nat.reduceLeDiff, List.set_cons_zero, List.set_cons_succ, if_true, if_false, ite_true, ite_false, reduceCtorEq, Bool.false_eq_true, Bool.not_true, Bool.not_false, ↓reduceIte, eq_self, divD]
          rw [if_pos ⟨h0, h1⟩]
          rfl⟩]
        unfold stepsRow
        rw [List.map_map]
        rfl⟩]
    have e2 : ((cs.zip ls).map fun p => (stepsRow p).map D.int).flatten = (steps cs ls).map D.int := by
      unfold steps
      rw [← map_flatten_int, List.map_map]
      rfl
    rw [e2]
    simp only [Option.bind_some]
    rw [if_pos]
    rw [List.length_map]
    unfold steps
    refine Nat.le_trans (flatten_len (n := 4) (m := 4) (fun l hl => ?_) ?_) (by decide)
    · obtain ⟨p, hp, rfl⟩ := List.mem_map.mp hl
      unfold stepsRow
      rw [List.length_map]
      refine Nat.le_trans (List.length_filter_le _ _) ?_
      rw [List.length_zip]
      have := g.all _ (List.of_mem_zip hp).1
      have := g.wi
      omega
    · rw [List.length_map, List.length_zip]
      have := g.hi
      omega
  rw [e]
  simp (config := { decide := false }) only [runF, initS, sSeq, sIf, sRet, sRetN, sSet, sSetF, sSetO, sDrop, sNext, sNever, sUnp, sUnpF, sApp, sAppF, sLend, sAugI, asgL_nm, asgL_tp, asgL_wt, asgsL_nil, asgsL_cons, asg_nm, asg_tp, asgs_nil, asgs_cons, wipeD, mAnd, mOr, mNot, mB, mTr, m2, m1, mV, mC, mA, mCh, mAndV, mOrV, aCons, aNil, guardN, op, cl, fl, opn, clos, flt, eqD_int, neD_int, gtD, ltD, leD, geD, addD, subD, negD, tupD, lstD, tupF, lstF, outD, notD, tru, isD, isnD, isN, flat_tp, flat_in, flat_bo, flat_no, flats_nl, flats_cn,
  List.map_cons, List.map_nil, List.length_cons, List.length_nil, List.replicate, List.getElem?_cons_zero, List.getElem?_cons_succ, List.getElem?_nil, List.cons_append, List.nil_append, Option.bind_some, Option.bind_none, Option.bind_assoc, Option.map_some, Option.map_none, Nat.reduceAdd, Nat.reduceSub, Nat.reduceLeDiff, List.set_cons_zero, List.set_cons_succ, if_true, if_false, ite_true, ite_false, reduceCtorEq, Bool.false_eq_true, Bool.not_true, Bool.not_false, ↓reduceIte, eq_self, minDF, intsOf_map]
  unfold eOpt
  rfl
def mx (j : Int) : Int := if j > 0 then j else 0
def melt (cs ls : List (List Int)) (n : Int) : List (List Int) := (cs.zip ls).map fun p => (p.1.zip p.2).map fun q => mx (q.1 - q.2 * n)
theorem g_melt {cs ls : List (List Int)} (g : Gr cs) (hb : ∀ l ∈ ls, ∀ x ∈ l, -18446744073709551616 < x ∧ x < 18446744073709551616) (n : Int) : G__melt [eCells cs, eCells ls, .int n] = some (eCells (melt cs ls n)) := by
  unfold G__melt mr__melt
  simp (config := { decide := false }) only [runF, initS, sSeq, sIf, sRet, sRetN, sSet, sSetF, sSetO, sDrop, sNext, sNever, sUnp, sUnpF, sApp, sAppF, sLend, sAugI, asgL_nm, asgL_tp, asgL_wt, asgsL_nil, asgsL_cons, asg_nm, asg_tp, asgs_nil, asgs_cons, wipeD, mAnd, mOr, mNot, mB, mTr, m2, m1, mV, mC, mA, mCh, mAndV, mOrV, aCons, aNil, guardN, op, cl, fl, opn, clos, flt, eqD_int, neD_int, gtD, ltD, leD, geD, addD, subD, negD, tupD, lstD, tupF, lstF, outD, notD, tru, isD, isnD, isN, flat_tp, flat_in, flat_bo, flat_no, flats_nl, flats_cn,
  List.map_cons, List.map_nil, List.length_cons, List.length_nil, List.replicate, List.getElem?_cons_zero, List.getElem?_cons_succ, List.getElem?_nil, List.cons_append, List.nil_append, Option.bind_some, Option.bind_none, Option.bind_assoc, Option.map_some, Option.map_none, Nat.reduceAdd, Nat.reduceSub, Nat.reduceLeDiff, List.set_cons_zero, List.set_cons_succ, if_true, if_false, ite_true, ite_false, reduceCtorEq, Bool.false_eq_true, Bool.not_true, Bool.not_false, ↓reduceIte, eq_self]
  have hi := g.hi
  have hw := g.wi
  rw [mLc_map (fun p : List Int × List Int => D.tup [eRow p.1, eRow p.2]) (fun p => eRow ((p.1.zip p.2).map fun q => mx (q.1 - q.2 * n))) (cs.zip ls) (by
      show some (pairUp (cs.map eRow) (ls.map eRow)) = _
      rw [pairUp_zip]) (by rw [List.length_zip]; omega) (fun p hp => ⟨_, rfl, by
    have hp2 := (List.of_mem_zip hp).2
    have hp1 := g.all _ (List.of_mem_zip hp).1
    simp (config := { decide := false }) only [runF, initS, sSeq, sIf, sRet, sRetN, sSet, sSetF, sSetO, sDrop, sNext, sNever, sUnp, sUnpF, sApp, sAppF, sLend, sAugI, asgL_nm, asgL_tp, asgL_wt, asgsL_nil, asgsL_cons, asg_nm, asg_tp, asgs_nil, asgs_cons, wipeD, mAnd, mOr, mNot, mB, mTr, m2, m1, mV, mC, mA, mCh, mAndV, mOrV, aCons, aNil, guardN, op, cl, fl, opn, clos, flt, eqD_int, neD_int, gtD, ltD, leD, geD, addD, subD, negD, tupD, lstD, tupF, lstF, outD, notD, tru, isD, isnD, isN, flat_tp, flat_in, flat_bo, flat_no, flats_nl, flats_cn,
  List.map_cons, List.map_nil, List.length_cons, List.length_nil, List.replicate, List.getElem?_cons_zero, List.getElem?_cons_succ, List.getElem?_nil, List.cons_append, List.nil_append, Option.bind_some, Option.bind_none, Option.bind_assoc, Option.map_some, Option.map_none, Nat.reduceAdd, Nat.reduceSub, Nat.reduceLeDiff, List.set_cons_zero, List.set_cons_succ, if_true, if_false, ite_true, ite_false, reduceCtorEq, Bool.false_eq_true, Bool.not_true, Bool.not_false, ↓reduceIte, eq_self]
    rw [mLc_map (fun q : Int × Int => D.tup [.int q.1, .int q.2]) (fun q => D.int (mx (q.1 - q.2 * n))) (p.1.zip p.2) (by
        show some (pairUp (p.1.map D.int) (p.2.map D.int)) = _
        rw [pairUp_zip]) (by rw [List.length_zip]; omega) (fun q hq => ⟨_, rfl, by
      have h1 := hb _ hp2 _ (List.of_mem_zip hq).2
      simp (config := { decide := false }) only [runF, initS, sSeq, sIf, sRet, sRetN, sSet, sSetF, sSetO, sDrop, sNext, sNever, sUnp, sUnpF, sApp, sAppF, sLend, sAugI, asgL_nm, asgL_tp, asgL_wt, asgsL_nil, asgsL_cons, asg_nm, asg_tp, asgs_nil, asgs_cons, wipeD, mAnd, mOr, mNot, mB, mTr, m2, m1, mV, mC, mA, mCh, mAndV, mOrV, aCons, aNil, guardN, op, cl, fl, opn, clos, flt, eqD_int, neD_int, gtD, ltD, leD, geD, addD, subD, negD, tupD, lstD, tupF, lstF, outD, notD, tru, isD, isnD, isN, flat_tp, flat_in, flat_bo, flat_no, flats_nl, flats_cn,
  List.map_cons, List.map_nil, List.length_cons, List.length_nil, List.replicate, List.getElem?_cons_zero, List.getElem?_cons_succ, List.getElem?_nil, List.cons_append, List.nil_append, Option.bind_some, Option.bind_none, Option.bind_assoc, Option.map_some, Option.map_none, Nat.reduceAdd, Nat.reduceSub, Nat.reduceLeDiff, List.set_cons_zero, List.set_cons_succ, if_true, if_false, ite_true, ite_false, reduceCtorEq, Bool.false_eq_true, Bool.not_true, Bool.not_false, ↓reduceIte, eq_self, mulD]
      rw [if_pos (.inl h1)]
      simp (config := { decide := false }) only [runF, initS, sSeq, sIf, sRet, sRetN, sSet, sSetF, sSetO, sDrop, sNext, sNever, sUnp, sUnpF, sApp, sAppF, sLend, sAugI, asgL_nm, asgL_tp, asgL_wt, asgsL_nil, asgsL_cons, asg_nm, asg_tp, asgs_nil, asgs_cons, wipeD, mAnd, mOr, mNot, mB, mTr, m2, m1, mV, mC, mA, mCh, mAndV, mOrV, aCons, aNil, guardN, op, cl, fl, opn, clos, flt, eqD_int, neD_int, gtD, ltD, leD, geD, addD, subD, negD, tupD, lstD, tupF, lstF, outD, notD, tru, isD, isnD, isN, flat_tp, flat_in, flat_bo, flat_no, flats_nl, flats_cn,
  List.map_cons, List.map_nil, List.length_cons, List.length_nil, List.replicate, List.getElem?_cons_zero, List.getElem?_cons_succ, List.getElem?_nil, List.cons_append, List.nil_append, Option.bind_some, Option.bind_none, Option.bind_assoc, Option.map_some, Option.map_none, Nat.reduceAdd, Nat.reduceSub, Nat.reduceLeDiff, List.set_cons_zero, List.set_cons_succ, if_true, if_false, ite_true, ite_false, reduceCtorEq, Bool.false_eq_true, Bool.not_true, Bool.not_false, ↓reduceIte, eq_self, maxF]
      rfl⟩)]
    simp (config := { decide := false }) only [runF, initS, sSeq, sIf, sRet, sRetN, sSet, sSetF, sSetO, sDrop, sNext, sNever, sUnp, sUnpF, sApp, sAppF, sLend, sAugI, asgL_nm, asgL_tp, asgL_wt, asgsL_nil, asgsL_cons, asg_nm, asg_tp, asgs_nil, asgs_cons, wipeD, mAnd, mOr, mNot, mB, mTr, m2, m1, mV, mC, mA, mCh, mAndV, mOrV, aCons, aNil, guardN, op, cl, fl, opn, clos, flt, eqD_int, neD_int, gtD, ltD, leD, geD, addD, subD, negD, tupD, lstD, tupF, lstF, outD, notD, tru, isD, isnD, isN, flat_tp, flat_in, flat_bo, flat_no, flats_nl, flats_cn,
  List.map_cons, List.map_nil, List.length_cons, List.length_nil, List.replicate, List.getElem?_cons_zero, List.getElem?_cons_succ, List.getElem?_nil, List.cons_append, List.nil_append, Option.bind_some, Option.bind_none, Option.bind_assoc, Option.map_some, Option.map_none, Nat.reduceAdd, Nat.reduceSub, Nat.reduceLeDiff, List.set_cons_zero, List.set_cons_succ, if_true, if_false, ite_true, ite_false, reduceCtorEq, Bool.false_eq_true, Bool.not_true, Bool.not_false, ↓reduceIte, eq_self]
    unfold eRow
    rw [List.map_map]
    rfl⟩)]
  simp (config := { decide := false }) only [runF, initS, sSeq, sIf, sRet, sRetN, sSet, sSetF, sSetO, sDrop, sNext, sNever, sUnp, sUnpF, sApp, sAppF, sLend, sAugI, asgL_nm, asgL_tp, asgL_wt, asgsL_nil, asgsL_cons, asg_nm, asg_tp, asgs_nil, asgs_cons, wipeD, mAnd, mOr, mNot, mB, mTr, m2, m1, mV, mC, mA, mCh, mAndV, mOrV, aCons, aNil, guardN, op, cl, fl, opn, clos, flt, eqD_int, neD_int, gtD, ltD, leD, geD, addD, subD, negD, tupD, lstD, tupF, lstF, outD, notD, tru, isD, isnD, isN, flat_tp, flat_in, flat_bo, flat_no, flats_nl, flats_cn,
  List.map_cons, List.map_nil, List.length_cons, List.length_nil, List.replicate, List.getElem?_cons_zero, List.getElem?_cons_succ, List.getElem?_nil, List.cons_append, List.nil_append, Option.bind_some, Option.bind_none, Option.bind_assoc, Option.map_some, Option.map_none, Nat.reduceAdd, Nat.reduceSub, Nat.reduceLeDiff, List.set_cons_zero, List.set_cons_succ, if_true, if_false, ite_true, ite_false, reduceCtorEq, Bool.false_eq_true, Bool.not_true, Bool.not_false, ↓reduceIte, eq_self]
  unfold eCells melt
  rw [List.map_map]
  rfl
end Ice

namespace Ice
open PySem PySem.Spec PyProof.Rows L2
/-! ### bounds of rates -/
structure Heats (hs : List Int) : Prop where
  len : hs.length = 5
  all : ∀ x ∈ hs, 0 ≤ x ∧ x ≤ 9
theorem getD_mem {xs : List Int} {i : Nat} : xs.getD i 0 ∈ xs ∨ xs.getD i 0 = 0 := by
  rw [List.getD_eq_getElem?_getD]
  cases h : xs[i]? with
  | none => exact .inr rfl
  | some x => exact .inl (List.mem_of_getElem? h)
theorem Heats.at {hs : List Int} (h : Heats hs) (s : Int) : 0 ≤ heatAt hs s ∧ heatAt hs s ≤ 9 := by
  unfold heatAt
  rcases getD_mem (xs := hs) (i := s.toNat) with m | e
  · exact h.all _ m
  · rw [e]; decide
theorem sum_bound : ∀ (l : List Int) (b : Int), (∀ x ∈ l, 0 ≤ x ∧ x ≤ b) → 0 ≤ l.sum ∧ l.sum ≤ l.length * b
  | [], b, _ => by simp
  | x :: l, b, h => by
    have a := h x List.mem_cons_self
    have c := sum_bound l b fun y hy => h y (List.mem_cons_of_mem _ hy)
    rw [List.sum_cons, List.length_cons]
    have : ((l.length + 1 : Nat) : Int) * b = l.length * b + b := by
      rw [Int.natCast_add, Int.add_mul]
      simp
    omega
theorem faceAt_heat {hs : List Int} (h : Heats hs) (cs : List (List Int)) (ks : List (List Key)) (r c : Int) (x : Int × Int × Int) : ∀ y ∈ faceAt hs cs ks r c x, 0 ≤ y.2 ∧ y.2 ≤ 9 := fun y hy => by
  unfold faceAt at hy
  split at hy
  · cases hy
  · split at hy
    · split at hy
      · rw [List.mem_singleton] at hy; rw [hy]; exact h.at 4
      · cases hy
    · rw [List.mem_singleton] at hy; rw [hy]; exact h.at x.1
theorem faces_heat {hs : List Int} (h : Heats hs) (cs : List (List Int)) (ks : List (List Key)) (r c : Int) : ∀ y ∈ faces hs cs ks r c, 0 ≤ y.2 ∧ y.2 ≤ 9 := fun y hy => by
  unfold faces at hy
  split at hy
  · cases hy
  · simp only [sides, List.foldl_cons, List.foldl_nil, List.nil_append, List.mem_append] at hy
    rcases hy with ((hy | hy) | hy) | hy <;> exact faceAt_heat h cs ks r c _ y hy
theorem rate_bound {hs : List Int} (h : Heats hs) (cs : List (List Int)) (ks : List (List Key)) (r c : Int) : 0 ≤ rate hs cs ks r c ∧ rate hs cs ks r c ≤ 36 := by
  unfold rate
  have a := sum_bound ((faces hs cs ks r c).map fun x => x.2) 9 fun x hx => by
    obtain ⟨y, hy, rfl⟩ := List.mem_map.mp hx
    exact faces_heat h cs ks r c y hy
  rw [List.length_map] at a
  have b := faces_len hs cs ks r c
  have : ((faces hs cs ks r c).length : Int) * 9 ≤ 36 := by omega
  omega
theorem rate_empty {hs : List Int} {cs : List (List Int)} {ks : List (List Key)} {r c : Int} (h : cellAt cs r c = 0) : rate hs cs ks r c = 0 := by
  unfold rate faces
  rw [if_pos h]
  rfl
theorem rates_mem {hs : List Int} (h : Heats hs) (cs : List (List Int)) (ks : List (List Key)) : ∀ l ∈ rates hs cs ks, ∀ x ∈ l, 0 ≤ x ∧ x ≤ 36 := fun l hl x hx => by
  unfold rates at hl
  obtain ⟨r, _, rfl⟩ := List.mem_map.mp hl
  obtain ⟨c, _, rfl⟩ := List.mem_map.mp hx
  exact rate_bound h cs ks r c
/-- what stands side by side -/
theorem zip_at {hs : List Int} {cs : List (List Int)} {ks : List (List Key)} (g : Gr cs) : ∀ p ∈ cs.zip (rates hs cs ks), p.2.length = p.1.length ∧ p.1 ∈ cs ∧ ∀ q ∈ p.1.zip p.2, ∃ r c : Nat, r < cs.length ∧ c < wide cs ∧ q.1 = cellAt cs r c ∧ q.2 = rate hs cs ks r c := fun p hp => by
  obtain ⟨r, hr⟩ := List.getElem?_of_mem hp
  rw [List.getElem?_zip_eq_some] at hr
  obtain ⟨h1, h2⟩ := hr
  have hr' : r < cs.length := (List.getElem?_eq_some_iff.mp h1).1
  unfold rates at h2
  rw [List.getElem?_map, List.getElem?_range hr'] at h2
  have h2' : (List.range (wide cs)).map (fun (c : Nat) => rate hs cs ks r c) = p.2 := Option.some.inj h2
  have hm : p.1 ∈ cs := List.mem_of_getElem? h1
  refine ⟨by rw [← h2', List.length_map, List.length_range, g.all _ hm], hm, fun q hq => ?_⟩
  obtain ⟨c, hc⟩ := List.getElem?_of_mem hq
  rw [List.getElem?_zip_eq_some] at hc
  obtain ⟨h3, h4⟩ := hc
  have hc' : c < wide cs := by rw [← g.all _ hm]; exact (List.getElem?_eq_some_iff.mp h3).1
  rw [← h2', List.getElem?_map, List.getElem?_range hc'] at h4
  refine ⟨r, c, hr', hc', ?_, (Option.some.inj h4).symm⟩
  unfold cellAt
  rw [Int.toNat_natCast, Int.toNat_natCast, List.getD_eq_getElem?_getD (l := cs), h1]
  show q.1 = (p.1).getD c 0
  rw [List.getD_eq_getElem?_getD, h3]
  rfl
def Nn (cs : List (List Int)) : Prop := ∀ r ∈ cs, ∀ x ∈ r, 0 ≤ x
theorem rates_len {hs : List Int} {cs : List (List Int)} {ks : List (List Key)} : (rates hs cs ks).length = cs.length := by
  unfold rates
  rw [List.length_map, List.length_range]

/-! ### the next emptied cell -/
theorem minL_mem {ns : List Int} {m : Int} (h : minL ns = some m) : m ∈ ns := by
  cases ns with
  | nil => cases h
  | cons i r =>
    have e : r.foldl (fun a b => if b < a then b else a) i = m := Option.some.inj h
    rcases (min_fold r i).1 with a | a
    · rw [← e, a]; exact List.mem_cons_self
    · rw [← e]; exact List.mem_cons_of_mem _ a
theorem cap_le {a b : Int} (hb : 0 < b) : a ≤ b * cap (a, b) := by
  unfold cap
  have h := Int.lt_mul_ediv_self_add (x := a + b - 1) (k := b) hb
  show a ≤ b * ((a + b - 1) / b)
  omega
theorem cap_pos {a b : Int} (ha : 0 < a) (hb : 0 < b) : 1 ≤ cap (a, b) := by
  unfold cap
  exact Int.le_ediv_of_mul_le hb (by show 1 * b ≤ a + b - 1; omega)
theorem steps_mem {cs ls : List (List Int)} {k : Int} (h : k ∈ steps cs ls) : ∃ p ∈ cs.zip ls, ∃ q ∈ p.1.zip p.2, 0 < q.2 ∧ cap q = k := by
  unfold steps at h
  obtain ⟨l, hl, hk⟩ := List.mem_flatten.mp h
  obtain ⟨p, hp, rfl⟩ := List.mem_map.mp hl
  unfold stepsRow at hk
  obtain ⟨q, hq, rfl⟩ := List.mem_map.mp hk
  obtain ⟨hq, h0⟩ := List.mem_filter.mp hq
  exact ⟨p, hp, q, hq, of_decide_eq_true h0, rfl⟩
def nxt (hs : List Int) (cs : List (List Int)) (ks : List (List Key)) : Option Int := minL (steps cs (rates hs cs ks))
def thaw (hs : List Int) (cs : List (List Int)) (ks : List (List Key)) (n : Int) : List (List Int) := melt cs (rates hs cs ks) n
theorem mx_le {a : Int} : 0 ≤ mx a ∧ (mx a = a ∨ mx a = 0) ∧ (0 < mx a → 0 < a) ∧ (a ≤ 0 → mx a = 0) := by
  unfold mx
  split <;> refine ⟨by omega, by omega, by omega, by omega⟩
theorem melt_len {cs ls : List (List Int)} {n : Int} (h : ls.length = cs.length) : (melt cs ls n).length = cs.length := by
  unfold melt
  rw [List.length_map, List.length_zip, h, Nat.min_self]
theorem thaw_gr {hs : List Int} {cs : List (List Int)} {ks : List (List Key)} (g : Gr cs) (n : Int) : Gr (thaw hs cs ks n) ∧ wide (thaw hs cs ks n) = wide cs ∧ (thaw hs cs ks n).length = cs.length := by
  have hl : (thaw hs cs ks n).length = cs.length := melt_len rates_len
  have all : ∀ r ∈ thaw hs cs ks n, r.length = wide cs := fun r hr => by
    unfold thaw melt at hr
    obtain ⟨p, hp, rfl⟩ := List.mem_map.mp hr
    obtain ⟨h1, h2, _⟩ := zip_at g p hp
    rw [List.length_map, List.length_zip, h1, Nat.min_self]
    exact g.all _ h2
  have hw : wide (thaw hs cs ks n) = wide cs := by
    have := g.hi
    cases h : thaw hs cs ks n with
    | nil => rw [h] at hl; simp at hl; omega
    | cons r rs => exact all r (by rw [h]; exact List.mem_cons_self)
  exact ⟨⟨by rw [hl]; exact g.hi, by rw [hw]; exact g.wi, fun r hr => by rw [hw]; exact all r hr⟩, hw, hl⟩
theorem thaw_nn {hs : List Int} {cs : List (List Int)} {ks : List (List Key)} (n : Int) : Nn (thaw hs cs ks n) := fun r hr x hx => by
  unfold thaw melt at hr
  obtain ⟨p, hp, rfl⟩ := List.mem_map.mp hr
  obtain ⟨q, hq, rfl⟩ := List.mem_map.mp hx
  exact mx_le.1
/-! how many have ice -/
def cnt (r : List Int) : Nat := r.countP fun x => decide (0 < x)
def live (cs : List (List Int)) : Nat := (cs.map cnt).sum
theorem countP_lt {α : Type} {P P' : α → Bool} : ∀ (l : List α), (∀ x ∈ l, P' x = true → P x = true) → l.countP P' ≤ l.countP P ∧ ((∃ x ∈ l, P x = true ∧ P' x = false) → l.countP P' < l.countP P)
  | [], _ => ⟨Nat.le_refl _, fun ⟨x, hx, _⟩ => nomatch hx⟩
  | x :: l, h => by
    obtain ⟨a, b⟩ := countP_lt l fun y hy => h y (List.mem_cons_of_mem _ hy)
    have c := h x List.mem_cons_self
    rw [List.countP_cons, List.countP_cons]
    refine ⟨?_, fun ⟨y, hy, h1, h2⟩ => ?_⟩
    · cases e : P' x with
      | true => rw [c e]; simp; exact a
      | false => simp; omega
    · rcases List.mem_cons.mp hy with rfl | hy
      · rw [h1, h2]; simp; omega
      · have := b ⟨y, hy, h1, h2⟩
        cases e : P' x with
        | true => rw [c e]; simp; exact this
        | false => simp; omega
theorem sum_lt {α : Type} {f f' : α → Nat} : ∀ (l : List α), (∀ x ∈ l, f' x ≤ f x) → (l.map f').sum ≤ (l.map f).sum ∧ ((∃ x ∈ l, f' x < f x) → (l.map f').sum < (l.map f).sum)
  | [], _ => ⟨Nat.le_refl _, fun ⟨x, hx, _⟩ => nomatch hx⟩
  | x :: l, h => by
    obtain ⟨a, b⟩ := sum_lt l fun y hy => h y (List.mem_cons_of_mem _ hy)
    have c := h x List.mem_cons_self
    rw [List.map_cons, List.map_cons, List.sum_cons, List.sum_cons]
    refine ⟨by omega, fun ⟨y, hy, h1⟩ => ?_⟩
    rcases List.mem_cons.mp hy with rfl | hy
    · omega
    · have := b ⟨y, hy, h1⟩
      omega
theorem zip_fst {α β γ : Type} (f : α → γ) : ∀ (xs : List α) (ys : List β), ys.length = xs.length → (xs.zip ys).map (fun p => f p.1) = xs.map f
  | [], _, _ => rfl
  | x :: xs, y :: ys, h => by
    rw [List.zip_cons_cons, List.map_cons, List.map_cons, zip_fst f xs ys (Nat.succ.inj h)]
theorem cnt_zip (xs ys : List Int) (h : ys.length = xs.length) : cnt xs = (xs.zip ys).countP fun q => decide (0 < q.1) := by
  unfold cnt
  have : xs = (xs.zip ys).map fun q => q.1 := by
    have := zip_fst (fun x : Int => x) xs ys h
    rw [List.map_id'] at this
    exact this.symm
  conv => lhs; rw [this]
  rw [List.countP_map]
  rfl
theorem live_lt {hs : List Int} {cs : List (List Int)} {ks : List (List Key)} (hh : Heats hs) (g : Gr cs) (nn : Nn cs) {k : Int} (h : nxt hs cs ks = some k) : 1 ≤ k ∧ live (thaw hs cs ks k) < live cs := by
  obtain ⟨p, hp, q, hq, hq0, rfl⟩ := steps_mem (minL_mem h)
  have good : ∀ p ∈ cs.zip (rates hs cs ks), p.2.length = p.1.length ∧ ∀ q ∈ p.1.zip p.2, 0 ≤ q.1 ∧ 0 ≤ q.2 ∧ (0 < q.2 → 0 < q.1) := fun p hp => by
    obtain ⟨h1, h2, h3⟩ := zip_at g p hp
    refine ⟨h1, fun q hq => ?_⟩
    obtain ⟨r, c, _, _, e1, e2⟩ := h3 q hq
    have a := nn _ h2 _ (List.of_mem_zip hq).1
    have b := rate_bound hh cs ks r c
    refine ⟨a, by rw [e2]; exact b.1, fun h => ?_⟩
    by_cases z : q.1 = 0
    · rw [e2, rate_empty (by rw [← e1]; exact z)] at h
      cases h
    · omega
  have hq1 := ((good p hp).2 q hq).2.2 hq0
  have hk : 1 ≤ cap q := cap_pos hq1 hq0
  refine ⟨hk, ?_⟩
  have rows : ∀ p ∈ cs.zip (rates hs cs ks), cnt ((p.1.zip p.2).map fun z => mx (z.1 - z.2 * cap q)) ≤ cnt p.1 ∧ ((∃ z ∈ p.1.zip p.2, 0 < z.1 ∧ z.1 - z.2 * cap q ≤ 0) → cnt ((p.1.zip p.2).map fun z => mx (z.1 - z.2 * cap q)) < cnt p.1) := fun p hp => by
    obtain ⟨h1, h2⟩ := good p hp
    rw [cnt_zip p.1 p.2 h1]
    have e : cnt ((p.1.zip p.2).map fun z => mx (z.1 - z.2 * cap q)) = (p.1.zip p.2).countP fun z => decide (0 < mx (z.1 - z.2 * cap q)) := by
      unfold cnt
      rw [List.countP_map]
      rfl
    rw [e]
    obtain ⟨a, b⟩ := countP_lt (P := fun z : Int × Int => decide (0 < z.1)) (P' := fun z => decide (0 < mx (z.1 - z.2 * cap q))) (p.1.zip p.2) fun z hz hh => by
      have h0 := mx_le.2.2.1 (of_decide_eq_true hh)
      have := (h2 z hz).2.1
      have := Int.mul_nonneg this (Int.le_trans (by decide) hk)
      exact decide_eq_true (by omega)
    exact ⟨a, fun ⟨z, hz, z1, z2⟩ => b ⟨z, hz, decide_eq_true z1, decide_eq_false (by rw [mx_le.2.2.2 z2]; decide)⟩⟩
  have e1 : live cs = ((cs.zip (rates hs cs ks)).map fun p => cnt p.1).sum := by
    unfold live
    rw [zip_fst cnt cs _ rates_len]
  have e2 : live (thaw hs cs ks (cap q)) = ((cs.zip (rates hs cs ks)).map fun p => cnt ((p.1.zip p.2).map fun z => mx (z.1 - z.2 * cap q))).sum := by
    unfold live thaw melt
    rw [List.map_map]
    rfl
  rw [e1, e2]
  refine (sum_lt _ fun p hp => (rows p hp).1).2 ⟨p, hp, (rows p hp).2 ⟨q, hq, hq1, ?_⟩⟩
  have := cap_le (a := q.1) hq0
  show q.1 - q.2 * cap (q.1, q.2) ≤ 0
  omega
theorem cnt_le (r : List Int) : cnt r ≤ r.length := List.countP_le_length
theorem live_le {cs : List (List Int)} (g : Gr cs) : live cs ≤ 16 := by
  have : ∀ l : List (List Int), (∀ r ∈ l, r.length ≤ 4) → (l.map cnt).sum ≤ l.length * 4 := fun l => by
    induction l with
    | nil => intro _; exact Nat.zero_le _
    | cons r l ih =>
      intro h
      rw [List.map_cons, List.sum_cons, List.length_cons, Nat.succ_mul]
      have a := ih fun x hx => h x (List.mem_cons_of_mem _ hx)
      have b := h r List.mem_cons_self
      have c := cnt_le r
      omega
  have a := this cs fun r hr => by rw [g.all r hr]; exact g.wi.2
  have b := g.hi
  unfold live
  omega
end Ice

namespace Ice
open PySem PySem.Spec PyProof.Rows L2
/-! ### the course: what stands at each hour at which a cell is empty anew -/
def run (hs : List Int) (ks : List (List Key)) : Nat → Int → List (List Int) → List (Int × List (List Int))
  | 0, _, _ => []
  | n + 1, b, cs => match nxt hs cs ks with
    | none => []
    | some k => (b + k, thaw hs cs ks k) :: run hs ks n (b + k) (thaw hs cs ks k)
def eStage (hs : List Int) (ks : List (List Key)) (x : Int × List (List Int)) : D := .tup [.int x.1, eCells x.2, eCells (rates hs x.2 ks)]
theorem rates_lo {hs : List Int} (h : Heats hs) (cs : List (List Int)) (ks : List (List Key)) : ∀ l ∈ rates hs cs ks, ∀ x ∈ l, -18446744073709551616 < x ∧ x < 18446744073709551616 := fun l hl x hx => by
  have := rates_mem h cs ks l hl x hx
  omega
theorem rates_hi {hs : List Int} (h : Heats hs) (cs : List (List Int)) (ks : List (List Key)) : ∀ l ∈ rates hs cs ks, ∀ x ∈ l, x < 1073741824 := fun l hl x hx => by
  have := rates_mem h cs ks l hl x hx
  omega
theorem flat_row (r : List Int) : flat (eRow r) = true := flats_map fun _ _ => rfl
theorem flat_cells (cs : List (List Int)) : flat (eCells cs) = true := flats_map fun r _ => flat_row r
theorem flat_walls (ws : List (Int × Int × Int)) : flat (eWalls ws) = true := flats_map fun r _ => rfl
theorem flat_house (h : Hs) : flat (eH h) = true := by
  unfold eH
  simp only [flat, flats, flat_row, flat_cells, flat_walls, Bool.and_true]
theorem flat_stage {hs : List Int} {ks : List (List Key)} (x : Int × List (List Int)) : flat (eStage hs ks x) = true := by
  unfold eStage
  simp only [flat, flats, flat_row, flat_cells, flat_walls, Bool.and_true]
def stSt (hs : List Int) (ks : List (List Key)) (hd wd : D) (b : Int) (cs : List (List Int)) (out : List D) : Sl :=
  [.dat hd, .dat (eRow hs), .dat (eCells cs), .dat wd, .dat (eShut ks), .dat (.int b), .dat (eCells (rates hs cs ks)), .own out, .dat (eOpt (nxt hs cs ks))]
theorem eOpt_some (k : Int) : eOpt (some k) = .int k := rfl
theorem eOpt_none : eOpt none = .non := rfl
theorem body_eval {hd H C W SH L C' L' HO' : D} {b k : Int} {out : List D} (hm : G__melt [C, L, .int k] = some C') (hls : G__losses [H, C', SH] = some L') (hhr : G__hours_to_empty [C', L'] = some HO') (hol : out.length < 1000000) :
  (sSeq (sAugI 5 (mV 8))
      (sSeq (sSet 2 (mA (guardN 3 G__melt) (aCons (mV 2) (aCons (mV 6) (aCons (mV 8) aNil)))))
      (sSeq (sSet 6 (mA (guardN 3 G__losses) (aCons (mV 1) (aCons (mV 2) (aCons (mV 4) aNil)))))
      (sSeq (sApp 7 (mA tupD (aCons (mV 5) (aCons (mV 2) (aCons (mV 6) aNil)))))
      (sSet 8 (mA (guardN 2 G__hours_to_empty) (aCons (mV 2) (aCons (mV 6) aNil)))))))) [.dat hd, .dat H, .dat C, .dat W, .dat SH, .dat (.int b), .dat L, .own out, .dat (.int k)] =
   some (.nx [.dat hd, .dat H, .dat C', .dat W, .dat SH, .dat (.int (b + k)), .dat L', .own (out ++ [.tup [.int (b + k), C', L']]), .dat HO']) := by
  (apply Eq.trans; (· apply sSeq_nx; (· simp (config := { decide := false }) only [runF, initS, sSeq, sIf, sRet, sRetN, sSet, sSetF, sSetO, sDrop, sNext, sNever, sUnp, sUnpF, sApp, sAppF, sLend, sAugI, asgL_nm, asgL_tp, asgL_wt, asgsL_nil, asgsL_cons, asg_nm, asg_tp, asgs_nil, asgs_cons, wipeD, mAnd, mOr, mNot, mB, mTr, m2, m1, mV, mC, mA, mCh, mAndV, mOrV, aCons, aNil, guardN, op, cl, fl, opn, clos, flt, eqD_int, neD_int, gtD, ltD, leD, geD, addD, subD, negD, tupD, lstD, tupF, lstF, outD, notD, tru, isD, isnD, isN, flat_tp, flat_in, flat_bo, flat_no, flats_nl, flats_cn,
  List.map_cons, List.map_nil, List.length_cons, List.length_nil, List.replicate, List.getElem?_cons_zero, List.getElem?_cons_succ, List.getElem?_nil, List.cons_append, List.nil_append, Option.bind_some, Option.bind_none, Option.bind_assoc, Option.map_some, Option.map_none, Nat.reduceAdd, Nat.reduceSub, Nat.reduceLeDiff, List.set_cons_zero, List.set_cons_succ, if_true, if_false, ite_true, ite_false, reduceCtorEq, Bool.false_eq_true, Bool.not_true, Bool.not_false, ↓reduceIte, eq_self]; try rfl)))
  (apply Eq.trans; (· apply sSeq_nx; (· simp (config := { decide := false }) only [runF, initS, sSeq, sIf, sRet, sRetN, sSet, sSetF, sSetO, sDrop, sNext, sNever, sUnp, sUnpF, sApp, sAppF, sLend, sAugI, asgL_nm, asgL_tp, asgL_wt, asgsL_nil, asgsL_cons, asg_nm, asg_tp, asgs_nil, asgs_cons, wipeD, mAnd, mOr, mNot, mB, mTr, m2, m1, mV, mC, mA, mCh, mAndV, mOrV, aCons, aNil, guardN, op, cl, fl, opn, clos, flt, eqD_int, neD_int, gtD, ltD, leD, geD, addD, subD, negD, tupD, lstD, tupF, lstF, outD, notD, tru, isD, isnD, isN, flat_tp, flat_in, flat_bo, flat_no, flats_nl, flats_cn,
  List.map_cons, List.map_nil, List.length_cons, List.length_nil, List.replicate, List.getElem?_cons_zero, List.getElem?_cons_succ, List.getElem?_nil, List.cons_append, List.nil_append, Option.bind_some, Option.bind_none, Option.bind_assoc, Option.map_some, Option.map_none, Nat.reduceAdd, Nat.reduceSub, Nat.reduceLeDiff, List.set_cons_zero, List.set_cons_succ, if_true, if_false, ite_true, ite_false, reduceCtorEq, Bool.false_eq_true, Bool.not_true, Bool.not_false, ↓reduceIte, eq_self, hm]; try rfl)))
  (apply Eq.trans; (· apply sSeq_nx; (· simp (config := { decide := false }) only [runF, initS, sSeq, sIf, sRet, sRetN, sSet, sSetF, sSetO, sDrop, sNext, sNever, sUnp, sUnpF, sApp, sAppF, sLend, sAugI, asgL_nm, asgL_tp, asgL_wt, asgsL_nil, asgsL_cons, asg_nm, asg_tp, asgs_nil, asgs_cons, wipeD, mAnd, mOr, mNot, mB, mTr, m2, m1, mV, mC, mA, mCh, mAndV, mOrV, aCons, aNil, guardN, op, cl, fl, opn, clos, flt, eqD_int, neD_int, gtD, ltD, leD, geD, addD, subD, negD, tupD, lstD, tupF, lstF, outD, notD, tru, isD, isnD, isN, flat_tp, flat_in, flat_bo, flat_no, flats_nl, flats_cn,
  List.map_cons, List.map_nil, List.length_cons, List.length_nil, List.replicate, List.getElem?_cons_zero, List.getElem?_cons_succ, List.getElem?_nil, List.cons_append, List.nil_append, Option.bind_some, Option.bind_none, Option.bind_assoc, Option.map_some, Option.map_none, Nat.reduceAdd, Nat.reduceSub, Nat.reduceLeDiff, List.set_cons_zero, List.set_cons_succ, if_true, if_false, ite_true, ite_false, reduceCtorEq, Bool.false_eq_true, Bool.not_true, Bool.not_false, ↓reduceIte, eq_self, hls]; try rfl)))
  (apply Eq.trans; (· apply sSeq_nx; (· simp (config := { decide := false }) only [runF, initS, sSeq, sIf, sRet, sRetN, sSet, sSetF, sSetO, sDrop, sNext, sNever, sUnp, sUnpF, sApp, sAppF, sLend, sAugI, asgL_nm, asgL_tp, asgL_wt, asgsL_nil, asgsL_cons, asg_nm, asg_tp, asgs_nil, asgs_cons, wipeD, mAnd, mOr, mNot, mB, mTr, m2, m1, mV, mC, mA, mCh, mAndV, mOrV, aCons, aNil, guardN, op, cl, fl, opn, clos, flt, eqD_int, neD_int, gtD, ltD, leD, geD, addD, subD, negD, tupD, lstD, tupF, lstF, outD, notD, tru, isD, isnD, isN, flat_tp, flat_in, flat_bo, flat_no, flats_nl, flats_cn,
  List.map_cons, List.map_nil, List.length_cons, List.length_nil, List.replicate, List.getElem?_cons_zero, List.getElem?_cons_succ, List.getElem?_nil, List.cons_append, List.nil_append, Option.bind_some, Option.bind_none, Option.bind_assoc, Option.map_some, Option.map_none, Nat.reduceAdd, Nat.reduceSub, Nat.reduceLeDiff, List.set_cons_zero, List.set_cons_succ, if_true, if_false, ite_true, ite_false, reduceCtorEq, Bool.false_eq_true, Bool.not_true, Bool.not_false, ↓reduceIte, eq_self, hol]; try rfl)))
  simp (config := { decide := false }) only [runF, initS, sSeq, sIf, sRet, sRetN, sSet, sSetF, sSetO, sDrop, sNext, sNever, sUnp, sUnpF, sApp, sAppF, sLend, sAugI, asgL_nm, asgL_tp, asgL_wt, asgsL_nil, asgsL_cons, asg_nm, asg_tp, asgs_nil, asgs_cons, wipeD, mAnd, mOr, mNot, mB, mTr, m2, m1, mV, mC, mA, mCh, mAndV, mOrV, aCons, aNil, guardN, op, cl, fl, opn, clos, flt, eqD_int, neD_int, gtD, ltD, leD, geD, addD, subD, negD, tupD, lstD, tupF, lstF, outD, notD, tru, isD, isnD, isN, flat_tp, flat_in, flat_bo, flat_no, flats_nl, flats_cn,
  List.map_cons, List.map_nil, List.length_cons, List.length_nil, List.replicate, List.getElem?_cons_zero, List.getElem?_cons_succ, List.getElem?_nil, List.cons_append, List.nil_append, Option.bind_some, Option.bind_none, Option.bind_assoc, Option.map_some, Option.map_none, Nat.reduceAdd, Nat.reduceSub, Nat.reduceLeDiff, List.set_cons_zero, List.set_cons_succ, if_true, if_false, ite_true, ite_false, reduceCtorEq, Bool.false_eq_true, Bool.not_true, Bool.not_false, ↓reduceIte, eq_self, hhr]
theorem stages_loop {hs : List Int} {ks : List (List Key)} (hh : Heats hs) (hd wd : D) : ∀ (m : Nat) (b : Int) (cs : List (List Int)) (out : List D) (n : Nat), Gr cs → Nn cs → live cs ≤ m → m < n → out.length + m ≤ 100 →
    ∃ b' cs', whM (mB (m2 isnD (mV 8) (mC .non))) (sSeq (sAugI 5 (mV 8))
      (sSeq (sSet 2 (mA (guardN 3 G__melt) (aCons (mV 2) (aCons (mV 6) (aCons (mV 8) aNil)))))
      (sSeq (sSet 6 (mA (guardN 3 G__losses) (aCons (mV 1) (aCons (mV 2) (aCons (mV 4) aNil)))))
      (sSeq (sApp 7 (mA tupD (aCons (mV 5) (aCons (mV 2) (aCons (mV 6) aNil)))))
      (sSet 8 (mA (guardN 2 G__hours_to_empty) (aCons (mV 2) (aCons (mV 6) aNil)))))))) n (stSt hs ks hd wd b cs out) = some (.nx (stSt hs ks hd wd b' cs' (out ++ (run hs ks m b cs).map (eStage hs ks)))) := by
  intro m
  induction m with
  | zero =>
    intro b cs out n g nn hl hn ho
    cases h : nxt hs cs ks with
    | some k => have := (live_lt hh g nn h).2; omega
    | none =>
      cases n with
      | zero => cases hn
      | succ n =>
        refine ⟨b, cs, ?_⟩
        have e : run hs ks 0 b cs = [] := rfl
        rw [e, List.map_nil, List.append_nil]
        unfold stSt
        rw [h]
        exact whM_end (by simp (config := { decide := false }) only [runF, initS, sSeq, sIf, sRet, sRetN, sSet, sSetF, sSetO, sDrop, sNext, sNever, sUnp, sUnpF, sApp, sAppF, sLend, sAugI, asgL_nm, asgL_tp, asgL_wt, asgsL_nil, asgsL_cons, asg_nm, asg_tp, asgs_nil, asgs_cons, wipeD, mAnd, mOr, mNot, mB, mTr, m2, m1, mV, mC, mA, mCh, mAndV, mOrV, aCons, aNil, guardN, op, cl, fl, opn, clos, flt, eqD_int, neD_int, gtD, ltD, leD, geD, addD, subD, negD, tupD, lstD, tupF, lstF, outD, notD, tru, isD, isnD, isN, flat_tp, flat_in, flat_bo, flat_no, flats_nl, flats_cn,
  List.map_cons, List.map_nil, List.length_cons, List.length_nil, List.replicate, List.getElem?_cons_zero, List.getElem?_cons_succ, List.getElem?_nil, List.cons_append, List.nil_append, Option.bind_some, Option.bind_none, Option.bind_assoc, Option.map_some, Option.map_none, Nat.reduceAdd, Nat.reduceSub, Nat.reduceLeDiff, List.set_cons_zero, List.set_cons_succ, if_true, if_false, ite_true, ite_false, reduceCtorEq, Bool.false_eq_true, Bool.not_true, Bool.not_false, ↓reduceIte, eq_self, eOpt_none])
  | succ m ih =>
    intro b cs out n g nn hl hn ho
    cases n with
    | zero => cases hn
    | succ n =>
      cases h : nxt hs cs ks with
      | none =>
        refine ⟨b, cs, ?_⟩
        have e : run hs ks (m + 1) b cs = [] := by unfold run; rw [h]
        rw [e, List.map_nil, List.append_nil]
        unfold stSt
        rw [h]
        exact whM_end (by simp (config := { decide := false }) only [runF, initS, sSeq, sIf, sRet, sRetN, sSet, sSetF, sSetO, sDrop, sNext, sNever, sUnp, sUnpF, sApp, sAppF, sLend, sAugI, asgL_nm, asgL_tp, asgL_wt, asgsL_nil, asgsL_cons, asg_nm, asg_tp, asgs_nil, asgs_cons, wipeD, mAnd, mOr, mNot, mB, mTr, m2, m1, mV, mC, mA, mCh, mAndV, mOrV, aCons, aNil, guardN, op, cl, fl, opn, clos, flt, eqD_int, neD_int, gtD, ltD, leD, geD, addD, subD, negD, tupD, lstD, tupF, lstF, outD, notD, tru, isD, isnD, isN, flat_tp, flat_in, flat_bo, flat_no, flats_nl, flats_cn,
  List.map_cons, List.map_nil, List.length_cons, List.length_nil, List.replicate, List.getElem?_cons_zero, List.getElem?_cons_succ, List.getElem?_nil, List.cons_append, List.nil_append, Option.bind_some, Option.bind_none, Option.bind_assoc, Option.map_some, Option.map_none, Nat.reduceAdd, Nat.reduceSub, Nat.reduceLeDiff, List.set_cons_zero, List.set_cons_succ, if_true, if_false, ite_true, ite_false, reduceCtorEq, Bool.false_eq_true, Bool.not_true, Bool.not_false, ↓reduceIte, eq_self, eOpt_none])
      | some k =>
        have lt := (live_lt hh g nn h).2
        obtain ⟨g', w', l'⟩ := thaw_gr (hs := hs) (ks := ks) g k
        obtain ⟨b', cs', e⟩ := ih (b + k) (thaw hs cs ks k) (out ++ [eStage hs ks (b + k, thaw hs cs ks k)]) n g' (thaw_nn k) (by omega) (by omega) (by rw [List.length_append]; simp only [List.length_cons, List.length_nil]; omega)
        refine ⟨b', cs', ?_⟩
        rw [List.append_assoc] at e
        unfold run
        rw [h]
        simp only [List.map_cons]
        have hol : out.length < 1000000 := by omega
        have hm := g_melt g (rates_lo hh cs ks) k
        have hls := g_losses ks hh.len g'
        have hhr := g_hours (ls := rates hs (thaw hs cs ks k) ks) g' (rates_hi hh _ ks)
        have hm' : G__melt [eCells cs, eCells (rates hs cs ks), D.int k] = some (eCells (thaw hs cs ks k)) := hm
        unfold stSt at e
        unfold stSt
        rw [h]
        refine (whM_go (by simp (config := { decide := false }) only [runF, initS, sSeq, sIf, sRet, sRetN, sSet, sSetF, sSetO, sDrop, sNext, sNever, sUnp, sUnpF, sApp, sAppF, sLend, sAugI, asgL_nm, asgL_tp, asgL_wt, asgsL_nil, asgsL_cons, asg_nm, asg_tp, asgs_nil, asgs_cons, wipeD, mAnd, mOr, mNot, mB, mTr, m2, m1, mV, mC, mA, mCh, mAndV, mOrV, aCons, aNil, guardN, op, cl, fl, opn, clos, flt, eqD_int, neD_int, gtD, ltD, leD, geD, addD, subD, negD, tupD, lstD, tupF, lstF, outD, notD, tru, isD, isnD, isN, flat_tp, flat_in, flat_bo, flat_no, flats_nl, flats_cn,
  List.map_cons, List.map_nil, List.length_cons, List.length_nil, List.replicate, List.getElem?_cons_zero, List.getElem?_cons_succ, List.getElem?_nil, List.cons_append, List.nil_append, Option.bind_some, Option.bind_none, Option.bind_assoc, Option.map_some, Option.map_none, Nat.reduceAdd, Nat.reduceSub, Nat.reduceLeDiff, List.set_cons_zero, List.set_cons_succ, if_true, if_false, ite_true, ite_false, reduceCtorEq, Bool.false_eq_true, Bool.not_true, Bool.not_false, ↓reduceIte, eq_self, eOpt_some]) ?_).trans e
        have e1 : eStage hs ks (b + k, thaw hs cs ks k) = .tup [.int (b + k), eCells (thaw hs cs ks k), eCells (rates hs (thaw hs cs ks k) ks)] := rfl
        have e2 : nxt hs (thaw hs cs ks k) ks = minL (steps (thaw hs cs ks k) (rates hs (thaw hs cs ks k) ks)) := rfl
        rw [e1, e2, eOpt_some]
        exact body_eval hm' hls hhr hol
theorem stages_eval {R C W SH L z1 z2 z3 z4 : D} {b' : Int} {rr : List D} (hsh : G_shut_faces [W] = some SH) (hls : G__losses [R, C, SH] = some L) (hhr : G__hours_to_empty [C, L] = some z3) (fr : flat C = true) (fr2 : flat L = true)
  (e : whM (mB (m2 isnD (mV 8) (mC .non))) (sSeq (sAugI 5 (mV 8))
      (sSeq (sSet 2 (mA (guardN 3 G__melt) (aCons (mV 2) (aCons (mV 6) (aCons (mV 8) aNil)))))
      (sSeq (sSet 6 (mA (guardN 3 G__losses) (aCons (mV 1) (aCons (mV 2) (aCons (mV 4) aNil)))))
      (sSeq (sApp 7 (mA tupD (aCons (mV 5) (aCons (mV 2) (aCons (mV 6) aNil)))))
      (sSet 8 (mA (guardN 2 G__hours_to_empty) (aCons (mV 2) (aCons (mV 6) aNil)))))))) 100 [.dat (.tup [R, C, W]), .dat R, .dat C, .dat W, .dat SH, .dat (.int 0), .dat L, .own [.tup [.int 0, C, L]], .dat z3] = some (.nx [.dat (.tup [R, C, W]), .dat R, .dat z4, .dat W, .dat SH, .dat (.int b'), .dat z2, .own ([.tup [.int 0, C, L]] ++ rr), .dat z1])) :
  G__stages [.tup [R, C, W]] = some (.lst (D.tup [.int 0, C, L] :: rr)) := by
  unfold G__stages
  refine run_rt (S := [.dat (.tup [R, C, W]), .dat R, .dat z4, .dat W, .dat SH, .dat (.int b'), .dat z2, .own (D.tup [.int 0, C, L] :: rr), .dat z1]) ?_
  unfold mr__stages
  (apply Eq.trans; (· apply sSeq_nx; (· simp (config := { decide := false }) only [runF, initS, sSeq, sIf, sRet, sRetN, sSet, sSetF, sSetO, sDrop, sNext, sNever, sUnp, sUnpF, sApp, sAppF, sLend, sAugI, asgL_nm, asgL_tp, asgL_wt, asgsL_nil, asgsL_cons, asg_nm, asg_tp, asgs_nil, asgs_cons, wipeD, mAnd, mOr, mNot, mB, mTr, m2, m1, mV, mC, mA, mCh, mAndV, mOrV, aCons, aNil, guardN, op, cl, fl, opn, clos, flt, eqD_int, neD_int, gtD, ltD, leD, geD, addD, subD, negD, tupD, lstD, tupF, lstF, outD, notD, tru, isD, isnD, isN, flat_tp, flat_in, flat_bo, flat_no, flats_nl, flats_cn,
  List.map_cons, List.map_nil, List.length_cons, List.length_nil, List.replicate, List.getElem?_cons_zero, List.getElem?_cons_succ, List.getElem?_nil, List.cons_append, List.nil_append, Option.bind_some, Option.bind_none, Option.bind_assoc, Option.map_some, Option.map_none, Nat.reduceAdd, Nat.reduceSub, Nat.reduceLeDiff, List.set_cons_zero, List.set_cons_succ, if_true, if_false, ite_true, ite_false, reduceCtorEq, Bool.false_eq_true, Bool.not_true, Bool.not_false, ↓reduceIte, eq_self]; try rfl)))
  (apply Eq.trans; (· apply sSeq_nx; (· simp (config := { decide := false }) only [runF, initS, sSeq, sIf, sRet, sRetN, sSet, sSetF, sSetO, sDrop, sNext, sNever, sUnp, sUnpF, sApp, sAppF, sLend, sAugI, asgL_nm, asgL_tp, asgL_wt, asgsL_nil, asgsL_cons, asg_nm, asg_tp, asgs_nil, asgs_cons, wipeD, mAnd, mOr, mNot, mB, mTr, m2, m1, mV, mC, mA, mCh, mAndV, mOrV, aCons, aNil, guardN, op, cl, fl, opn, clos, flt, eqD_int, neD_int, gtD, ltD, leD, geD, addD, subD, negD, tupD, lstD, tupF, lstF, outD, notD, tru, isD, isnD, isN, flat_tp, flat_in, flat_bo, flat_no, flats_nl, flats_cn,
  List.map_cons, List.map_nil, List.length_cons, List.length_nil, List.replicate, List.getElem?_cons_zero, List.getElem?_cons_succ, List.getElem?_nil, List.cons_append, List.nil_append, Option.bind_some, Option.bind_none, Option.bind_assoc, Option.map_some, Option.map_none, Nat.reduceAdd, Nat.reduceSub, Nat.reduceLeDiff, List.set_cons_zero, List.set_cons_succ, if_true, if_false, ite_true, ite_false, reduceCtorEq, Bool.false_eq_true, Bool.not_true, Bool.not_false, ↓reduceIte, eq_self, hsh]; try rfl)))
  (apply Eq.trans; (· apply sSeq_nx; (· simp (config := { decide := false }) only [runF, initS, sSeq, sIf, sRet, sRetN, sSet, sSetF, sSetO, sDrop, sNext, sNever, sUnp, sUnpF, sApp, sAppF, sLend, sAugI, asgL_nm, asgL_tp, asgL_wt, asgsL_nil, asgsL_cons, asg_nm, asg_tp, asgs_nil, asgs_cons, wipeD, mAnd, mOr, mNot, mB, mTr, m2, m1, mV, mC, mA, mCh, mAndV, mOrV, aCons, aNil, guardN, op, cl, fl, opn, clos, flt, eqD_int, neD_int, gtD, ltD, leD, geD, addD, subD, negD, tupD, lstD, tupF, lstF, outD, notD, tru, isD, isnD, isN, flat_tp, flat_in, flat_bo, flat_no, flats_nl, flats_cn,
  List.map_cons, List.map_nil, List.length_cons, List.length_nil, List.replicate, List.getElem?_cons_zero, List.getElem?_cons_succ, List.getElem?_nil, List.cons_append, List.nil_append, Option.bind_some, Option.bind_none, Option.bind_assoc, Option.map_some, Option.map_none, Nat.reduceAdd, Nat.reduceSub, Nat.reduceLeDiff, List.set_cons_zero, List.set_cons_succ, if_true, if_false, ite_true, ite_false, reduceCtorEq, Bool.false_eq_true, Bool.not_true, Bool.not_false, ↓reduceIte, eq_self]; try rfl)))
  (apply Eq.trans; (· apply sSeq_nx; (· simp (config := { decide := false }) only [runF, initS, sSeq, sIf, sRet, sRetN, sSet, sSetF, sSetO, sDrop, sNext, sNever, sUnp, sUnpF, sApp, sAppF, sLend, sAugI, asgL_nm, asgL_tp, asgL_wt, asgsL_nil, asgsL_cons, asg_nm, asg_tp, asgs_nil, asgs_cons, wipeD, mAnd, mOr, mNot, mB, mTr, m2, m1, mV, mC, mA, mCh, mAndV, mOrV, aCons, aNil, guardN, op, cl, fl, opn, clos, flt, eqD_int, neD_int, gtD, ltD, leD, geD, addD, subD, negD, tupD, lstD, tupF, lstF, outD, notD, tru, isD, isnD, isN, flat_tp, flat_in, flat_bo, flat_no, flats_nl, flats_cn,
  List.map_cons, List.map_nil, List.length_cons, List.length_nil, List.replicate, List.getElem?_cons_zero, List.getElem?_cons_succ, List.getElem?_nil, List.cons_append, List.nil_append, Option.bind_some, Option.bind_none, Option.bind_assoc, Option.map_some, Option.map_none, Nat.reduceAdd, Nat.reduceSub, Nat.reduceLeDiff, List.set_cons_zero, List.set_cons_succ, if_true, if_false, ite_true, ite_false, reduceCtorEq, Bool.false_eq_true, Bool.not_true, Bool.not_false, ↓reduceIte, eq_self, hls]; try rfl)))
  (apply Eq.trans; (· apply sSeq_nx; (· simp (config := { decide := false }) only [runF, initS, sSeq, sIf, sRet, sRetN, sSet, sSetF, sSetO, sDrop, sNext, sNever, sUnp, sUnpF, sApp, sAppF, sLend, sAugI, asgL_nm, asgL_tp, asgL_wt, asgsL_nil, asgsL_cons, asg_nm, asg_tp, asgs_nil, asgs_cons, wipeD, mAnd, mOr, mNot, mB, mTr, m2, m1, mV, mC, mA, mCh, mAndV, mOrV, aCons, aNil, guardN, op, cl, fl, opn, clos, flt, eqD_int, neD_int, gtD, ltD, leD, geD, addD, subD, negD, tupD, lstD, tupF, lstF, outD, notD, tru, isD, isnD, isN, flat_tp, flat_in, flat_bo, flat_no, flats_nl, flats_cn,
  List.map_cons, List.map_nil, List.length_cons, List.length_nil, List.replicate, List.getElem?_cons_zero, List.getElem?_cons_succ, List.getElem?_nil, List.cons_append, List.nil_append, Option.bind_some, Option.bind_none, Option.bind_assoc, Option.map_some, Option.map_none, Nat.reduceAdd, Nat.reduceSub, Nat.reduceLeDiff, List.set_cons_zero, List.set_cons_succ, if_true, if_false, ite_true, ite_false, reduceCtorEq, Bool.false_eq_true, Bool.not_true, Bool.not_false, ↓reduceIte, eq_self, fr, fr2, Bool.and_self, Bool.and_true, sSetO, flt]; try rfl)))
  (apply Eq.trans; (· apply sSeq_nx; (· simp (config := { decide := false }) only [runF, initS, sSeq, sIf, sRet, sRetN, sSet, sSetF, sSetO, sDrop, sNext, sNever, sUnp, sUnpF, sApp, sAppF, sLend, sAugI, asgL_nm, asgL_tp, asgL_wt, asgsL_nil, asgsL_cons, asg_nm, asg_tp, asgs_nil, asgs_cons, wipeD, mAnd, mOr, mNot, mB, mTr, m2, m1, mV, mC, mA, mCh, mAndV, mOrV, aCons, aNil, guardN, op, cl, fl, opn, clos, flt, eqD_int, neD_int, gtD, ltD, leD, geD, addD, subD, negD, tupD, lstD, tupF, lstF, outD, notD, tru, isD, isnD, isN, flat_tp, flat_in, flat_bo, flat_no, flats_nl, flats_cn,
  List.map_cons, List.map_nil, List.length_cons, List.length_nil, List.replicate, List.getElem?_cons_zero, List.getElem?_cons_succ, List.getElem?_nil, List.cons_append, List.nil_append, Option.bind_some, Option.bind_none, Option.bind_assoc, Option.map_some, Option.map_none, Nat.reduceAdd, Nat.reduceSub, Nat.reduceLeDiff, List.set_cons_zero, List.set_cons_succ, if_true, if_false, ite_true, ite_false, reduceCtorEq, Bool.false_eq_true, Bool.not_true, Bool.not_false, ↓reduceIte, eq_self, hhr]; try rfl)))
  apply Eq.trans
  · apply sSeq_nx
    exact e
  simp (config := { decide := false }) only [runF, initS, sSeq, sIf, sRet, sRetN, sSet, sSetF, sSetO, sDrop, sNext, sNever, sUnp, sUnpF, sApp, sAppF, sLend, sAugI, asgL_nm, asgL_tp, asgL_wt, asgsL_nil, asgsL_cons, asg_nm, asg_tp, asgs_nil, asgs_cons, wipeD, mAnd, mOr, mNot, mB, mTr, m2, m1, mV, mC, mA, mCh, mAndV, mOrV, aCons, aNil, guardN, op, cl, fl, opn, clos, flt, eqD_int, neD_int, gtD, ltD, leD, geD, addD, subD, negD, tupD, lstD, tupF, lstF, outD, notD, tru, isD, isnD, isN, flat_tp, flat_in, flat_bo, flat_no, flats_nl, flats_cn,
  List.map_cons, List.map_nil, List.length_cons, List.length_nil, List.replicate, List.getElem?_cons_zero, List.getElem?_cons_succ, List.getElem?_nil, List.cons_append, List.nil_append, Option.bind_some, Option.bind_none, Option.bind_assoc, Option.map_some, Option.map_none, Nat.reduceAdd, Nat.reduceSub, Nat.reduceLeDiff, List.set_cons_zero, List.set_cons_succ, if_true, if_false, ite_true, ite_false, reduceCtorEq, Bool.false_eq_true, Bool.not_true, Bool.not_false, ↓reduceIte, eq_self]
theorem g_stages {h : Hs} (hh : Heats h.heats) (g : Gr h.cells) (nn : Nn h.cells) (hw : h.walls.length ≤ 40) :
    G__stages [eH h] = some (.lst (((0, h.cells) :: run h.heats (shutK h.walls) 16 0 h.cells).map (eStage h.heats (shutK h.walls)))) := by
  obtain ⟨hs, cs, ws⟩ := h
  obtain ⟨b', cs', e⟩ := stages_loop (ks := shutK ws) hh (.tup [eRow hs, eCells cs, eWalls ws]) (eWalls ws) 16 0 cs [.tup [.int 0, eCells cs, eCells (rates hs cs (shutK ws))]] 100 g nn (live_le g) (by decide) (by simp only [List.length_cons, List.length_nil]; omega)
  exact stages_eval (g_shut ws (Nat.le_trans hw (by decide))) (g_losses (shutK ws) hh.len g) (g_hours (ls := rates hs cs (shutK ws)) g (rates_hi hh _ _)) (flat_cells cs) (flat_cells _) e
end Ice

namespace Ice
open PySem PySem.Spec PyProof.Rows L2
/-! ### a cell's course -/
theorem run_gr {hs : List Int} {ks : List (List Key)} : ∀ (n : Nat) (b : Int) (cs : List (List Int)), Gr cs → ∀ x ∈ run hs ks n b cs, Gr x.2 ∧ wide x.2 = wide cs ∧ x.2.length = cs.length
  | 0, _, _, _, x, h => nomatch h
  | n + 1, b, cs, g, x, h => by
    unfold run at h
    cases e : nxt hs cs ks with
    | none => rw [e] at h; cases h
    | some k =>
      rw [e] at h
      obtain ⟨g', w', l'⟩ := thaw_gr (hs := hs) (ks := ks) g k
      rcases List.mem_cons.mp h with rfl | h
      · exact ⟨g', w', l'⟩
      · obtain ⟨a, c, d⟩ := run_gr n _ _ g' x h
        exact ⟨a, c.trans w', d.trans l'⟩
theorem run_len {hs : List Int} {ks : List (List Key)} : ∀ (n : Nat) (b : Int) (cs : List (List Int)), (run hs ks n b cs).length ≤ n
  | 0, _, _ => Nat.le_refl _
  | n + 1, b, cs => by
    unfold run
    cases nxt hs cs ks with
    | none => exact Nat.zero_le _
    | some k => exact Nat.succ_le_succ (run_len n _ _)
theorem rates_gr {hs : List Int} {cs : List (List Int)} {ks : List (List Key)} (g : Gr cs) : Gr (rates hs cs ks) ∧ wide (rates hs cs ks) = wide cs := by
  have all : ∀ r ∈ rates hs cs ks, r.length = wide cs := fun r hr => by
    unfold rates at hr
    obtain ⟨i, _, rfl⟩ := List.mem_map.mp hr
    rw [List.length_map, List.length_range]
  have hl := rates_len (hs := hs) (cs := cs) (ks := ks)
  have hw : wide (rates hs cs ks) = wide cs := by
    have := g.hi
    cases h : rates hs cs ks with
    | nil => rw [h] at hl; simp at hl; omega
    | cons r rs => exact all r (by rw [h]; exact List.mem_cons_self)
  exact ⟨⟨by rw [hl]; exact g.hi, by rw [hw]; exact g.wi, fun r hr => by rw [hw]; exact all r hr⟩, hw⟩
theorem rates_at {hs : List Int} {cs : List (List Int)} {ks : List (List Key)} {r c : Nat} (h1 : r < cs.length) (h2 : c < wide cs) : cellAt (rates hs cs ks) r c = rate hs cs ks r c := by
  unfold cellAt rates
  rw [Int.toNat_natCast, Int.toNat_natCast]
  have e : ((List.range cs.length).map fun (r : Nat) => (List.range (wide cs)).map fun (c : Nat) => rate hs cs ks r c).getD r [] = (List.range (wide cs)).map fun (c : Nat) => rate hs cs ks r c := by
    rw [List.getD_eq_getElem?_getD, List.getElem?_map, List.getElem?_range h1]
    rfl
  rw [e, List.getD_eq_getElem?_getD, List.getElem?_map, List.getElem?_range h2]
  rfl
/-- told anew when the rate is another one -/
def dueStep (hs : List Int) (ks : List (List Key)) (r c : Nat) (z : List (Int × Int × Int)) (x : Int × List (List Int)) : List (Int × Int × Int) :=
  if (z.getLast?.map fun w => w.2.2) = some (rate hs x.2 ks r c) then z else z ++ [(x.1, cellAt x.2 r c, rate hs x.2 ks r c)]
def due (hs : List Int) (ks : List (List Key)) (r c : Nat) (xs : List (Int × List (List Int))) : List (Int × Int × Int) := xs.foldl (dueStep hs ks r c) []
theorem last_eval {z : List (Int × Int × Int)} {w : Int × Int × Int} : (z ++ [w]).getLast? = some w := List.getLast?_concat
theorem ix_last {z : List (Int × Int × Int)} {w : Int × Int × Int} : ixD (.lst ((z ++ [w]).map eW)) (.int (-1)) = some (eW w) := by
  show atI ((z ++ [w]).map eW) (-1) = _
  rw [List.map_append]
  exact atI_last
theorem ix_eW (w : Int × Int × Int) : ixD (eW w) (.int 2) = some (.int w.2.2) := rfl
theorem tru_own (z : List (Int × Int × Int)) : tru (.lst (z.map eW)) = some (!z.isEmpty) := by
  cases z <;> rfl
end Ice

namespace Ice
open PySem PySem.Spec PyProof.Rows L2
/-! ### good houses are let by -/
structure Ok (h : Hs) : Prop where
  hh : Heats h.heats
  g : Gr h.cells
  nn : ∀ r ∈ h.cells, ∀ x ∈ r, 0 ≤ x ∧ x ≤ 9999
  wl : h.walls.length ≤ 40
  wr : ∀ w ∈ h.walls, inG h.cells w.1 w.2.1 = true ∧ 0 ≤ w.2.2 ∧ w.2.2 ≤ 3
  nd : (h.walls.map face).Nodup
theorem Ok.nneg {h : Hs} (o : Ok h) : Nn h.cells := fun r hr x hx => (o.nn r hr x hx).1
theorem isi_int (i : Int) : isiF [.int i, .raw (.ty "int")] = some (.bl true) := rfl
theorem isi_intb (i : Int) : isiF [.int i, .raw (.ty "bool")] = some (.bl false) := rfl
theorem isi_tup (ds : List D) : isiF [.tup ds, .raw (.ty "tuple")] = some (.bl true) := rfl
theorem isi_lst (ds : List D) : isiF [.lst ds, .raw (.ty "list")] = some (.bl true) := rfl
theorem g_num {i m : Int} (h0 : 0 ≤ i) (h1 : i ≤ m) : G_is_number [.int i, .int m] = some (.bl true) := by
  unfold G_is_number mr_is_number
  simp (config := { decide := false }) only [runF, initS, sSeq, sIf, sRet, sRetN, sSet, sSetF, sSetO, sDrop, sNext, sNever, sUnp, sUnpF, sApp, sAppF, sLend, sAugI, asgL_nm, asgL_tp, asgL_wt, asgsL_nil, asgsL_cons, asg_nm, asg_tp, asgs_nil, asgs_cons, wipeD, mAnd, mOr, mNot, mB, mTr, m2, m1, mV, mC, mA, mCh, mAndV, mOrV, aCons, aNil, guardN, op, cl, fl, opn, clos, flt, eqD_int, neD_int, gtD, ltD, leD, geD, addD, subD, negD, tupD, lstD, tupF, lstF, outD, notD, tru, isD, isnD, isN, flat_tp, flat_in, flat_bo, flat_no, flats_nl, flats_cn,
  List.map_cons, List.map_nil, List.length_cons, List.length_nil, List.replicate, List.getElem?_cons_zero, List.getElem?_cons_succ, List.getElem?_nil, List.cons_append, List.nil_append, Option.bind_some, Option.bind_none, Option.bind_assoc, Option.map_some, Option.map_none, Nat.reduceAdd, Nat.reduceSub, Nat.reduceLeDiff, List.set_cons_zero, List.set_cons_succ, if_true, if_false, ite_true, ite_false, reduceCtorEq, Bool.false_eq_true, Bool.not_true, Bool.not_false, ↓reduceIte, eq_self, isi_int, isi_intb, h0, h1, decide_true]
theorem bools_true {α : Type} : ∀ (xs : List α), boolsOf (xs.map fun _ => D.bl true) = some (xs.map fun _ => true)
  | [] => rfl
  | x :: xs => by
    show (boolsOf (xs.map fun _ => D.bl true)).map (fun k => true :: k) = _
    rw [bools_true xs]
    rfl
theorem all_true {α : Type} : ∀ (xs : List α), ((xs.map fun _ => true).all fun b => b) = true
  | [] => rfl
  | x :: xs => all_true xs
theorem allF_true {α : Type} (xs : List α) : allF [.lst (xs.map fun _ => D.bl true)] = some (.bl true) := by
  show (boolsOf (xs.map fun _ => D.bl true)).map _ = _
  rw [bools_true, Option.map_some, all_true]
theorem g_nums {r : List Int} {m : Int} (hl : r.length ≤ 1000) (h : ∀ x ∈ r, 0 ≤ x ∧ x ≤ m) : G__are_numbers [eRow r, .int m] = some (.bl true) := by
  unfold G__are_numbers mr__are_numbers
  have e : isiF [eRow r, .raw (.ty "tuple")] = some (.bl true) := isi_tup _
  simp (config := { decide := false }) only [runF, initS, sSeq, sIf, sRet, sRetN, sSet, sSetF, sSetO, sDrop, sNext, sNever, sUnp, sUnpF, sApp, sAppF, sLend, sAugI, asgL_nm, asgL_tp, asgL_wt, asgsL_nil, asgsL_cons, asg_nm, asg_tp, asgs_nil, asgs_cons, wipeD, mAnd, mOr, mNot, mB, mTr, m2, m1, mV, mC, mA, mCh, mAndV, mOrV, aCons, aNil, guardN, op, cl, fl, opn, clos, flt, eqD_int, neD_int, gtD, ltD, leD, geD, addD, subD, negD, tupD, lstD, tupF, lstF, outD, notD, tru, isD, isnD, isN, flat_tp, flat_in, flat_bo, flat_no, flats_nl, flats_cn,
  List.map_cons, List.map_nil, List.length_cons, List.length_nil, List.replicate, List.getElem?_cons_zero, List.getElem?_cons_succ, List.getElem?_nil, List.cons_append, List.nil_append, Option.bind_some, Option.bind_none, Option.bind_assoc, Option.map_some, Option.map_none, Nat.reduceAdd, Nat.reduceSub, Nat.reduceLeDiff, List.set_cons_zero, List.set_cons_succ, if_true, if_false, ite_true, ite_false, reduceCtorEq, Bool.false_eq_true, Bool.not_true, Bool.not_false, ↓reduceIte, eq_self, e]
  rw [mLc_map (fun i : Int => D.int i) (fun _ => D.bl true) r rfl (by omega) (fun i hi => ⟨_, rfl, by
    obtain ⟨a, b⟩ := h i hi
    simp (config := { decide := false }) only [runF, initS, sSeq, sIf, sRet, sRetN, sSet, sSetF, sSetO, sDrop, sNext, sNever, sUnp, sUnpF, sApp, sAppF, sLend, sAugI, asgL_nm, asgL_tp, asgL_wt, asgsL_nil, asgsL_cons, asg_nm, asg_tp, asgs_nil, asgs_cons, wipeD, mAnd, mOr, mNot, mB, mTr, m2, m1, mV, mC, mA, mCh, mAndV, mOrV, aCons, aNil, guardN, op, cl, fl, opn, clos, flt, eqD_int, neD_int, gtD, ltD, leD, geD, addD, subD, negD, tupD, lstD, tupF, lstF, outD, notD, tru, isD, isnD, isN, flat_tp, flat_in, flat_bo, flat_no, flats_nl, flats_cn,
  List.map_cons, List.map_nil, List.length_cons, List.length_nil, List.replicate, List.getElem?_cons_zero, List.getElem?_cons_succ, List.getElem?_nil, List.cons_append, List.nil_append, Option.bind_some, Option.bind_none, Option.bind_assoc, Option.map_some, Option.map_none, Nat.reduceAdd, Nat.reduceSub, Nat.reduceLeDiff, List.set_cons_zero, List.set_cons_succ, if_true, if_false, ite_true, ite_false, reduceCtorEq, Bool.false_eq_true, Bool.not_true, Bool.not_false, ↓reduceIte, eq_self, g_num a b]⟩)]
  simp (config := { decide := false }) only [runF, initS, sSeq, sIf, sRet, sRetN, sSet, sSetF, sSetO, sDrop, sNext, sNever, sUnp, sUnpF, sApp, sAppF, sLend, sAugI, asgL_nm, asgL_tp, asgL_wt, asgsL_nil, asgsL_cons, asg_nm, asg_tp, asgs_nil, asgs_cons, wipeD, mAnd, mOr, mNot, mB, mTr, m2, m1, mV, mC, mA, mCh, mAndV, mOrV, aCons, aNil, guardN, op, cl, fl, opn, clos, flt, eqD_int, neD_int, gtD, ltD, leD, geD, addD, subD, negD, tupD, lstD, tupF, lstF, outD, notD, tru, isD, isnD, isN, flat_tp, flat_in, flat_bo, flat_no, flats_nl, flats_cn,
  List.map_cons, List.map_nil, List.length_cons, List.length_nil, List.replicate, List.getElem?_cons_zero, List.getElem?_cons_succ, List.getElem?_nil, List.cons_append, List.nil_append, Option.bind_some, Option.bind_none, Option.bind_assoc, Option.map_some, Option.map_none, Nat.reduceAdd, Nat.reduceSub, Nat.reduceLeDiff, List.set_cons_zero, List.set_cons_succ, if_true, if_false, ite_true, ite_false, reduceCtorEq, Bool.false_eq_true, Bool.not_true, Bool.not_false, ↓reduceIte, eq_self, allF_true]
theorem g_heats {hs : List Int} (h : Heats hs) : G__need_heats [eRow hs] = some .non := by
  unfold G__need_heats mr__need_heats
  simp (config := { decide := false }) only [runF, initS, sSeq, sIf, sRet, sRetN, sSet, sSetF, sSetO, sDrop, sNext, sNever, sUnp, sUnpF, sApp, sAppF, sLend, sAugI, asgL_nm, asgL_tp, asgL_wt, asgsL_nil, asgsL_cons, asg_nm, asg_tp, asgs_nil, asgs_cons, wipeD, mAnd, mOr, mNot, mB, mTr, m2, m1, mV, mC, mA, mCh, mAndV, mOrV, aCons, aNil, guardN, op, cl, fl, opn, clos, flt, eqD_int, neD_int, gtD, ltD, leD, geD, addD, subD, negD, tupD, lstD, tupF, lstF, outD, notD, tru, isD, isnD, isN, flat_tp, flat_in, flat_bo, flat_no, flats_nl, flats_cn,
  List.map_cons, List.map_nil, List.length_cons, List.length_nil, List.replicate, List.getElem?_cons_zero, List.getElem?_cons_succ, List.getElem?_nil, List.cons_append, List.nil_append, Option.bind_some, Option.bind_none, Option.bind_assoc, Option.map_some, Option.map_none, Nat.reduceAdd, Nat.reduceSub, Nat.reduceLeDiff, List.set_cons_zero, List.set_cons_succ, if_true, if_false, ite_true, ite_false, reduceCtorEq, Bool.false_eq_true, Bool.not_true, Bool.not_false, ↓reduceIte, eq_self, g_nums (by rw [h.len]; decide) h.all, len_row, h.len, tru, beq_self_eq_true, Int.reduceBEq, Int.cast_ofNat_Int]
theorem need_cells_eval {C : D} {xs : List D} {u : SL} {n : Int} (h1 : isiF [C, .raw (.ty "tuple")] = some (.bl true)) (h2 : lenA [C] = some (.int n)) (h3 : 1 ≤ n) (h4 : n ≤ 4) (h5 : itT (mV 0) [some C, none] = some xs)
    (e : forM (.nm 1) (sSeq (sIf (mOr (mNot (mTr (mA (guardN 2 G__are_numbers) (aCons (mV 1) (aCons (mC (.int 9999)) aNil))))) (mNot (mB (mCh leD leD (mC (.int 1)) (mA lenA (aCons (mV 1) aNil)) (mC (.int 4)))))) sNever sNext)
      (sIf (mB (m2 neD (mA lenA (aCons (mV 1) aNil)) (mA lenA (aCons (m2 ixD (mV 0) (mC (.int 0))) aNil)))) sNever sNext)) xs [.dat C, .un] = some (.nx [.dat C, u])) : G__need_cells [C] = some .non := by
  unfold G__need_cells
  refine run_nx (S := [.dat C, u]) ?_
  unfold mr__need_cells
  (apply Eq.trans; (· apply sSeq_nx; (· simp (config := { decide := false }) only [runF, initS, sSeq, sIf, sRet, sRetN, sSet, sSetF, sSetO, sDrop, sNext, sNever, sUnp, sUnpF, sApp, sAppF, sLend, sAugI, asgL_nm, asgL_tp, asgL_wt, asgsL_nil, asgsL_cons, asg_nm, asg_tp, asgs_nil, asgs_cons, wipeD, mAnd, mOr, mNot, mB, mTr, m2, m1, mV, mC, mA, mCh, mAndV, mOrV, aCons, aNil, guardN, op, cl, fl, opn, clos, flt, eqD_int, neD_int, gtD, ltD, leD, geD, addD, subD, negD, tupD, lstD, tupF, lstF, outD, notD, tru, isD, isnD, isN, flat_tp, flat_in, flat_bo, flat_no, flats_nl, flats_cn,
  List.map_cons, List.map_nil, List.length_cons, List.length_nil, List.replicate, List.getElem?_cons_zero, List.getElem?_cons_succ, List.getElem?_nil, List.cons_append, List.nil_append, Option.bind_some, Option.bind_none, Option.bind_assoc, Option.map_some, Option.map_none, Nat.reduceAdd, Nat.reduceSub, Nat.reduceLeDiff, List.set_cons_zero, List.set_cons_succ, if_true, if_false, ite_true, ite_false, reduceCtorEq, Bool.false_eq_true, Bool.not_true, Bool.not_false, ↓reduceIte, eq_self, h1, h2, h3, h4, decide_true]; try rfl)))
  unfold sFor
  have h5' : itT (mV 0) (cl [.dat C, .un]) = some xs := h5
  rw [h5']
  exact e
theorem need_row_turn {C R R0 : D} {u : SL} {n : Int} (h1 : G__are_numbers [R, .int 9999] = some (.bl true)) (h2 : lenA [R] = some (.int n)) (h3 : 1 ≤ n) (h4 : n ≤ 4) (h5 : ixD C (.int 0) = some R0) (h6 : lenA [R0] = some (.int n)) :
    ((asgL (.nm 1) R [.dat C, u]).bind (sSeq (sIf (mOr (mNot (mTr (mA (guardN 2 G__are_numbers) (aCons (mV 1) (aCons (mC (.int 9999)) aNil))))) (mNot (mB (mCh leD leD (mC (.int 1)) (mA lenA (aCons (mV 1) aNil)) (mC (.int 4)))))) sNever sNext)
      (sIf (mB (m2 neD (mA lenA (aCons (mV 1) aNil)) (mA lenA (aCons (m2 ixD (mV 0) (mC (.int 0))) aNil)))) sNever sNext))) = some (.nx [.dat C, .dat R]) := by
  have e1 : asgL (.nm 1) R [.dat C, u] = some [.dat C, .dat R] := rfl
  rw [e1]
  simp only [Option.bind_some]
  (apply Eq.trans; (· apply sSeq_nx; (· simp (config := { decide := false }) only [runF, initS, sSeq, sIf, sRet, sRetN, sSet, sSetF, sSetO, sDrop, sNext, sNever, sUnp, sUnpF, sApp, sAppF, sLend, sAugI, asgL_nm, asgL_tp, asgL_wt, asgsL_nil, asgsL_cons, asg_nm, asg_tp, asgs_nil, asgs_cons, wipeD, mAnd, mOr, mNot, mB, mTr, m2, m1, mV, mC, mA, mCh, mAndV, mOrV, aCons, aNil, guardN, op, cl, fl, opn, clos, flt, eqD_int, neD_int, gtD, ltD, leD, geD, addD, subD, negD, tupD, lstD, tupF, lstF, outD, notD, tru, isD, isnD, isN, flat_tp, flat_in, flat_bo, flat_no, flats_nl, flats_cn,
  List.map_cons, List.map_nil, List.length_cons, List.length_nil, List.replicate, List.getElem?_cons_zero, List.getElem?_cons_succ, List.getElem?_nil, List.cons_append, List.nil_append, Option.bind_some, Option.bind_none, Option.bind_assoc, Option.map_some, Option.map_none, Nat.reduceAdd, Nat.reduceSub, Nat.reduceLeDiff, List.set_cons_zero, List.set_cons_succ, if_true, if_false, ite_true, ite_false, reduceCtorEq, Bool.false_eq_true, Bool.not_true, Bool.not_false, ↓reduceIte, eq_self, h1, h2, h3, h4, decide_true]; try rfl)))
  simp (config := { decide := false }) only [runF, initS, sSeq, sIf, sRet, sRetN, sSet, sSetF, sSetO, sDrop, sNext, sNever, sUnp, sUnpF, sApp, sAppF, sLend, sAugI, asgL_nm, asgL_tp, asgL_wt, asgsL_nil, asgsL_cons, asg_nm, asg_tp, asgs_nil, asgs_cons, wipeD, mAnd, mOr, mNot, mB, mTr, m2, m1, mV, mC, mA, mCh, mAndV, mOrV, aCons, aNil, guardN, op, cl, fl, opn, clos, flt, eqD_int, neD_int, gtD, ltD, leD, geD, addD, subD, negD, tupD, lstD, tupF, lstF, outD, notD, tru, isD, isnD, isN, flat_tp, flat_in, flat_bo, flat_no, flats_nl, flats_cn,
  List.map_cons, List.map_nil, List.length_cons, List.length_nil, List.replicate, List.getElem?_cons_zero, List.getElem?_cons_succ, List.getElem?_nil, List.cons_append, List.nil_append, Option.bind_some, Option.bind_none, Option.bind_assoc, Option.map_some, Option.map_none, Nat.reduceAdd, Nat.reduceSub, Nat.reduceLeDiff, List.set_cons_zero, List.set_cons_succ, if_true, if_false, ite_true, ite_false, reduceCtorEq, Bool.false_eq_true, Bool.not_true, Bool.not_false, ↓reduceIte, eq_self, h2, h5, h6, beq_self_eq_true]
theorem g_cells {cs : List (List Int)} (g : Gr cs) (h : ∀ r ∈ cs, ∀ x ∈ r, 0 ≤ x ∧ x ≤ 9999) : G__need_cells [eCells cs] = some .non := by
  have hi := g.hi
  have wi := g.wi
  obtain ⟨S', e, u, rfl⟩ := forM_rel (t := .nm 1) (b := sSeq (sIf (mOr (mNot (mTr (mA (guardN 2 G__are_numbers) (aCons (mV 1) (aCons (mC (.int 9999)) aNil))))) (mNot (mB (mCh leD leD (mC (.int 1)) (mA lenA (aCons (mV 1) aNil)) (mC (.int 4)))))) sNever sNext)
      (sIf (mB (m2 neD (mA lenA (aCons (mV 1) aNil)) (mA lenA (aCons (m2 ixD (mV 0) (mC (.int 0))) aNil)))) sNever sNext)) eRow (fun _ (_ : Unit) S => ∃ u, S = [.dat (eCells cs), u]) (fun z _ => z) cs () [.dat (eCells cs), .un] ⟨.un, rfl⟩ (by
    rintro n z S ⟨u, rfl⟩ r hr
    have hl := g.all r hr
    exact turn_nx (need_row_turn (n := r.length) (g_nums (by omega) (h r hr)) (len_row r) (by omega) (by omega) g.zero (by rw [len_row, hl]; rfl)) ⟨_, rfl⟩)
  exact need_cells_eval (n := cs.length) (isi_tup _) (len_cells cs) (by omega) (by omega) rfl e
end Ice

namespace Ice
open PySem PySem.Spec PyProof.Rows L2
theorem isface_eval {C R0 W : D} {a b s n m : Int} (hw : W = .tup [.int a, .int b, .int s]) (h1 : lenA [C] = some (.int n)) (h2 : ixD C (.int 0) = some R0) (h3 : lenA [R0] = some (.int m)) (ha : 0 ≤ a ∧ a ≤ n - 1) (hb : 0 ≤ b ∧ b ≤ m - 1) (hs : 0 ≤ s ∧ s ≤ 3) :
    G__is_face [W, C] = some (.bl true) := by
  subst hw
  unfold G__is_face
  refine run_rt (S := [.dat (.tup [.int a, .int b, .int s]), .dat C, .dat (.int a), .dat (.int b), .dat (.int s)]) ?_
  unfold mr__is_face
  have e1 : isiF [.tup [.int a, .int b, .int s], .raw (.ty "tuple")] = some (.bl true) := isi_tup _
  have e2 : lenA [.tup [.int a, .int b, .int s]] = some (.int 3) := rfl
  (apply Eq.trans; (· apply sSeq_nx; (· simp (config := { decide := false }) only [runF, initS, sSeq, sIf, sRet, sRetN, sSet, sSetF, sSetO, sDrop, sNext, sNever, sUnp, sUnpF, sApp, sAppF, sLend, sAugI, asgL_nm, asgL_tp, asgL_wt, asgsL_nil, asgsL_cons, asg_nm, asg_tp, asgs_nil, asgs_cons, wipeD, mAnd, mOr, mNot, mB, mTr, m2, m1, mV, mC, mA, mCh, mAndV, mOrV, aCons, aNil, guardN, op, cl, fl, opn, clos, flt, eqD_int, neD_int, gtD, ltD, leD, geD, addD, subD, negD, tupD, lstD, tupF, lstF, outD, notD, tru, isD, isnD, isN, flat_tp, flat_in, flat_bo, flat_no, flats_nl, flats_cn,
  List.map_cons, List.map_nil, List.length_cons, List.length_nil, List.replicate, List.getElem?_cons_zero, List.getElem?_cons_succ, List.getElem?_nil, List.cons_append, List.nil_append, Option.bind_some, Option.bind_none, Option.bind_assoc, Option.map_some, Option.map_none, Nat.reduceAdd, Nat.reduceSub, Nat.reduceLeDiff, List.set_cons_zero, List.set_cons_succ, if_true, if_false, ite_true, ite_false, reduceCtorEq, Bool.false_eq_true, Bool.not_true, Bool.not_false, ↓reduceIte, eq_self, e1, e2, beq_self_eq_true]; try rfl)))
  (apply Eq.trans; (· apply sSeq_nx; (· simp (config := { decide := false }) only [runF, initS, sSeq, sIf, sRet, sRetN, sSet, sSetF, sSetO, sDrop, sNext, sNever, sUnp, sUnpF, sApp, sAppF, sLend, sAugI, asgL_nm, asgL_tp, asgL_wt, asgsL_nil, asgsL_cons, asg_nm, asg_tp, asgs_nil, asgs_cons, wipeD, mAnd, mOr, mNot, mB, mTr, m2, m1, mV, mC, mA, mCh, mAndV, mOrV, aCons, aNil, guardN, op, cl, fl, opn, clos, flt, eqD_int, neD_int, gtD, ltD, leD, geD, addD, subD, negD, tupD, lstD, tupF, lstF, outD, notD, tru, isD, isnD, isN, flat_tp, flat_in, flat_bo, flat_no, flats_nl, flats_cn,
  List.map_cons, List.map_nil, List.length_cons, List.length_nil, List.replicate, List.getElem?_cons_zero, List.getElem?_cons_succ, List.getElem?_nil, List.cons_append, List.nil_append, Option.bind_some, Option.bind_none, Option.bind_assoc, Option.map_some, Option.map_none, Nat.reduceAdd, Nat.reduceSub, Nat.reduceLeDiff, List.set_cons_zero, List.set_cons_succ, if_true, if_false, ite_true, ite_false, reduceCtorEq, Bool.false_eq_true, Bool.not_true, Bool.not_false, ↓reduceIte, eq_self]; try rfl)))
  simp (config := { decide := false }) only [runF, initS, sSeq, sIf, sRet, sRetN, sSet, sSetF, sSetO, sDrop, sNext, sNever, sUnp, sUnpF, sApp, sAppF, sLend, sAugI, asgL_nm, asgL_tp, asgL_wt, asgsL_nil, asgsL_cons, asg_nm, asg_tp, asgs_nil, asgs_cons, wipeD, mAnd, mOr, mNot, mB, mTr, m2, m1, mV, mC, mA, mCh, mAndV, mOrV, aCons, aNil, guardN, op, cl, fl, opn, clos, flt, eqD_int, neD_int, gtD, ltD, leD, geD, addD, subD, negD, tupD, lstD, tupF, lstF, outD, notD, tru, isD, isnD, isN, flat_tp, flat_in, flat_bo, flat_no, flats_nl, flats_cn,
  List.map_cons, List.map_nil, List.length_cons, List.length_nil, List.replicate, List.getElem?_cons_zero, List.getElem?_cons_succ, List.getElem?_nil, List.cons_append, List.nil_append, Option.bind_some, Option.bind_none, Option.bind_assoc, Option.map_some, Option.map_none, Nat.reduceAdd, Nat.reduceSub, Nat.reduceLeDiff, List.set_cons_zero, List.set_cons_succ, if_true, if_false, ite_true, ite_false, reduceCtorEq, Bool.false_eq_true, Bool.not_true, Bool.not_false, ↓reduceIte, eq_self, h1, h2, h3, g_num ha.1 ha.2, g_num hb.1 hb.2, g_num hs.1 hs.2]
theorem g_isface {cs : List (List Int)} (g : Gr cs) {w : Int × Int × Int} (hc : inG cs w.1 w.2.1 = true) (h0 : 0 ≤ w.2.2) (h3 : w.2.2 ≤ 3) : G__is_face [eW w, eCells cs] = some (.bl true) := by
  unfold inG at hc
  rw [Bool.and_eq_true, decide_eq_true_iff, decide_eq_true_iff] at hc
  have hw : (cs.headD []).length = wide cs := rfl
  exact isface_eval (n := cs.length) (m := wide cs) rfl (len_cells cs) g.zero (by rw [len_row, hw]) (by omega) (by omega) ⟨h0, h3⟩
theorem kKey_inj {v w : Int × Int × Int} (h : kKey v = kKey w) : v = w := by
  unfold kKey at h
  injection h with h1 h
  injection h with h2 h
  injection h with h3 h
  injection h1 with h1
  injection h2 with h2
  injection h3 with h3
  exact Prod.ext h1 (Prod.ext h2 h3)
theorem shut_len : ∀ (ws : List (Int × Int × Int)) (ks : List (List Key)), (ws.map face).Nodup → (∀ w ∈ ws, kKey (face w) ∉ ks) → (ws.foldl (fun ks w => putKs ks (kKey (face w))) ks).length = ks.length + ws.length
  | [], _, _, _ => rfl
  | w :: ws, ks, nd, h => by
    rw [List.map_cons, List.nodup_cons] at nd
    have e : putKs ks (kKey (face w)) = ks ++ [kKey (face w)] := by
      unfold putKs
      rw [if_neg]
      intro c
      obtain ⟨j, hj, e⟩ := List.any_eq_true.mp c
      rw [of_decide_eq_true e] at hj
      exact h w List.mem_cons_self hj
    rw [List.foldl_cons, e, shut_len ws _ nd.2 fun v hv hm => ?_, List.length_append, List.length_cons]
    · simp only [List.length_cons, List.length_nil]
      omega
    · rcases List.mem_append.mp hm with hm | hm
      · exact h v (List.mem_cons_of_mem _ hv) hm
      · rw [List.mem_singleton] at hm
        refine nd.1 ?_
        rw [← kKey_inj hm]
        exact List.mem_map_of_mem hv
theorem len_walls (ws : List (Int × Int × Int)) : lenA [eWalls ws] = some (.int ws.length) := by
  show some (D.int ((ws.map eW).length : Nat)) = _
  rw [List.length_map]
theorem need_faces_eval {C W SH : D} {xs : List D} {u : SL} {n : Int} (h1 : isiF [W, .raw (.ty "tuple")] = some (.bl true)) (h2 : lenA [W] = some (.int n)) (h3 : ¬ 40 < n) (h5 : itT (mV 0) [some W, some C, none] = some xs) (h6 : G_shut_faces [W] = some SH) (h7 : lenA [SH] = some (.int n))
    (e : forM (.nm 2) (sIf (mNot (mTr (mA (guardN 2 G__is_face) (aCons (mV 2) (aCons (mV 1) aNil))))) sNever sNext) xs [.dat W, .dat C, .un] = some (.nx [.dat W, .dat C, u])) : G__need_faces [W, C] = some .non := by
  unfold G__need_faces
  refine run_nx (S := [.dat W, .dat C, u]) ?_
  unfold mr__need_faces
  (apply Eq.trans; (· apply sSeq_nx; (· simp (config := { decide := false }) only [runF, initS, sSeq, sIf, sRet, sRetN, sSet, sSetF, sSetO, sDrop, sNext, sNever, sUnp, sUnpF, sApp, sAppF, sLend, sAugI, asgL_nm, asgL_tp, asgL_wt, asgsL_nil, asgsL_cons, asg_nm, asg_tp, asgs_nil, asgs_cons, wipeD, mAnd, mOr, mNot, mB, mTr, m2, m1, mV, mC, mA, mCh, mAndV, mOrV, aCons, aNil, guardN, op, cl, fl, opn, clos, flt, eqD_int, neD_int, gtD, ltD, leD, geD, addD, subD, negD, tupD, lstD, tupF, lstF, outD, notD, tru, isD, isnD, isN, flat_tp, flat_in, flat_bo, flat_no, flats_nl, flats_cn,
  List.map_cons, List.map_nil, List.length_cons, List.length_nil, List.replicate, List.getElem?_cons_zero, List.getElem?_cons_succ, List.getElem?_nil, List.cons_append, List.nil_append, Option.bind_some, Option.bind_none, Option.bind_assoc, Option.map_some, Option.map_none, Nat.reduceAdd, Nat.reduceSub, Nat.reduceLeDiff, List.set_cons_zero, List.set_cons_succ, if_true, if_false, ite_true, ite_false, reduceCtorEq, Bool.false_eq_true, Bool.not_true, Bool.not_false, ↓reduceIte, eq_self, h1, h2, h3, decide_false]; try rfl)))
  apply Eq.trans
  · apply sSeq_nx (S1 := [.dat W, .dat C, u])
    unfold sFor
    have h5' : itT (mV 0) (cl [.dat W, .dat C, .un]) = some xs := h5
    rw [h5']
    exact e
  simp (config := { decide := false }) only [runF, initS, sSeq, sIf, sRet, sRetN, sSet, sSetF, sSetO, sDrop, sNext, sNever, sUnp, sUnpF, sApp, sAppF, sLend, sAugI, asgL_nm, asgL_tp, asgL_wt, asgsL_nil, asgsL_cons, asg_nm, asg_tp, asgs_nil, asgs_cons, wipeD, mAnd, mOr, mNot, mB, mTr, m2, m1, mV, mC, mA, mCh, mAndV, mOrV, aCons, aNil, guardN, op, cl, fl, opn, clos, flt, eqD_int, neD_int, gtD, ltD, leD, geD, addD, subD, negD, tupD, lstD, tupF, lstF, outD, notD, tru, isD, isnD, isN, flat_tp, flat_in, flat_bo, flat_no, flats_nl, flats_cn,
  List.map_cons, List.map_nil, List.length_cons, List.length_nil, List.replicate, List.getElem?_cons_zero, List.getElem?_cons_succ, List.getElem?_nil, List.cons_append, List.nil_append, Option.bind_some, Option.bind_none, Option.bind_assoc, Option.map_some, Option.map_none, Nat.reduceAdd, Nat.reduceSub, Nat.reduceLeDiff, List.set_cons_zero, List.set_cons_succ, if_true, if_false, ite_true, ite_false, reduceCtorEq, Bool.false_eq_true, Bool.not_true, Bool.not_false, ↓reduceIte, eq_self, h2, h6, h7, Int.lt_irrefl, decide_false]
theorem g_walls {h : Hs} (o : Ok h) : G__need_faces [eWalls h.walls, eCells h.cells] = some .non := by
  obtain ⟨S', e, u, rfl⟩ := forM_rel (t := .nm 2) (b := sIf (mNot (mTr (mA (guardN 2 G__is_face) (aCons (mV 2) (aCons (mV 1) aNil))))) sNever sNext) eW (fun _ (_ : Unit) S => ∃ u, S = [.dat (eWalls h.walls), .dat (eCells h.cells), u]) (fun z _ => z) h.walls () [.dat (eWalls h.walls), .dat (eCells h.cells), .un] ⟨.un, rfl⟩ (by
    rintro n z S ⟨u, rfl⟩ w hw
    obtain ⟨a, b, c⟩ := o.wr w hw
    have hf := g_isface o.g a b c
    generalize eW w = W at *
    generalize eCells h.cells = C at *
    apply turn_nx
    case h =>
      simp (config := { decide := false }) only [runF, initS, sSeq, sIf, sRet, sRetN, sSet, sSetF, sSetO, sDrop, sNext, sNever, sUnp, sUnpF, sApp, sAppF, sLend, sAugI, asgL_nm, asgL_tp, asgL_wt, asgsL_nil, asgsL_cons, asg_nm, asg_tp, asgs_nil, asgs_cons, wipeD, mAnd, mOr, mNot, mB, mTr, m2, m1, mV, mC, mA, mCh, mAndV, mOrV, aCons, aNil, guardN, op, cl, fl, opn, clos, flt, eqD_int, neD_int, gtD, ltD, leD, geD, addD, subD, negD, tupD, lstD, tupF, lstF, outD, notD, tru, isD, isnD, isN, flat_tp, flat_in, flat_bo, flat_no, flats_nl, flats_cn,
  List.map_cons, List.map_nil, List.length_cons, List.length_nil, List.replicate, List.getElem?_cons_zero, List.getElem?_cons_succ, List.getElem?_nil, List.cons_append, List.nil_append, Option.bind_some, Option.bind_none, Option.bind_assoc, Option.map_some, Option.map_none, Nat.reduceAdd, Nat.reduceSub, Nat.reduceLeDiff, List.set_cons_zero, List.set_cons_succ, if_true, if_false, ite_true, ite_false, reduceCtorEq, Bool.false_eq_true, Bool.not_true, Bool.not_false, ↓reduceIte, eq_self, hf]
      rfl
    case p => exact ⟨_, rfl⟩)
  refine need_faces_eval (n := h.walls.length) (isi_tup _) (len_walls _) (by have := o.wl; omega) rfl (g_shut _ (Nat.le_trans o.wl (by decide))) ?_ e
  show some (D.int ((shutK h.walls).length : Nat)) = _
  unfold shutK
  rw [shut_len h.walls [] o.nd (fun _ _ hm => nomatch hm)]
  simp only [List.length_nil, Nat.zero_add]
theorem need_house_eval {R C W : D} (h1 : G__need_heats [R] = some .non) (h2 : G__need_cells [C] = some .non) (h3 : G__need_faces [W, C] = some .non) : G_need_house [.tup [R, C, W]] = some .non := by
  unfold G_need_house
  refine run_nx (S := [.dat (.tup [R, C, W]), .dat R, .dat C, .dat W]) ?_
  unfold mr_need_house
  have e1 : isiF [.tup [R, C, W], .raw (.ty "tuple")] = some (.bl true) := isi_tup _
  have e2 : lenA [.tup [R, C, W]] = some (.int 3) := rfl
  (apply Eq.trans; (· apply sSeq_nx; (· simp (config := { decide := false }) only [runF, initS, sSeq, sIf, sRet, sRetN, sSet, sSetF, sSetO, sDrop, sNext, sNever, sUnp, sUnpF, sApp, sAppF, sLend, sAugI, asgL_nm, asgL_tp, asgL_wt, asgsL_nil, asgsL_cons, asg_nm, asg_tp, asgs_nil, asgs_cons, wipeD, mAnd, mOr, mNot, mB, mTr, m2, m1, mV, mC, mA, mCh, mAndV, mOrV, aCons, aNil, guardN, op, cl, fl, opn, clos, flt, eqD_int, neD_int, gtD, ltD, leD, geD, addD, subD, negD, tupD, lstD, tupF, lstF, outD, notD, tru, isD, isnD, isN, flat_tp, flat_in, flat_bo, flat_no, flats_nl, flats_cn,
  List.map_cons, List.map_nil, List.length_cons, List.length_nil, List.replicate, List.getElem?_cons_zero, List.getElem?_cons_succ, List.getElem?_nil, List.cons_append, List.nil_append, Option.bind_some, Option.bind_none, Option.bind_assoc, Option.map_some, Option.map_none, Nat.reduceAdd, Nat.reduceSub, Nat.reduceLeDiff, List.set_cons_zero, List.set_cons_succ, if_true, if_false, ite_true, ite_false, reduceCtorEq, Bool.false_eq_true, Bool.not_true, Bool.not_false, ↓reduceIte, eq_self, e1, e2, beq_self_eq_true]; try rfl)))
  (apply Eq.trans; (· apply sSeq_nx; (· simp (config := { decide := false }) only [runF, initS, sSeq, sIf, sRet, sRetN, sSet, sSetF, sSetO, sDrop, sNext, sNever, sUnp, sUnpF, sApp, sAppF, sLend, sAugI, asgL_nm, asgL_tp, asgL_wt, asgsL_nil, asgsL_cons, asg_nm, asg_tp, asgs_nil, asgs_cons, wipeD, mAnd, mOr, mNot, mB, mTr, m2, m1, mV, mC, mA, mCh, mAndV, mOrV, aCons, aNil, guardN, op, cl, fl, opn, clos, flt, eqD_int, neD_int, gtD, ltD, leD, geD, addD, subD, negD, tupD, lstD, tupF, lstF, outD, notD, tru, isD, isnD, isN, flat_tp, flat_in, flat_bo, flat_no, flats_nl, flats_cn,
  List.map_cons, List.map_nil, List.length_cons, List.length_nil, List.replicate, List.getElem?_cons_zero, List.getElem?_cons_succ, List.getElem?_nil, List.cons_append, List.nil_append, Option.bind_some, Option.bind_none, Option.bind_assoc, Option.map_some, Option.map_none, Nat.reduceAdd, Nat.reduceSub, Nat.reduceLeDiff, List.set_cons_zero, List.set_cons_succ, if_true, if_false, ite_true, ite_false, reduceCtorEq, Bool.false_eq_true, Bool.not_true, Bool.not_false, ↓reduceIte, eq_self]; try rfl)))
  (apply Eq.trans; (· apply sSeq_nx; (· simp (config := { decide := false }) only [runF, initS, sSeq, sIf, sRet, sRetN, sSet, sSetF, sSetO, sDrop, sNext, sNever, sUnp, sUnpF, sApp, sAppF, sLend, sAugI, asgL_nm, asgL_tp, asgL_wt, asgsL_nil, asgsL_cons, asg_nm, asg_tp, asgs_nil, asgs_cons, wipeD, mAnd, mOr, mNot, mB, mTr, m2, m1, mV, mC, mA, mCh, mAndV, mOrV, aCons, aNil, guardN, op, cl, fl, opn, clos, flt, eqD_int, neD_int, gtD, ltD, leD, geD, addD, subD, negD, tupD, lstD, tupF, lstF, outD, notD, tru, isD, isnD, isN, flat_tp, flat_in, flat_bo, flat_no, flats_nl, flats_cn,
  List.map_cons, List.map_nil, List.length_cons, List.length_nil, List.replicate, List.getElem?_cons_zero, List.getElem?_cons_succ, List.getElem?_nil, List.cons_append, List.nil_append, Option.bind_some, Option.bind_none, Option.bind_assoc, Option.map_some, Option.map_none, Nat.reduceAdd, Nat.reduceSub, Nat.reduceLeDiff, List.set_cons_zero, List.set_cons_succ, if_true, if_false, ite_true, ite_false, reduceCtorEq, Bool.false_eq_true, Bool.not_true, Bool.not_false, ↓reduceIte, eq_self, h1]; try rfl)))
  (apply Eq.trans; (· apply sSeq_nx; (· simp (config := { decide := false }) only [runF, initS, sSeq, sIf, sRet, sRetN, sSet, sSetF, sSetO, sDrop, sNext, sNever, sUnp, sUnpF, sApp, sAppF, sLend, sAugI, asgL_nm, asgL_tp, asgL_wt, asgsL_nil, asgsL_cons, asg_nm, asg_tp, asgs_nil, asgs_cons, wipeD, mAnd, mOr, mNot, mB, mTr, m2, m1, mV, mC, mA, mCh, mAndV, mOrV, aCons, aNil, guardN, op, cl, fl, opn, clos, flt, eqD_int, neD_int, gtD, ltD, leD, geD, addD, subD, negD, tupD, lstD, tupF, lstF, outD, notD, tru, isD, isnD, isN, flat_tp, flat_in, flat_bo, flat_no, flats_nl, flats_cn,
  List.map_cons, List.map_nil, List.length_cons, List.length_nil, List.replicate, List.getElem?_cons_zero, List.getElem?_cons_succ, List.getElem?_nil, List.cons_append, List.nil_append, Option.bind_some, Option.bind_none, Option.bind_assoc, Option.map_some, Option.map_none, Nat.reduceAdd, Nat.reduceSub, Nat.reduceLeDiff, List.set_cons_zero, List.set_cons_succ, if_true, if_false, ite_true, ite_false, reduceCtorEq, Bool.false_eq_true, Bool.not_true, Bool.not_false, ↓reduceIte, eq_self, h2]; try rfl)))
  simp (config := { decide := false }) only [runF, initS, sSeq, sIf, sRet, sRetN, sSet, sSetF, sSetO, sDrop, sNext, sNever, sUnp, sUnpF, sApp, sAppF, sLend, sAugI, asgL_nm, asgL_tp, asgL_wt, asgsL_nil, asgsL_cons, asg_nm, asg_tp, asgs_nil, asgs_cons, wipeD, mAnd, mOr, mNot, mB, mTr, m2, m1, mV, mC, mA, mCh, mAndV, mOrV, aCons, aNil, guardN, op, cl, fl, opn, clos, flt, eqD_int, neD_int, gtD, ltD, leD, geD, addD, subD, negD, tupD, lstD, tupF, lstF, outD, notD, tru, isD, isnD, isN, flat_tp, flat_in, flat_bo, flat_no, flats_nl, flats_cn,
  List.map_cons, List.map_nil, List.length_cons, List.length_nil, List.replicate, List.getElem?_cons_zero, List.getElem?_cons_succ, List.getElem?_nil, List.cons_append, List.nil_append, Option.bind_some, Option.bind_none, Option.bind_assoc, Option.map_some, Option.map_none, Nat.reduceAdd, Nat.reduceSub, Nat.reduceLeDiff, List.set_cons_zero, List.set_cons_succ, if_true, if_false, ite_true, ite_false, reduceCtorEq, Bool.false_eq_true, Bool.not_true, Bool.not_false, ↓reduceIte, eq_self, h3]
theorem g_house {h : Hs} (o : Ok h) : G_need_house [eH h] = some .non := need_house_eval (g_heats o.hh) (g_cells o.g o.nn) (g_walls o)
end Ice

namespace Ice
open PySem PySem.Spec PyProof.Rows L2
/-! ### the law's own words -/
def off1 (s : Int) : Int × Int := if s = 0 then (-1, 0) else if s = 1 then (0, 1) else if s = 2 then (1, 0) else (0, -1)
theorem side4 {s : Int} (h0 : 0 ≤ s) (h3 : s ≤ 3) : s = 0 ∨ s = 1 ∨ s = 2 ∨ s = 3 := by omega
theorem l_beside {r c s : Int} (h0 : 0 ≤ s) (h3 : s ≤ 3) : G__law_beside [.int r, .int c, .int s] = some (.tup [.int (r + (off1 s).1), .int (c + (off1 s).2)]) := by
  rcases side4 h0 h3 with rfl | rfl | rfl | rfl <;> rfl
theorem l_is_cell {cs : List (List Int)} (g : Gr cs) (r c : Int) : G__law_is_cell [eCells cs, .int r, .int c] = some (.bl (inG cs r c)) := by
  unfold G__law_is_cell mr__law_is_cell inG
  have hz := g.zero
  by_cases h1 : 0 ≤ r <;> by_cases h2 : r < cs.length <;> by_cases h3 : 0 ≤ c <;> by_cases h4 : c < wide cs <;>
    simp (config := { decide := false }) only [runF, initS, sSeq, sIf, sRet, sRetN, sSet, sSetF, sSetO, sDrop, sNext, sNever, sUnp, sUnpF, sApp, sAppF, sLend, sAugI, asgL_nm, asgL_tp, asgL_wt, asgsL_nil, asgsL_cons, asg_nm, asg_tp, asgs_nil, asgs_cons, wipeD, mAnd, mOr, mNot, mB, mTr, m2, m1, mV, mC, mA, mCh, mAndV, mOrV, aCons, aNil, guardN, op, cl, fl, opn, clos, flt, eqD_int, neD_int, gtD, ltD, leD, geD, addD, subD, negD, tupD, lstD, tupF, lstF, outD, notD, tru, isD, isnD, isN, flat_tp, flat_in, flat_bo, flat_no, flats_nl, flats_cn,
  List.map_cons, List.map_nil, List.length_cons, List.length_nil, List.replicate, List.getElem?_cons_zero, List.getElem?_cons_succ, List.getElem?_nil, List.cons_append, List.nil_append, Option.bind_some, Option.bind_none, Option.bind_assoc, Option.map_some, Option.map_none, Nat.reduceAdd, Nat.reduceSub, Nat.reduceLeDiff, List.set_cons_zero, List.set_cons_succ, if_true, if_false, ite_true, ite_false, reduceCtorEq, Bool.false_eq_true, Bool.not_true, Bool.not_false, ↓reduceIte, eq_self, len_cells, len_row, hz, h1, h2, h3, h4, decide_true, decide_false, Bool.and_true, Bool.and_false, Bool.true_and, Bool.false_and, and_true, and_false, true_and, false_and] <;> (try (unfold wide at h4; simp only [h4, decide_true, decide_false]))
theorem face_eval {C : D} {a b s x y : Int} {t : Bool} (hb : G__law_beside [.int a, .int b, .int s] = some (.tup [.int x, .int y])) (hc : G__law_is_cell [C, .int x, .int y] = some (.bl t)) :
    G__law_face [C, .tup [.int a, .int b, .int s]] = some (if s % 3 = 0 ∧ t = true then .tup [.int x, .int y, .int ((s + 2) % 4)] else .tup [.int a, .int b, .int s]) := by
  have i0 : ixD (.tup [.int x, .int y]) (.int 0) = some (.int x) := rfl
  have i1 : ixD (.tup [.int x, .int y]) (.int 1) = some (.int y) := rfl
  unfold G__law_face mr__law_face
  unfold runF
  have e : ∀ (S1 : Sl) (o : Out), outD o = some (if s % 3 = 0 ∧ t = true then .tup [.int x, .int y, .int ((s + 2) % 4)] else .tup [.int a, .int b, .int s]) → (some o : Option Out).bind outD = some (if s % 3 = 0 ∧ t = true then .tup [.int x, .int y, .int ((s + 2) % 4)] else .tup [.int a, .int b, .int s]) := fun _ o h => h
  by_cases h1 : s % 3 = 0
  · cases t with
    | true =>
      rw [if_pos ⟨h1, rfl⟩]
      refine run_rt (n := 6) (S := [.dat C, .dat (.tup [.int a, .int b, .int s]), .dat (.int a), .dat (.int b), .dat (.int s), .dat (.tup [.int x, .int y])]) ?_
      (apply Eq.trans; (· apply sSeq_nx; (· simp (config := { decide := false }) only [runF, initS, sSeq, sIf, sRet, sRetN, sSet, sSetF, sSetO, sDrop, sNext, sNever, sUnp, sUnpF, sApp, sAppF, sLend, sAugI, asgL_nm, asgL_tp, asgL_wt, asgsL_nil, asgsL_cons, asg_nm, asg_tp, asgs_nil, asgs_cons, wipeD, mAnd, mOr, mNot, mB, mTr, m2, m1, mV, mC, mA, mCh, mAndV, mOrV, aCons, aNil, guardN, op, cl, fl, opn, clos, flt, eqD_int, neD_int, gtD, ltD, leD, geD, addD, subD, negD, tupD, lstD, tupF, lstF, outD, notD, tru, isD, isnD, isN, flat_tp, flat_in, flat_bo, flat_no, flats_nl, flats_cn,
  List.map_cons, List.map_nil, List.length_cons, List.length_nil, List.replicate, List.getElem?_cons_zero, List.getElem?_cons_succ, List.getElem?_nil, List.cons_append, List.nil_append, Option.bind_some, Option.bind_none, Option.bind_assoc, Option.map_some, Option.map_none, Nat.reduceAdd, Nat.reduceSub, Nat.reduceLeDiff, List.set_cons_zero, List.set_cons_succ, if_true, if_false, ite_true, ite_false, reduceCtorEq, Bool.false_eq_true, Bool.not_true, Bool.not_false, ↓reduceIte, eq_self]; try rfl)))
      (apply Eq.trans; (· apply sSeq_nx; (· simp (config := { decide := false }) only [runF, initS, sSeq, sIf, sRet, sRetN, sSet, sSetF, sSetO, sDrop, sNext, sNever, sUnp, sUnpF, sApp, sAppF, sLend, sAugI, asgL_nm, asgL_tp, asgL_wt, asgsL_nil, asgsL_cons, asg_nm, asg_tp, asgs_nil, asgs_cons, wipeD, mAnd, mOr, mNot, mB, mTr, m2, m1, mV, mC, mA, mCh, mAndV, mOrV, aCons, aNil, guardN, op, cl, fl, opn, clos, flt, eqD_int, neD_int, gtD, ltD, leD, geD, addD, subD, negD, tupD, lstD, tupF, lstF, outD, notD, tru, isD, isnD, isN, flat_tp, flat_in, flat_bo, flat_no, flats_nl, flats_cn,
  List.map_cons, List.map_nil, List.length_cons, List.length_nil, List.replicate, List.getElem?_cons_zero, List.getElem?_cons_succ, List.getElem?_nil, List.cons_append, List.nil_append, Option.bind_some, Option.bind_none, Option.bind_assoc, Option.map_some, Option.map_none, Nat.reduceAdd, Nat.reduceSub, Nat.reduceLeDiff, List.set_cons_zero, List.set_cons_succ, if_true, if_false, ite_true, ite_false, reduceCtorEq, Bool.false_eq_true, Bool.not_true, Bool.not_false, ↓reduceIte, eq_self, hb]; try rfl)))
      apply sSeq_rt
      simp (config := { decide := false }) only [runF, initS, sSeq, sIf, sRet, sRetN, sSet, sSetF, sSetO, sDrop, sNext, sNever, sUnp, sUnpF, sApp, sAppF, sLend, sAugI, asgL_nm, asgL_tp, asgL_wt, asgsL_nil, asgsL_cons, asg_nm, asg_tp, asgs_nil, asgs_cons, wipeD, mAnd, mOr, mNot, mB, mTr, m2, m1, mV, mC, mA, mCh, mAndV, mOrV, aCons, aNil, guardN, op, cl, fl, opn, clos, flt, eqD_int, neD_int, gtD, ltD, leD, geD, addD, subD, negD, tupD, lstD, tupF, lstF, outD, notD, tru, isD, isnD, isN, flat_tp, flat_in, flat_bo, flat_no, flats_nl, flats_cn,
  List.map_cons, List.map_nil, List.length_cons, List.length_nil, List.replicate, List.getElem?_cons_zero, List.getElem?_cons_succ, List.getElem?_nil, List.cons_append, List.nil_append, Option.bind_some, Option.bind_none, Option.bind_assoc, Option.map_some, Option.map_none, Nat.reduceAdd, Nat.reduceSub, Nat.reduceLeDiff, List.set_cons_zero, List.set_cons_succ, if_true, if_false, ite_true, ite_false, reduceCtorEq, Bool.false_eq_true, Bool.not_true, Bool.not_false, ↓reduceIte, eq_self, modD, h1, Int.reduceLT, beq_self_eq_true, i0, i1, hc]
    | false =>
      rw [if_neg (fun h => Bool.false_ne_true h.2)]
      refine run_rt (n := 6) (S := [.dat C, .dat (.tup [.int a, .int b, .int s]), .dat (.int a), .dat (.int b), .dat (.int s), .dat (.tup [.int x, .int y])]) ?_
      (apply Eq.trans; (· apply sSeq_nx; (· simp (config := { decide := false }) only [runF, initS, sSeq, sIf, sRet, sRetN, sSet, sSetF, sSetO, sDrop, sNext, sNever, sUnp, sUnpF, sApp, sAppF, sLend, sAugI, asgL_nm, asgL_tp, asgL_wt, asgsL_nil, asgsL_cons, asg_nm, asg_tp, asgs_nil, asgs_cons, wipeD, mAnd, mOr, mNot, mB, mTr, m2, m1, mV, mC, mA, mCh, mAndV, mOrV, aCons, aNil, guardN, op, cl, fl, opn, clos, flt, eqD_int, neD_int, gtD, ltD, leD, geD, addD, subD, negD, tupD, lstD, tupF, lstF, outD, notD, tru, isD, isnD, isN, flat_tp, flat_in, flat_bo, flat_no, flats_nl, flats_cn,
  List.map_cons, List.map_nil, List.length_cons, List.length_nil, List.replicate, List.getElem?_cons_zero, List.getElem?_cons_succ, List.getElem?_nil, List.cons_append, List.nil_append, Option.bind_some, Option.bind_none, Option.bind_assoc, Option.map_some, Option.map_none, Nat.reduceAdd, Nat.reduceSub, Nat.reduceLeDiff, List.set_cons_zero, List.set_cons_succ, if_true, if_false, ite_true, ite_false, reduceCtorEq, Bool.false_eq_true, Bool.not_true, Bool.not_false, ↓reduceIte, eq_self]; try rfl)))
      (apply Eq.trans; (· apply sSeq_nx; (· simp (config := { decide := false }) only [runF, initS, sSeq, sIf, sRet, sRetN, sSet, sSetF, sSetO, sDrop, sNext, sNever, sUnp, sUnpF, sApp, sAppF, sLend, sAugI, asgL_nm, asgL_tp, asgL_wt, asgsL_nil, asgsL_cons, asg_nm, asg_tp, asgs_nil, asgs_cons, wipeD, mAnd, mOr, mNot, mB, mTr, m2, m1, mV, mC, mA, mCh, mAndV, mOrV, aCons, aNil, guardN, op, cl, fl, opn, clos, flt, eqD_int, neD_int, gtD, ltD, leD, geD, addD, subD, negD, tupD, lstD, tupF, lstF, outD, notD, tru, isD, isnD, isN, flat_tp, flat_in, flat_bo, flat_no, flats_nl, flats_cn,
  List.map_cons, List.map_nil, List.length_cons, List.length_nil, List.replicate, List.getElem?_cons_zero, List.getElem?_cons_succ, List.getElem?_nil, List.cons_append, List.nil_append, Option.bind_some, Option.bind_none, Option.bind_assoc, Option.map_some, Option.map_none, Nat.reduceAdd, Nat.reduceSub, Nat.reduceLeDiff, List.set_cons_zero, List.set_cons_succ, if_true, if_false, ite_true, ite_false, reduceCtorEq, Bool.false_eq_true, Bool.not_true, Bool.not_false, ↓reduceIte, eq_self, hb]; try rfl)))
      (apply Eq.trans; (· apply sSeq_nx; (· simp (config := { decide := false }) only [runF, initS, sSeq, sIf, sRet, sRetN, sSet, sSetF, sSetO, sDrop, sNext, sNever, sUnp, sUnpF, sApp, sAppF, sLend, sAugI, asgL_nm, asgL_tp, asgL_wt, asgsL_nil, asgsL_cons, asg_nm, asg_tp, asgs_nil, asgs_cons, wipeD, mAnd, mOr, mNot, mB, mTr, m2, m1, mV, mC, mA, mCh, mAndV, mOrV, aCons, aNil, guardN, op, cl, fl, opn, clos, flt, eqD_int, neD_int, gtD, ltD, leD, geD, addD, subD, negD, tupD, lstD, tupF, lstF, outD, notD, tru, isD, isnD, isN, flat_tp, flat_in, flat_bo, flat_no, flats_nl, flats_cn,
  List.map_cons, List.map_nil, List.length_cons, List.length_nil, List.replicate, List.getElem?_cons_zero, List.getElem?_cons_succ, List.getElem?_nil, List.cons_append, List.nil_append, Option.bind_some, Option.bind_none, Option.bind_assoc, Option.map_some, Option.map_none, Nat.reduceAdd, Nat.reduceSub, Nat.reduceLeDiff, List.set_cons_zero, List.set_cons_succ, if_true, if_false, ite_true, ite_false, reduceCtorEq, Bool.false_eq_true, Bool.not_true, Bool.not_false, ↓reduceIte, eq_self, modD, h1, Int.reduceLT, beq_self_eq_true, i0, i1, hc]; try rfl)))
      simp (config := { decide := false }) only [runF, initS, sSeq, sIf, sRet, sRetN, sSet, sSetF, sSetO, sDrop, sNext, sNever, sUnp, sUnpF, sApp, sAppF, sLend, sAugI, asgL_nm, asgL_tp, asgL_wt, asgsL_nil, asgsL_cons, asg_nm, asg_tp, asgs_nil, asgs_cons, wipeD, mAnd, mOr, mNot, mB, mTr, m2, m1, mV, mC, mA, mCh, mAndV, mOrV, aCons, aNil, guardN, op, cl, fl, opn, clos, flt, eqD_int, neD_int, gtD, ltD, leD, geD, addD, subD, negD, tupD, lstD, tupF, lstF, outD, notD, tru, isD, isnD, isN, flat_tp, flat_in, flat_bo, flat_no, flats_nl, flats_cn,
  List.map_cons, List.map_nil, List.length_cons, List.length_nil, List.replicate, List.getElem?_cons_zero, List.getElem?_cons_succ, List.getElem?_nil, List.cons_append, List.nil_append, Option.bind_some, Option.bind_none, Option.bind_assoc, Option.map_some, Option.map_none, Nat.reduceAdd, Nat.reduceSub, Nat.reduceLeDiff, List.set_cons_zero, List.set_cons_succ, if_true, if_false, ite_true, ite_false, reduceCtorEq, Bool.false_eq_true, Bool.not_true, Bool.not_false, ↓reduceIte, eq_self]
  · rw [if_neg (fun h => h1 h.1)]
    refine run_rt (n := 6) (S := [.dat C, .dat (.tup [.int a, .int b, .int s]), .dat (.int a), .dat (.int b), .dat (.int s), .dat (.tup [.int x, .int y])]) ?_
    have hb1 : (s % 3 == 0) = false := beq_eq_false_iff_ne.mpr h1
    (apply Eq.trans; (· apply sSeq_nx; (· simp (config := { decide := false }) only [runF, initS, sSeq, sIf, sRet, sRetN, sSet, sSetF, sSetO, sDrop, sNext, sNever, sUnp, sUnpF, sApp, sAppF, sLend, sAugI, asgL_nm, asgL_tp, asgL_wt, asgsL_nil, asgsL_cons, asg_nm, asg_tp, asgs_nil, asgs_cons, wipeD, mAnd, mOr, mNot, mB, mTr, m2, m1, mV, mC, mA, mCh, mAndV, mOrV, aCons, aNil, guardN, op, cl, fl, opn, clos, flt, eqD_int, neD_int, gtD, ltD, leD, geD, addD, subD, negD, tupD, lstD, tupF, lstF, outD, notD, tru, isD, isnD, isN, flat_tp, flat_in, flat_bo, flat_no, flats_nl, flats_cn,
  List.map_cons, List.map_nil, List.length_cons, List.length_nil, List.replicate, List.getElem?_cons_zero, List.getElem?_cons_succ, List.getElem?_nil, List.cons_append, List.nil_append, Option.bind_some, Option.bind_none, Option.bind_assoc, Option.map_some, Option.map_none, Nat.reduceAdd, Nat.reduceSub, Nat.reduceLeDiff, List.set_cons_zero, List.set_cons_succ, if_true, if_false, ite_true, ite_false, reduceCtorEq, Bool.false_eq_true, Bool.not_true, Bool.not_false, ↓reduceIte, eq_self]; try rfl)))
    (apply Eq.trans; (· apply sSeq_nx; (· simp (config := { decide := false }) only [runF, initS, sSeq, sIf, sRet, sRetN, sSet, sSetF, sSetO, sDrop, sNext, sNever, sUnp, sUnpF, sApp, sAppF, sLend, sAugI, asgL_nm, asgL_tp, asgL_wt, asgsL_nil, asgsL_cons, asg_nm, asg_tp, asgs_nil, asgs_cons, wipeD, mAnd, mOr, mNot, mB, mTr, m2, m1, mV, mC, mA, mCh, mAndV, mOrV, aCons, aNil, guardN, op, cl, fl, opn, clos, flt, eqD_int, neD_int, gtD, ltD, leD, geD, addD, subD, negD, tupD, lstD, tupF, lstF, outD, notD, tru, isD, isnD, isN, flat_tp, flat_in, flat_bo, flat_no, flats_nl, flats_cn,
  List.map_cons, List.map_nil, List.length_cons, List.length_nil, List.replicate, List.getElem?_cons_zero, List.getElem?_cons_succ, List.getElem?_nil, List.cons_append, List.nil_append, Option.bind_some, Option.bind_none, Option.bind_assoc, Option.map_some, Option.map_none, Nat.reduceAdd, Nat.reduceSub, Nat.reduceLeDiff, List.set_cons_zero, List.set_cons_succ, if_true, if_false, ite_true, ite_false, reduceCtorEq, Bool.false_eq_true, Bool.not_true, Bool.not_false, ↓reduceIte, eq_self, hb]; try rfl)))
    (apply Eq.trans; (· apply sSeq_nx; (· simp (config := { decide := false }) only [runF, initS, sSeq, sIf, sRet, sRetN, sSet, sSetF, sSetO, sDrop, sNext, sNever, sUnp, sUnpF, sApp, sAppF, sLend, sAugI, asgL_nm, asgL_tp, asgL_wt, asgsL_nil, asgsL_cons, asg_nm, asg_tp, asgs_nil, asgs_cons, wipeD, mAnd, mOr, mNot, mB, mTr, m2, m1, mV, mC, mA, mCh, mAndV, mOrV, aCons, aNil, guardN, op, cl, fl, opn, clos, flt, eqD_int, neD_int, gtD, ltD, leD, geD, addD, subD, negD, tupD, lstD, tupF, lstF, outD, notD, tru, isD, isnD, isN, flat_tp, flat_in, flat_bo, flat_no, flats_nl, flats_cn,
  List.map_cons, List.map_nil, List.length_cons, List.length_nil, List.replicate, List.getElem?_cons_zero, List.getElem?_cons_succ, List.getElem?_nil, List.cons_append, List.nil_append, Option.bind_some, Option.bind_none, Option.bind_assoc, Option.map_some, Option.map_none, Nat.reduceAdd, Nat.reduceSub, Nat.reduceLeDiff, List.set_cons_zero, List.set_cons_succ, if_true, if_false, ite_true, ite_false, reduceCtorEq, Bool.false_eq_true, Bool.not_true, Bool.not_false, ↓reduceIte, eq_self, modD, hb1, Int.reduceLT]; try rfl)))
    simp (config := { decide := false }) only [runF, initS, sSeq, sIf, sRet, sRetN, sSet, sSetF, sSetO, sDrop, sNext, sNever, sUnp, sUnpF, sApp, sAppF, sLend, sAugI, asgL_nm, asgL_tp, asgL_wt, asgsL_nil, asgsL_cons, asg_nm, asg_tp, asgs_nil, asgs_cons, wipeD, mAnd, mOr, mNot, mB, mTr, m2, m1, mV, mC, mA, mCh, mAndV, mOrV, aCons, aNil, guardN, op, cl, fl, opn, clos, flt, eqD_int, neD_int, gtD, ltD, leD, geD, addD, subD, negD, tupD, lstD, tupF, lstF, outD, notD, tru, isD, isnD, isN, flat_tp, flat_in, flat_bo, flat_no, flats_nl, flats_cn,
  List.map_cons, List.map_nil, List.length_cons, List.length_nil, List.replicate, List.getElem?_cons_zero, List.getElem?_cons_succ, List.getElem?_nil, List.cons_append, List.nil_append, Option.bind_some, Option.bind_none, Option.bind_assoc, Option.map_some, Option.map_none, Nat.reduceAdd, Nat.reduceSub, Nat.reduceLeDiff, List.set_cons_zero, List.set_cons_succ, if_true, if_false, ite_true, ite_false, reduceCtorEq, Bool.false_eq_true, Bool.not_true, Bool.not_false, ↓reduceIte, eq_self]
theorem inG_iff {cs : List (List Int)} {r c : Int} : inG cs r c = true ↔ (0 ≤ r ∧ r < cs.length) ∧ (0 ≤ c ∧ c < wide cs) := by
  unfold inG
  rw [Bool.and_eq_true, decide_eq_true_iff, decide_eq_true_iff]
theorem l_face {cs : List (List Int)} (g : Gr cs) {w : Int × Int × Int} (hc : inG cs w.1 w.2.1 = true) (h0 : 0 ≤ w.2.2) (h3 : w.2.2 ≤ 3) : G__law_face [eCells cs, eW w] = some (eW (face w)) := by
  obtain ⟨r, c, s⟩ := w
  have hc : inG cs r c = true := hc
  have h0 : 0 ≤ s := h0
  have h3 : s ≤ 3 := h3
  refine (face_eval (l_beside h0 h3) (l_is_cell g _ _)).trans ?_
  rw [inG_iff] at hc
  unfold face eW
  simp only [inG_iff]
  rcases side4 h0 h3 with rfl | rfl | rfl | rfl
  · by_cases hr : 0 < r
    · rw [if_pos ⟨by decide, by show (0 ≤ r + -1 ∧ r + -1 < cs.length) ∧ (0 ≤ c + 0 ∧ c + 0 < wide cs); omega⟩, if_pos ⟨rfl, hr⟩]
      show some (D.tup [.int (r + -1), .int (c + 0), .int 2]) = some (D.tup [.int (r - 1), .int c, .int 2])
      rw [Int.add_zero]
      rfl
    · rw [if_neg (fun h => by have : (0 ≤ r + -1 ∧ r + -1 < cs.length) ∧ (0 ≤ c + 0 ∧ c + 0 < wide cs) := h.2; omega), if_neg (fun h => hr h.2), if_neg (fun h => absurd h.1 (by decide))]
  · rw [if_neg (fun h => absurd h.1 (by decide)), if_neg (fun h => absurd h.1 (by decide)), if_neg (fun h => absurd h.1 (by decide))]
  · rw [if_neg (fun h => absurd h.1 (by decide)), if_neg (fun h => absurd h.1 (by decide)), if_neg (fun h => absurd h.1 (by decide))]
  · by_cases hr : 0 < c
    · rw [if_pos ⟨by decide, by show (0 ≤ r + 0 ∧ r + 0 < cs.length) ∧ (0 ≤ c + -1 ∧ c + -1 < wide cs); omega⟩, if_neg (fun h => absurd h.1 (by decide)), if_pos ⟨rfl, hr⟩]
      show some (D.tup [.int (r + 0), .int (c + -1), .int 1]) = some (D.tup [.int r, .int (c - 1), .int 1])
      rw [Int.add_zero]
      rfl
    · rw [if_neg (fun h => by have : (0 ≤ r + 0 ∧ r + 0 < cs.length) ∧ (0 ≤ c + -1 ∧ c + -1 < wide cs) := h.2; omega), if_neg (fun h => absurd h.1 (by decide)), if_neg (fun h => hr h.2)]
end Ice

namespace Ice
open PySem PySem.Spec PyProof.Rows L2
/-! ### dice -/
theorem runX_rt {n : Nat} {m : Ms} {ds as es : List D} {d : D} {S : Sl} (h : m (initX n ds as) = some (.rt d (.din es :: S))) (f1 : flat d = true) (f2 : flats es = true) : runX n m ds as = some (d, es) := by
  unfold runX
  rw [h]
  show endX d (.din es :: S) = _
  unfold endX
  simp only [List.head?_cons, f1, f2, and_self, if_true]
theorem roll_hi {a b m : Int} (hb : 0 < b) (h0 : 0 < m) (h1 : m < 1073741824) : G__law_roll [.int a, .int b] [.int m] = some (.int (b % m), [.int a, .int (b / m)]) := by
  unfold G__law_roll
  refine runX_rt (S := [.dat (.int m), .dat (.int (b % m))]) ?_ rfl rfl
  unfold mr__law_roll
  have i1 : ixD (.lst [.int a, .int b]) (.int 1) = some (.int b) := rfl
  apply sSeq_rt
  have c : mB (m2 gtD (m2 ixD (mV 0) (mC (.int 1))) (mC (.int 0))) (op (initX 3 [.int a, .int b] [.int m])) = some true := by
    unfold initX
    simp (config := { decide := false }) only [runF, initS, sSeq, sIf, sRet, sRetN, sSet, sSetF, sSetO, sDrop, sNext, sNever, sUnp, sUnpF, sApp, sAppF, sLend, sAugI, asgL_nm, asgL_tp, asgL_wt, asgsL_nil, asgsL_cons, asg_nm, asg_tp, asgs_nil, asgs_cons, wipeD, mAnd, mOr, mNot, mB, mTr, m2, m1, mV, mC, mA, mCh, mAndV, mOrV, aCons, aNil, guardN, op, cl, fl, opn, clos, flt, eqD_int, neD_int, gtD, ltD, leD, geD, addD, subD, negD, tupD, lstD, tupF, lstF, outD, notD, tru, isD, isnD, isN, flat_tp, flat_in, flat_bo, flat_no, flats_nl, flats_cn,
  List.map_cons, List.map_nil, List.length_cons, List.length_nil, List.replicate, List.getElem?_cons_zero, List.getElem?_cons_succ, List.getElem?_nil, List.cons_append, List.nil_append, Option.bind_some, Option.bind_none, Option.bind_assoc, Option.map_some, Option.map_none, Nat.reduceAdd, Nat.reduceSub, Nat.reduceLeDiff, List.set_cons_zero, List.set_cons_succ, if_true, if_false, ite_true, ite_false, reduceCtorEq, Bool.false_eq_true, Bool.not_true, Bool.not_false, ↓reduceIte, eq_self, i1, decide_eq_true hb]
  unfold sIf
  rw [c]
  simp only [Option.bind_some, if_true]
  apply Eq.trans
  · apply sSeq_nx (S1 := [.din [.int a, .int b], .dat (.int m), .dat (.int (b % m))])
    unfold initX
    simp (config := { decide := false }) only [runF, initS, sSeq, sIf, sRet, sRetN, sSet, sSetF, sSetO, sDrop, sNext, sNever, sUnp, sUnpF, sApp, sAppF, sLend, sAugI, asgL_nm, asgL_tp, asgL_wt, asgsL_nil, asgsL_cons, asg_nm, asg_tp, asgs_nil, asgs_cons, wipeD, mAnd, mOr, mNot, mB, mTr, m2, m1, mV, mC, mA, mCh, mAndV, mOrV, aCons, aNil, guardN, op, cl, fl, opn, clos, flt, eqD_int, neD_int, gtD, ltD, leD, geD, addD, subD, negD, tupD, lstD, tupF, lstF, outD, notD, tru, isD, isnD, isN, flat_tp, flat_in, flat_bo, flat_no, flats_nl, flats_cn,
  List.map_cons, List.map_nil, List.length_cons, List.length_nil, List.replicate, List.getElem?_cons_zero, List.getElem?_cons_succ, List.getElem?_nil, List.cons_append, List.nil_append, Option.bind_some, Option.bind_none, Option.bind_assoc, Option.map_some, Option.map_none, Nat.reduceAdd, Nat.reduceSub, Nat.reduceLeDiff, List.set_cons_zero, List.set_cons_succ, if_true, if_false, ite_true, ite_false, reduceCtorEq, Bool.false_eq_true, Bool.not_true, Bool.not_false, ↓reduceIte, eq_self, i1, modD, h0]
  apply Eq.trans
  · apply sSeq_nx (S1 := [.din [.int a, .int (b / m)], .dat (.int m), .dat (.int (b % m))])
    have e : m2 divD (m2 ixD (mV 0) (mC (.int 1))) (mV 1) (op [.din [.int a, .int b], .dat (.int m), .dat (.int (b % m))]) = some (.int (b / m)) := by
      simp (config := { decide := false }) only [runF, initS, sSeq, sIf, sRet, sRetN, sSet, sSetF, sSetO, sDrop, sNext, sNever, sUnp, sUnpF, sApp, sAppF, sLend, sAugI, asgL_nm, asgL_tp, asgL_wt, asgsL_nil, asgsL_cons, asg_nm, asg_tp, asgs_nil, asgs_cons, wipeD, mAnd, mOr, mNot, mB, mTr, m2, m1, mV, mC, mA, mCh, mAndV, mOrV, aCons, aNil, guardN, op, cl, fl, opn, clos, flt, eqD_int, neD_int, gtD, ltD, leD, geD, addD, subD, negD, tupD, lstD, tupF, lstF, outD, notD, tru, isD, isnD, isN, flat_tp, flat_in, flat_bo, flat_no, flats_nl, flats_cn,
  List.map_cons, List.map_nil, List.length_cons, List.length_nil, List.replicate, List.getElem?_cons_zero, List.getElem?_cons_succ, List.getElem?_nil, List.cons_append, List.nil_append, Option.bind_some, Option.bind_none, Option.bind_assoc, Option.map_some, Option.map_none, Nat.reduceAdd, Nat.reduceSub, Nat.reduceLeDiff, List.set_cons_zero, List.set_cons_succ, if_true, if_false, ite_true, ite_false, reduceCtorEq, Bool.false_eq_true, Bool.not_true, Bool.not_false, ↓reduceIte, eq_self, i1, divD]
      rw [if_pos ⟨h0, h1⟩]
    unfold ySub
    rw [e]
    rfl
  simp (config := { decide := false }) only [runF, initS, sSeq, sIf, sRet, sRetN, sSet, sSetF, sSetO, sDrop, sNext, sNever, sUnp, sUnpF, sApp, sAppF, sLend, sAugI, asgL_nm, asgL_tp, asgL_wt, asgsL_nil, asgsL_cons, asg_nm, asg_tp, asgs_nil, asgs_cons, wipeD, mAnd, mOr, mNot, mB, mTr, m2, m1, mV, mC, mA, mCh, mAndV, mOrV, aCons, aNil, guardN, op, cl, fl, opn, clos, flt, eqD_int, neD_int, gtD, ltD, leD, geD, addD, subD, negD, tupD, lstD, tupF, lstF, outD, notD, tru, isD, isnD, isN, flat_tp, flat_in, flat_bo, flat_no, flats_nl, flats_cn,
  List.map_cons, List.map_nil, List.length_cons, List.length_nil, List.replicate, List.getElem?_cons_zero, List.getElem?_cons_succ, List.getElem?_nil, List.cons_append, List.nil_append, Option.bind_some, Option.bind_none, Option.bind_assoc, Option.map_some, Option.map_none, Nat.reduceAdd, Nat.reduceSub, Nat.reduceLeDiff, List.set_cons_zero, List.set_cons_succ, if_true, if_false, ite_true, ite_false, reduceCtorEq, Bool.false_eq_true, Bool.not_true, Bool.not_false, ↓reduceIte, eq_self]
theorem roll_lo {a b m : Int} (hb : ¬ 0 < b) (h0 : 0 < m) : G__law_roll [.int a, .int b] [.int m] = some (.int ((a * 48271 + 11) % 2147483647 / 7 % m), [.int ((a * 48271 + 11) % 2147483647), .int b]) := by
  unfold G__law_roll
  refine runX_rt (S := [.dat (.int m), .un]) ?_ rfl rfl
  unfold mr__law_roll
  have i0 : ixD (.lst [.int a, .int b]) (.int 0) = some (.int a) := rfl
  have i1 : ixD (.lst [.int a, .int b]) (.int 1) = some (.int b) := rfl
  have i2 : ∀ x : Int, ixD (.lst [.int x, .int b]) (.int 0) = some (.int x) := fun _ => rfl
  have c : mB (m2 gtD (m2 ixD (mV 0) (mC (.int 1))) (mC (.int 0))) (op (initX 3 [.int a, .int b] [.int m])) = some false := by
    unfold initX
    simp (config := { decide := false }) only [runF, initS, sSeq, sIf, sRet, sRetN, sSet, sSetF, sSetO, sDrop, sNext, sNever, sUnp, sUnpF, sApp, sAppF, sLend, sAugI, asgL_nm, asgL_tp, asgL_wt, asgsL_nil, asgsL_cons, asg_nm, asg_tp, asgs_nil, asgs_cons, wipeD, mAnd, mOr, mNot, mB, mTr, m2, m1, mV, mC, mA, mCh, mAndV, mOrV, aCons, aNil, guardN, op, cl, fl, opn, clos, flt, eqD_int, neD_int, gtD, ltD, leD, geD, addD, subD, negD, tupD, lstD, tupF, lstF, outD, notD, tru, isD, isnD, isN, flat_tp, flat_in, flat_bo, flat_no, flats_nl, flats_cn,
  List.map_cons, List.map_nil, List.length_cons, List.length_nil, List.replicate, List.getElem?_cons_zero, List.getElem?_cons_succ, List.getElem?_nil, List.cons_append, List.nil_append, Option.bind_some, Option.bind_none, Option.bind_assoc, Option.map_some, Option.map_none, Nat.reduceAdd, Nat.reduceSub, Nat.reduceLeDiff, List.set_cons_zero, List.set_cons_succ, if_true, if_false, ite_true, ite_false, reduceCtorEq, Bool.false_eq_true, Bool.not_true, Bool.not_false, ↓reduceIte, eq_self, i1, decide_eq_false hb]
  apply Eq.trans
  · apply sSeq_nx (S1 := [.din [.int a, .int b], .dat (.int m), .un])
    unfold sIf
    rw [c]
    rfl
  apply Eq.trans
  · apply sSeq_nx (S1 := [.din [.int ((a * 48271 + 11) % 2147483647), .int b], .dat (.int m), .un])
    have e : m2 modD (m2 addD (m2 mulD (m2 ixD (mV 0) (mC (.int 0))) (mC (.int 48271))) (mC (.int 11))) (mC (.int 2147483647)) (op [.din [.int a, .int b], .dat (.int m), .un]) = some (.int ((a * 48271 + 11) % 2147483647)) := by
      have em : mulD (.int a) (.int 48271) = some (.int (a * 48271)) := by
        unfold mulD
        exact if_pos (.inr (by omega))
      have eo : ∀ x : Int, modD (.int x) (.int 2147483647) = some (.int (x % 2147483647)) := fun x => by
        unfold modD
        exact if_pos (by omega)
      simp (config := { decide := false }) only [runF, initS, sSeq, sIf, sRet, sRetN, sSet, sSetF, sSetO, sDrop, sNext, sNever, sUnp, sUnpF, sApp, sAppF, sLend, sAugI, asgL_nm, asgL_tp, asgL_wt, asgsL_nil, asgsL_cons, asg_nm, asg_tp, asgs_nil, asgs_cons, wipeD, mAnd, mOr, mNot, mB, mTr, m2, m1, mV, mC, mA, mCh, mAndV, mOrV, aCons, aNil, guardN, op, cl, fl, opn, clos, flt, eqD_int, neD_int, gtD, ltD, leD, geD, addD, subD, negD, tupD, lstD, tupF, lstF, outD, notD, tru, isD, isnD, isN, flat_tp, flat_in, flat_bo, flat_no, flats_nl, flats_cn,
  List.map_cons, List.map_nil, List.length_cons, List.length_nil, List.replicate, List.getElem?_cons_zero, List.getElem?_cons_succ, List.getElem?_nil, List.cons_append, List.nil_append, Option.bind_some, Option.bind_none, Option.bind_assoc, Option.map_some, Option.map_none, Nat.reduceAdd, Nat.reduceSub, Nat.reduceLeDiff, List.set_cons_zero, List.set_cons_succ, if_true, if_false, ite_true, ite_false, reduceCtorEq, Bool.false_eq_true, Bool.not_true, Bool.not_false, ↓reduceIte, eq_self, i0, em, eo]
    unfold ySub
    rw [e]
    rfl
  have ed : ∀ x : Int, divD (.int x) (.int 7) = some (.int (x / 7)) := fun x => by
    unfold divD
    exact if_pos (by omega)
  have eo : ∀ x : Int, modD (.int x) (.int m) = some (.int (x % m)) := fun x => by
    unfold modD
    exact if_pos h0
  simp (config := { decide := false }) only [runF, initS, sSeq, sIf, sRet, sRetN, sSet, sSetF, sSetO, sDrop, sNext, sNever, sUnp, sUnpF, sApp, sAppF, sLend, sAugI, asgL_nm, asgL_tp, asgL_wt, asgsL_nil, asgsL_cons, asg_nm, asg_tp, asgs_nil, asgs_cons, wipeD, mAnd, mOr, mNot, mB, mTr, m2, m1, mV, mC, mA, mCh, mAndV, mOrV, aCons, aNil, guardN, op, cl, fl, opn, clos, flt, eqD_int, neD_int, gtD, ltD, leD, geD, addD, subD, negD, tupD, lstD, tupF, lstF, outD, notD, tru, isD, isnD, isN, flat_tp, flat_in, flat_bo, flat_no, flats_nl, flats_cn,
  List.map_cons, List.map_nil, List.length_cons, List.length_nil, List.replicate, List.getElem?_cons_zero, List.getElem?_cons_succ, List.getElem?_nil, List.cons_append, List.nil_append, Option.bind_some, Option.bind_none, Option.bind_assoc, Option.map_some, Option.map_none, Nat.reduceAdd, Nat.reduceSub, Nat.reduceLeDiff, List.set_cons_zero, List.set_cons_succ, if_true, if_false, ite_true, ite_false, reduceCtorEq, Bool.false_eq_true, Bool.not_true, Bool.not_false, ↓reduceIte, eq_self, i2, ed, eo]
/-- a roll is below its bound, dice stay dice -/
theorem l_roll {a b m : Int} (hb : 0 ≤ b) (h0 : 0 < m) (h1 : m < 1073741824) : ∃ v a' b', G__law_roll [.int a, .int b] [.int m] = some (.int v, [.int a', .int b']) ∧ 0 ≤ v ∧ v < m ∧ 0 ≤ b' := by
  by_cases c : 0 < b
  · exact ⟨_, _, _, roll_hi c h0 h1, Int.emod_nonneg _ (by omega), Int.emod_lt_of_pos _ h0, Int.ediv_nonneg hb (by omega)⟩
  · exact ⟨_, _, _, roll_lo c h0, Int.emod_nonneg _ (by omega), Int.emod_lt_of_pos _ h0, hb⟩
end Ice

namespace Ice
open PySem PySem.Spec PyProof.Rows L2
/-! ### readings with calls that change a list -/
theorem xCall_din {i n : Nat} {g : List D → List D → Option (D × List D)} {mr : Ma} {S : Sl} {ds as es : List D} {v : D} (hS : S[i]? = some (.din ds)) (ha : mr (cl S) = some as) (hg : g ds as = some (v, es)) (f : flats ds = true) (hn : as.length + 1 = n) :
    xCall i n g mr S = some (v, S.set i (.din es)) := by
  unfold xCall
  rw [hS]
  show ((mr (cl S)).bind fun as => xCallG n g ds as .din i S) = _
  rw [ha]
  show xCallG n g ds as .din i S = _
  unfold xCallG
  rw [if_pos ⟨f, hn⟩, hg]
  rfl
theorem xCall_own {i n : Nat} {g : List D → List D → Option (D × List D)} {mr : Ma} {S : Sl} {ds as es : List D} {v : D} (hS : S[i]? = some (.own ds)) (ha : mr (cl S) = some as) (hg : g ds as = some (v, es)) (f : flats ds = true) (hn : as.length + 1 = n) :
    xCall i n g mr S = some (v, S.set i (.own es)) := by
  unfold xCall
  rw [hS]
  show ((mr (cl S)).bind fun as => xCallG n g ds as .own i S) = _
  rw [ha]
  show xCallG n g ds as .own i S = _
  unfold xCallG
  rw [if_pos ⟨f, hn⟩, hg]
  rfl
theorem yApp_at {i : Nat} {m : Mx} {S S1 : Sl} {d : D} {ds es : List D} (h0 : S[i]? = some (.own ds)) (h1 : m S = some (d, S1)) (h2 : S1[i]? = some (.own es)) (hl : es.length < 1000000) : yApp i m S = some (.nx (S1.set i (.own (es ++ [d])))) := by
  unfold yApp
  rw [h0]
  simp only [h1, Option.bind_some, h2, hl, if_true]
theorem turn_go {t : Tg} {b : Ms} {d : D} {S S1 S2 : Sl} {P : Sl → Prop} (h1 : asgL t d S = some S1) (h2 : b S1 = some (.nx S2)) (p : P S2) : Turn t b d S P := ⟨S1, S2, h1, .inl h2, p⟩
abbrev Dn (a b : Int) : SL := .din [.int a, .int b]
theorem xroll {a b m : Int} {mr : Ma} {T : Sl} (ha : mr (cl (Dn a b :: T)) = some [.int m]) (hb : 0 ≤ b) (h0 : 0 < m) (h1 : m < 1073741824) :
    ∃ v a' b', xCall 0 2 G__law_roll mr (Dn a b :: T) = some (.int v, Dn a' b' :: T) ∧ 0 ≤ v ∧ v < m ∧ 0 ≤ b' := by
  obtain ⟨v, a', b', e, h⟩ := l_roll (a := a) hb h0 h1
  exact ⟨v, a', b', xCall_din (S := Dn a b :: T) rfl ha e rfl rfl, h⟩
theorem mul_small {i j : Int} (h0 : 0 ≤ j) (h1 : j ≤ 1000000) : mulD (.int i) (.int j) = some (.int (i * j)) := by
  unfold mulD
  exact if_pos (.inr (by omega))
theorem if01 (k : Bool) : (0 : Int) ≤ (if k then 1 else 0) ∧ (if k then 1 else 0) ≤ (1 : Int) := by cases k <;> decide
theorem mul01 {i m : Int} (h0 : 0 ≤ i) (h1 : i ≤ m) (k : Bool) : 0 ≤ i * (if k then 1 else 0) ∧ i * (if k then 1 else 0) ≤ m := by
  cases k
  · simp only [Bool.false_eq_true, if_false, Int.mul_zero]; omega
  · simp only [if_true, Int.mul_one]; omega
/-! ### heats -/
def htBody : Ms := (sSeq (ySet 4 (x2 ixD (xA lstD (xCons (xCall 0 2 G__law_roll (aCons (mC (.int 4)) aNil)) (xCons (xCall 0 2 G__law_roll (aCons (mC (.int 10)) aNil)) (xCons (xP (mC (.int 0))) (xCons (x2 addD (xP (mC (.int 1))) (xCall 0 2 G__law_roll (aCons (mC (.int 3)) aNil))) xNil))))) (xP (mV 1))))
      (yApp 2 (x2 mulD (xP (mV 4)) (xA intB (xCons (x2 gtD (xCall 0 2 G__law_roll (aCons (mC (.int 6)) aNil)) (xP (mC (.int 0)))) xNil)))))
theorem ix4 {s : Int} {x0 x1 x2 x3 m : Int} (h0 : 0 ≤ s) (h1 : s < 4) (g0 : 0 ≤ x0 ∧ x0 ≤ m) (g1 : 0 ≤ x1 ∧ x1 ≤ m) (g2 : 0 ≤ x2 ∧ x2 ≤ m) (g3 : 0 ≤ x3 ∧ x3 ≤ m) : ∃ w, ixD (.lst [.int x0, .int x1, .int x2, .int x3]) (.int s) = some (.int w) ∧ 0 ≤ w ∧ w ≤ m := by
  have : s = 0 ∨ s = 1 ∨ s = 2 ∨ s = 3 := by omega
  rcases this with rfl | rfl | rfl | rfl
  · exact ⟨_, rfl, g0⟩
  · exact ⟨_, rfl, g1⟩
  · exact ⟨_, rfl, g2⟩
  · exact ⟨_, rfl, g3⟩
theorem heat_turn {a b s : Int} {outs : List D} {u3 u4 : SL} (hb : 0 ≤ b) (h0 : 0 ≤ s) (h1 : s < 4) (hl : outs.length < 1000000) :
    ∃ a' b' w u, 0 ≤ b' ∧ 0 ≤ w ∧ w ≤ 9 ∧ htBody [Dn a b, .dat (.int s), .own outs, u3, u4] = some (.nx [Dn a' b', .dat (.int s), .own (outs ++ [.int w]), u3, u]) := by
  obtain ⟨v1, a1, b1, r1, p1, q1, hb1⟩ := xroll (a := a) (b := b) (mr := aCons (mC (.int 4)) aNil) (m := 4) (T := [.dat (.int s), .own outs, u3, u4]) rfl hb (by decide) (by decide)
  obtain ⟨v2, a2, b2, r2, p2, q2, hb2⟩ := xroll (a := a1) (b := b1) (mr := aCons (mC (.int 10)) aNil) (m := 10) (T := [.dat (.int s), .own outs, u3, u4]) rfl hb1 (by decide) (by decide)
  obtain ⟨v3, a3, b3, r3, p3, q3, hb3⟩ := xroll (a := a2) (b := b2) (mr := aCons (mC (.int 3)) aNil) (m := 3) (T := [.dat (.int s), .own outs, u3, u4]) rfl hb2 (by decide) (by decide)
  obtain ⟨w, e, w0, w9⟩ := ix4 (m := 9) (x0 := v1) (x1 := v2) (x2 := 0) (x3 := 1 + v3) h0 h1 (by omega) (by omega) (by omega) (by omega)
  obtain ⟨v4, a4, b4, r4, p4, q4, hb4⟩ := xroll (a := a3) (b := b3) (mr := aCons (mC (.int 6)) aNil) (m := 6) (T := [.dat (.int s), .own outs, u3, .dat (.int w)]) rfl hb3 (by decide) (by decide)
  obtain ⟨m0, m1⟩ := mul01 w0 w9 (decide (v4 > 0))
  refine ⟨a4, b4, _, .dat (.int w), hb4, m0, m1, ?_⟩
  unfold htBody
  apply Eq.trans
  · apply sSeq_nx (S1 := [Dn a3 b3, .dat (.int s), .own outs, u3, .dat (.int w)])
    simp (config := { decide := false }) only [runF, initS, sSeq, sIf, sRet, sRetN, sSet, sSetF, sSetO, sDrop, sNext, sNever, sUnp, sUnpF, sApp, sAppF, sLend, sAugI, asgL_nm, asgL_tp, asgL_wt, asgsL_nil, asgsL_cons, asg_nm, asg_tp, asgs_nil, asgs_cons, wipeD, mAnd, mOr, mNot, mB, mTr, m2, m1, mV, mC, mA, mCh, mAndV, mOrV, aCons, aNil, guardN, op, cl, fl, opn, clos, flt, eqD_int, neD_int, gtD, ltD, leD, geD, addD, subD, negD, tupD, lstD, tupF, lstF, outD, notD, tru, isD, isnD, isN, flat_tp, flat_in, flat_bo, flat_no, flats_nl, flats_cn,
  List.map_cons, List.map_nil, List.length_cons, List.length_nil, List.replicate, List.getElem?_cons_zero, List.getElem?_cons_succ, List.getElem?_nil, List.cons_append, List.nil_append, Option.bind_some, Option.bind_none, Option.bind_assoc, Option.map_some, Option.map_none, Nat.reduceAdd, Nat.reduceSub, Nat.reduceLeDiff, List.set_cons_zero, List.set_cons_succ, if_true, if_false, ite_true, ite_false, reduceCtorEq, Bool.false_eq_true, Bool.not_true, Bool.not_false, ↓reduceIte, eq_self, ySet, yRet, yIf, x2, x1, xA, xNil, xCons, xP, xT, xB, xAnd, intB, r1, r2, r3, lstD, e]
  refine yApp_at (S := [Dn a3 b3, .dat (.int s), .own outs, u3, .dat (.int w)]) (S1 := [Dn a4 b4, .dat (.int s), .own outs, u3, .dat (.int w)]) (i := 2) rfl ?_ rfl hl
  have mm := mul_small (i := w) (if01 (decide (v4 > 0))).1 (by have := (if01 (decide (v4 > 0))).2; omega)
  simp (config := { decide := false }) only [runF, initS, sSeq, sIf, sRet, sRetN, sSet, sSetF, sSetO, sDrop, sNext, sNever, sUnp, sUnpF, sApp, sAppF, sLend, sAugI, asgL_nm, asgL_tp, asgL_wt, asgsL_nil, asgsL_cons, asg_nm, asg_tp, asgs_nil, asgs_cons, wipeD, mAnd, mOr, mNot, mB, mTr, m2, m1, mV, mC, mA, mCh, mAndV, mOrV, aCons, aNil, guardN, op, cl, fl, opn, clos, flt, eqD_int, neD_int, gtD, ltD, leD, geD, addD, subD, negD, tupD, lstD, tupF, lstF, outD, notD, tru, isD, isnD, isN, flat_tp, flat_in, flat_bo, flat_no, flats_nl, flats_cn,
  List.map_cons, List.map_nil, List.length_cons, List.length_nil, List.replicate, List.getElem?_cons_zero, List.getElem?_cons_succ, List.getElem?_nil, List.cons_append, List.nil_append, Option.bind_some, Option.bind_none, Option.bind_assoc, Option.map_some, Option.map_none, Nat.reduceAdd, Nat.reduceSub, Nat.reduceLeDiff, List.set_cons_zero, List.set_cons_succ, if_true, if_false, ite_true, ite_false, reduceCtorEq, Bool.false_eq_true, Bool.not_true, Bool.not_false, ↓reduceIte, eq_self, ySet, yRet, yIf, x2, x1, xA, xNil, xCons, xP, xT, xB, xAnd, intB, r4, mm]
end Ice

namespace Ice
open PySem PySem.Spec PyProof.Rows L2
/-! ### heats, cells of a house by chance -/
theorem snoc_int (zs : List Int) (w : Int) : zs.map D.int ++ [.int w] = (zs ++ [w]).map D.int := by rw [List.map_append]; rfl
theorem snoc_all {α : Type} {P : α → Prop} {zs : List α} {w : α} (h : ∀ z ∈ zs, P z) (hw : P w) : ∀ z ∈ zs ++ [w], P z := fun z hz => by
  rcases List.mem_append.mp hz with c | c
  · exact h z c
  · rw [List.mem_singleton.mp c]; exact hw
theorem heats_loop (s : Int) (h0 : 0 ≤ s) (h1 : s < 4) {a b : Int} (hb : 0 ≤ b) : ∃ a' b' zs u3 u4, 0 ≤ b' ∧ Heats zs ∧ sFor (itR1 (aCons (mC (.int 5)) aNil)) (.nm 3) htBody [Dn a b, .dat (.int s), .own [], .un, .un] = some (.nx [Dn a' b', .dat (.int s), .own (zs.map .int), u3, u4]) := by
  obtain ⟨S', e, a', b', zs, u3, u4, k1, k2, k3, rfl⟩ := sFor_rel (mi := itR1 (aCons (mC (.int 5)) aNil)) (t := .nm 3) (b := htBody) (fun (i : Nat) => D.int (i : Int))
    (fun n (_ : Unit) S' => ∃ a' b' zs u3 u4, 0 ≤ b' ∧ zs.length + n = 5 ∧ (∀ z ∈ zs, 0 ≤ z ∧ z ≤ 9) ∧ S' = [Dn a' b', .dat (.int s), .own (zs.map .int), u3, u4]) (fun z _ => z) (List.range 5) ()
    (S := [Dn a b, .dat (.int s), .own [], .un, .un]) (itR1_at (n := 5) rfl (by decide)) ⟨a, b, [], .un, .un, hb, rfl, fun _ h => (by cases h), rfl⟩ (by
    rintro n z S' ⟨a', b', zs, u3, u4, k1, k2, k3, rfl⟩ c hc
    obtain ⟨a2, b2, w, u, g1, g2, g3, g⟩ := heat_turn (a := a') (outs := zs.map .int) (u3 := .dat (.int (c : Int))) (u4 := u4) k1 h0 h1 (by rw [List.length_map]; omega)
    rw [snoc_int] at g
    refine turn_go (b := htBody) (d := .int c) rfl g ⟨a2, b2, zs ++ [w], _, u, g1, ?_, snoc_all k3 ⟨g2, g3⟩, rfl⟩
    rw [List.length_append]; simp only [List.length_cons, List.length_nil]; omega)
  exact ⟨a', b', zs, u3, u4, k1, ⟨by omega, k3⟩, e⟩
theorem l_heats {a b : Int} (hb : 0 ≤ b) : ∃ hs a' b', Heats hs ∧ 0 ≤ b' ∧ G__law_heats [.int a, .int b] [] = some (eRow hs, [.int a', .int b']) := by
  obtain ⟨s, a1, b1, r1, p1, q1, hb1⟩ := xroll (a := a) (b := b) (mr := aCons (mC (.int 4)) aNil) (m := 4) (T := [.un, .un, .un, .un]) rfl hb (by decide) (by decide)
  obtain ⟨a2, b2, zs, u3, u4, g1, g2, g⟩ := heats_loop s p1 q1 (a := a1) hb1
  refine ⟨zs, a2, b2, g2, g1, ?_⟩
  unfold G__law_heats
  refine runX_rt (S := [.dat (.int s), .own (zs.map .int), u3, u4]) ?_ (flats_map fun _ _ => rfl) rfl
  unfold mr__law_heats
  apply Eq.trans
  · apply sSeq_nx (S1 := [Dn a1 b1, .dat (.int s), .un, .un, .un])
    have : initX 5 [.int a, .int b] [] = [Dn a b, .un, .un, .un, .un] := rfl
    rw [this]
    simp (config := { decide := false }) only [runF, initS, sSeq, sIf, sRet, sRetN, sSet, sSetF, sSetO, sDrop, sNext, sNever, sUnp, sUnpF, sApp, sAppF, sLend, sAugI, asgL_nm, asgL_tp, asgL_wt, asgsL_nil, asgsL_cons, asg_nm, asg_tp, asgs_nil, asgs_cons, wipeD, mAnd, mOr, mNot, mB, mTr, m2, m1, mV, mC, mA, mCh, mAndV, mOrV, aCons, aNil, guardN, op, cl, fl, opn, clos, flt, eqD_int, neD_int, gtD, ltD, leD, geD, addD, subD, negD, tupD, lstD, tupF, lstF, outD, notD, tru, isD, isnD, isN, flat_tp, flat_in, flat_bo, flat_no, flats_nl, flats_cn,
  List.map_cons, List.map_nil, List.length_cons, List.length_nil, List.replicate, List.getElem?_cons_zero, List.getElem?_cons_succ, List.getElem?_nil, List.cons_append, List.nil_append, Option.bind_some, Option.bind_none, Option.bind_assoc, Option.map_some, Option.map_none, Nat.reduceAdd, Nat.reduceSub, Nat.reduceLeDiff, List.set_cons_zero, List.set_cons_succ, if_true, if_false, ite_true, ite_false, reduceCtorEq, Bool.false_eq_true, Bool.not_true, Bool.not_false, ↓reduceIte, eq_self, ySet, yRet, yIf, x2, x1, xA, xNil, xCons, xP, xT, xB, xAnd, intB, r1]
  apply Eq.trans
  · apply sSeq_nx (S1 := [Dn a1 b1, .dat (.int s), .own [], .un, .un])
    rfl
  exact (sSeq_nx g).trans rfl
/-! cells -/
def clBody : Ms := (sSeq (ySet 8 (x2 ixD (xA lstD (xCons (xCall 0 2 G__law_roll (aCons (mC (.int 6)) aNil)) (xCons (x2 addD (xP (mC (.int 1))) (xCall 0 2 G__law_roll (aCons (mC (.int 40)) aNil))) (xCons (xCall 0 2 G__law_roll (aCons (mC (.int 10000)) aNil)) (xCons (x2 addD (xP (mC (.int 9))) (xCall 0 2 G__law_roll (aCons (mC (.int 2)) aNil))) xNil))))) (xP (mV 3))))
      (yApp 6 (x2 mulD (xP (mV 8)) (xA intB (xCons (x2 gtD (xCall 0 2 G__law_roll (aCons (mC (.int 5)) aNil)) (xP (mC (.int 0)))) xNil)))))
theorem cell_turn {a b s : Int} {outs : List D} {A B C U V W : SL} (hb : 0 ≤ b) (h0 : 0 ≤ s) (h1 : s < 4) (hl : outs.length < 1000000) :
    ∃ a' b' w u, 0 ≤ b' ∧ 0 ≤ w ∧ w ≤ 9999 ∧ clBody [Dn a b, A, B, .dat (.int s), C, U, .own outs, V, W] = some (.nx [Dn a' b', A, B, .dat (.int s), C, U, .own (outs ++ [.int w]), V, u]) := by
  obtain ⟨v1, a1, b1, r1, p1, q1, hb1⟩ := xroll (a := a) (b := b) (mr := aCons (mC (.int 6)) aNil) (m := 6) (T := [A, B, .dat (.int s), C, U, .own outs, V, W]) rfl hb (by decide) (by decide)
  obtain ⟨v2, a2, b2, r2, p2, q2, hb2⟩ := xroll (a := a1) (b := b1) (mr := aCons (mC (.int 40)) aNil) (m := 40) (T := [A, B, .dat (.int s), C, U, .own outs, V, W]) rfl hb1 (by decide) (by decide)
  obtain ⟨v3, a3, b3, r3, p3, q3, hb3⟩ := xroll (a := a2) (b := b2) (mr := aCons (mC (.int 10000)) aNil) (m := 10000) (T := [A, B, .dat (.int s), C, U, .own outs, V, W]) rfl hb2 (by decide) (by decide)
  obtain ⟨v5, a5, b5, r5, p5, q5, hb5⟩ := xroll (a := a3) (b := b3) (mr := aCons (mC (.int 2)) aNil) (m := 2) (T := [A, B, .dat (.int s), C, U, .own outs, V, W]) rfl hb3 (by decide) (by decide)
  obtain ⟨w, e, w0, w9⟩ := ix4 (m := 9999) (x0 := v1) (x1 := 1 + v2) (x2 := v3) (x3 := 9 + v5) h0 h1 (by omega) (by omega) (by omega) (by omega)
  obtain ⟨v4, a4, b4, r4, p4, q4, hb4⟩ := xroll (a := a5) (b := b5) (mr := aCons (mC (.int 5)) aNil) (m := 5) (T := [A, B, .dat (.int s), C, U, .own outs, V, .dat (.int w)]) rfl hb5 (by decide) (by decide)
  obtain ⟨m0, m1⟩ := mul01 w0 w9 (decide (v4 > 0))
  refine ⟨a4, b4, _, .dat (.int w), hb4, m0, m1, ?_⟩
  unfold clBody
  apply Eq.trans
  · apply sSeq_nx (S1 := [Dn a5 b5, A, B, .dat (.int s), C, U, .own outs, V, .dat (.int w)])
    simp (config := { decide := false }) only [runF, initS, sSeq, sIf, sRet, sRetN, sSet, sSetF, sSetO, sDrop, sNext, sNever, sUnp, sUnpF, sApp, sAppF, sLend, sAugI, asgL_nm, asgL_tp, asgL_wt, asgsL_nil, asgsL_cons, asg_nm, asg_tp, asgs_nil, asgs_cons, wipeD, mAnd, mOr, mNot, mB, mTr, m2, m1, mV, mC, mA, mCh, mAndV, mOrV, aCons, aNil, guardN, op, cl, fl, opn, clos, flt, eqD_int, neD_int, gtD, ltD, leD, geD, addD, subD, negD, tupD, lstD, tupF, lstF, outD, notD, tru, isD, isnD, isN, flat_tp, flat_in, flat_bo, flat_no, flats_nl, flats_cn,
  List.map_cons, List.map_nil, List.length_cons, List.length_nil, List.replicate, List.getElem?_cons_zero, List.getElem?_cons_succ, List.getElem?_nil, List.cons_append, List.nil_append, Option.bind_some, Option.bind_none, Option.bind_assoc, Option.map_some, Option.map_none, Nat.reduceAdd, Nat.reduceSub, Nat.reduceLeDiff, List.set_cons_zero, List.set_cons_succ, if_true, if_false, ite_true, ite_false, reduceCtorEq, Bool.false_eq_true, Bool.not_true, Bool.not_false, ↓reduceIte, eq_self, ySet, yRet, yIf, x2, x1, xA, xNil, xCons, xP, xT, xB, xAnd, intB, r1, r2, r3, r5, lstD, e]
  refine yApp_at (S := [Dn a5 b5, A, B, .dat (.int s), C, U, .own outs, V, .dat (.int w)]) (S1 := [Dn a4 b4, A, B, .dat (.int s), C, U, .own outs, V, .dat (.int w)]) (i := 6) rfl ?_ rfl hl
  have mm := mul_small (i := w) (if01 (decide (v4 > 0))).1 (by have := (if01 (decide (v4 > 0))).2; omega)
  simp (config := { decide := false }) only [runF, initS, sSeq, sIf, sRet, sRetN, sSet, sSetF, sSetO, sDrop, sNext, sNever, sUnp, sUnpF, sApp, sAppF, sLend, sAugI, asgL_nm, asgL_tp, asgL_wt, asgsL_nil, asgsL_cons, asg_nm, asg_tp, asgs_nil, asgs_cons, wipeD, mAnd, mOr, mNot, mB, mTr, m2, m1, mV, mC, mA, mCh, mAndV, mOrV, aCons, aNil, guardN, op, cl, fl, opn, clos, flt, eqD_int, neD_int, gtD, ltD, leD, geD, addD, subD, negD, tupD, lstD, tupF, lstF, outD, notD, tru, isD, isnD, isN, flat_tp, flat_in, flat_bo, flat_no, flats_nl, flats_cn,
  List.map_cons, List.map_nil, List.length_cons, List.length_nil, List.replicate, List.getElem?_cons_zero, List.getElem?_cons_succ, List.getElem?_nil, List.cons_append, List.nil_append, Option.bind_some, Option.bind_none, Option.bind_assoc, Option.map_some, Option.map_none, Nat.reduceAdd, Nat.reduceSub, Nat.reduceLeDiff, List.set_cons_zero, List.set_cons_succ, if_true, if_false, ite_true, ite_false, reduceCtorEq, Bool.false_eq_true, Bool.not_true, Bool.not_false, ↓reduceIte, eq_self, ySet, yRet, yIf, x2, x1, xA, xNil, xCons, xP, xT, xB, xAnd, intB, r4, mm]
def clRow : Ms := (sSeq (sSetO 6 (mA lstD aNil))
      (sSeq (sFor (itR1 (aCons (mV 2) aNil)) (.nm 7) clBody)
      (sAppF 4 (mA tupF (aCons (mV 6) aNil)))))
theorem row_loop {a b s : Int} {wd : Nat} (hw : wd ≤ 4) {A C U V W : SL} (hb : 0 ≤ b) (h0 : 0 ≤ s) (h1 : s < 4) :
    ∃ (a' b' : Int) (zs : List Int) (v w : SL), 0 ≤ b' ∧ zs.length = wd ∧ (∀ z ∈ zs, 0 ≤ z ∧ z ≤ 9999) ∧ sFor (itR1 (aCons (mV 2) aNil)) (.nm 7) clBody [Dn a b, A, .dat (.int wd), .dat (.int s), C, U, .own [], V, W] = some (.nx [Dn a' b', A, .dat (.int wd), .dat (.int s), C, U, .own (zs.map .int), v, w]) := by
  obtain ⟨S', e, a', b', zs, v, w, k1, k2, k3, rfl⟩ := sFor_rel (mi := itR1 (aCons (mV 2) aNil)) (t := .nm 7) (b := clBody) (fun (i : Nat) => D.int (i : Int))
    (fun n (_ : Unit) S' => ∃ (a' b' : Int) (zs : List Int) (v w : SL), 0 ≤ b' ∧ zs.length + n = wd ∧ (∀ z ∈ zs, 0 ≤ z ∧ z ≤ 9999) ∧ S' = [Dn a' b', A, .dat (.int wd), .dat (.int s), C, U, .own (zs.map .int), v, w]) (fun z _ => z) (List.range wd) ()
    (S := [Dn a b, A, .dat (.int wd), .dat (.int s), C, U, .own [], V, W]) (itR1_at (n := wd) rfl (by omega)) ⟨a, b, [], V, W, hb, by rw [List.length_range, List.length_nil, Nat.zero_add], fun _ h => (by cases h), rfl⟩ (by
    rintro n z S' ⟨a', b', zs, v, w, k1, k2, k3, rfl⟩ c hc
    obtain ⟨a2, b2, x, u, g1, g2, g3, g⟩ := cell_turn (a := a') (outs := zs.map .int) (A := A) (B := .dat (.int wd)) (C := C) (U := U) (V := .dat (.int (c : Int))) (W := w) k1 h0 h1 (by rw [List.length_map]; omega)
    rw [snoc_int] at g
    refine turn_go (b := clBody) (d := .int c) rfl g ⟨a2, b2, zs ++ [x], _, u, g1, ?_, snoc_all k3 ⟨g2, g3⟩, rfl⟩
    rw [List.length_append]; simp only [List.length_cons, List.length_nil]; omega)
  exact ⟨a', b', zs, v, w, k1, by omega, k3, e⟩
theorem row_turn {a b s : Int} {wd : Nat} (hw : wd ≤ 4) {rows : List D} {A U U6 V W : SL} (hb : 0 ≤ b) (h0 : 0 ≤ s) (h1 : s < 4) (hl : rows.length < 1000000) :
    ∃ (a' b' : Int) (zs : List Int) (u6 v w : SL), 0 ≤ b' ∧ zs.length = wd ∧ (∀ z ∈ zs, 0 ≤ z ∧ z ≤ 9999) ∧ clRow [Dn a b, A, .dat (.int wd), .dat (.int s), .own rows, U, U6, V, W] = some (.nx [Dn a' b', A, .dat (.int wd), .dat (.int s), .own (rows ++ [eRow zs]), U, u6, v, w]) := by
  obtain ⟨a', b', zs, v, w, k1, k2, k3, e⟩ := row_loop (a := a) hw (A := A) (C := .own rows) (U := U) (V := V) (W := W) hb h0 h1
  refine ⟨a', b', zs, .own (zs.map .int), v, w, k1, k2, k3, ?_⟩
  unfold clRow
  apply Eq.trans
  · apply sSeq_nx (S1 := [Dn a b, A, .dat (.int wd), .dat (.int s), .own rows, U, .own [], V, W])
    rfl
  refine (sSeq_nx e).trans ?_
  have f : flats (zs.map D.int) = true := flats_map (e := D.int) fun _ _ => rfl
  simp (config := { decide := false }) only [runF, initS, sSeq, sIf, sRet, sRetN, sSet, sSetF, sSetO, sDrop, sNext, sNever, sUnp, sUnpF, sApp, sAppF, sLend, sAugI, asgL_nm, asgL_tp, asgL_wt, asgsL_nil, asgsL_cons, asg_nm, asg_tp, asgs_nil, asgs_cons, wipeD, mAnd, mOr, mNot, mB, mTr, m2, m1, mV, mC, mA, mCh, mAndV, mOrV, aCons, aNil, guardN, op, cl, fl, opn, clos, flt, eqD_int, neD_int, gtD, ltD, leD, geD, addD, subD, negD, tupD, lstD, tupF, lstF, outD, notD, tru, isD, isnD, isN, flat_tp, flat_in, flat_bo, flat_no, flats_nl, flats_cn,
  List.map_cons, List.map_nil, List.length_cons, List.length_nil, List.replicate, List.getElem?_cons_zero, List.getElem?_cons_succ, List.getElem?_nil, List.cons_append, List.nil_append, Option.bind_some, Option.bind_none, Option.bind_assoc, Option.map_some, Option.map_none, Nat.reduceAdd, Nat.reduceSub, Nat.reduceLeDiff, List.set_cons_zero, List.set_cons_succ, if_true, if_false, ite_true, ite_false, reduceCtorEq, Bool.false_eq_true, Bool.not_true, Bool.not_false, ↓reduceIte, eq_self, hl, f]
  rfl
theorem snoc_row (zs : List (List Int)) (w : List Int) : zs.map eRow ++ [eRow w] = (zs ++ [w]).map eRow := by rw [List.map_append]; rfl
theorem l_cells {a b : Int} {hi wd : Nat} (h1 : 1 ≤ hi ∧ hi ≤ 4) (h2 : 1 ≤ wd ∧ wd ≤ 4) (hb : 0 ≤ b) :
    ∃ cs a' b', Gr cs ∧ cs.length = hi ∧ wide cs = wd ∧ (∀ r ∈ cs, ∀ x ∈ r, 0 ≤ x ∧ x ≤ 9999) ∧ 0 ≤ b' ∧ G__law_cells [.int a, .int b] [.int hi, .int wd] = some (eCells cs, [.int a', .int b']) := by
  obtain ⟨s, a1, b1, r1, p1, q1, hb1⟩ := xroll (a := a) (b := b) (mr := aCons (mC (.int 4)) aNil) (m := 4) (T := [.dat (.int hi), .dat (.int wd), .un, .un, .un, .un, .un, .un]) rfl hb (by decide) (by decide)
  obtain ⟨S', e, a', b', cs, u5, u6, u7, u8, k1, k2, k3, rfl⟩ := sFor_rel (mi := itR1 (aCons (mV 1) aNil)) (t := .nm 5) (b := clRow) (fun (i : Nat) => D.int (i : Int))
    (fun n (_ : Unit) S' => ∃ a' b' cs u5 u6 u7 u8, 0 ≤ b' ∧ cs.length + n = hi ∧ (∀ r ∈ cs, r.length = wd ∧ ∀ x ∈ r, 0 ≤ x ∧ x ≤ 9999) ∧ S' = [Dn a' b', .dat (.int hi), .dat (.int wd), .dat (.int s), .own (cs.map eRow), u5, u6, u7, u8]) (fun z _ => z) (List.range hi) ()
    (S := [Dn a1 b1, .dat (.int hi), .dat (.int wd), .dat (.int s), .own [], .un, .un, .un, .un]) (itR1_at (n := hi) rfl (by omega)) ⟨a1, b1, [], .un, .un, .un, .un, hb1, by rw [List.length_range, List.length_nil, Nat.zero_add], fun _ h => (by cases h), rfl⟩ (by
    rintro n z S' ⟨a', b', cs, u5, u6, u7, u8, k1, k2, k3, rfl⟩ c hc
    obtain ⟨a2, b2, zs, v6, v7, v8, g1, g2, g3, g⟩ := row_turn (a := a') (s := s) h2.2 (rows := cs.map eRow) (A := .dat (.int hi)) (U := .dat (.int (c : Int))) (U6 := u6) (V := u7) (W := u8) k1 p1 q1 (by rw [List.length_map]; omega)
    rw [snoc_row] at g
    refine turn_go (b := clRow) (d := .int c) rfl g ⟨a2, b2, cs ++ [zs], _, v6, v7, v8, g1, ?_, snoc_all k3 ⟨g2, g3⟩, rfl⟩
    rw [List.length_append]; simp only [List.length_cons, List.length_nil]; omega)
  have hlen : cs.length = hi := by omega
  have hwide : wide cs = wd := by
    cases cs with
    | nil => simp only [List.length_nil] at hlen; omega
    | cons r rs => exact (k3 r List.mem_cons_self).1
  refine ⟨cs, a', b', ⟨by omega, by omega, fun r hr => by rw [hwide]; exact (k3 r hr).1⟩, hlen, hwide, fun r hr => (k3 r hr).2, k1, ?_⟩
  unfold G__law_cells
  refine runX_rt (S := [.dat (.int hi), .dat (.int wd), .dat (.int s), .own (cs.map eRow), u5, u6, u7, u8]) ?_ (flats_map fun _ _ => flats_map fun _ _ => rfl) rfl
  unfold mr__law_cells
  apply Eq.trans
  · apply sSeq_nx (S1 := [Dn a1 b1, .dat (.int hi), .dat (.int wd), .dat (.int s), .un, .un, .un, .un, .un])
    have : initX 9 [.int a, .int b] [.int hi, .int wd] = [Dn a b, .dat (.int hi), .dat (.int wd), .un, .un, .un, .un, .un, .un] := rfl
    rw [this]
    simp (config := { decide := false }) only [runF, initS, sSeq, sIf, sRet, sRetN, sSet, sSetF, sSetO, sDrop, sNext, sNever, sUnp, sUnpF, sApp, sAppF, sLend, sAugI, asgL_nm, asgL_tp, asgL_wt, asgsL_nil, asgsL_cons, asg_nm, asg_tp, asgs_nil, asgs_cons, wipeD, mAnd, mOr, mNot, mB, mTr, m2, m1, mV, mC, mA, mCh, mAndV, mOrV, aCons, aNil, guardN, op, cl, fl, opn, clos, flt, eqD_int, neD_int, gtD, ltD, leD, geD, addD, subD, negD, tupD, lstD, tupF, lstF, outD, notD, tru, isD, isnD, isN, flat_tp, flat_in, flat_bo, flat_no, flats_nl, flats_cn,
  List.map_cons, List.map_nil, List.length_cons, List.length_nil, List.replicate, List.getElem?_cons_zero, List.getElem?_cons_succ, List.getElem?_nil, List.cons_append, List.nil_append, Option.bind_some, Option.bind_none, Option.bind_assoc, Option.map_some, Option.map_none, Nat.reduceAdd, Nat.reduceSub, Nat.reduceLeDiff, List.set_cons_zero, List.set_cons_succ, if_true, if_false, ite_true, ite_false, reduceCtorEq, Bool.false_eq_true, Bool.not_true, Bool.not_false, ↓reduceIte, eq_self, ySet, yRet, yIf, x2, x1, xA, xNil, xCons, xP, xT, xB, xAnd, intB, r1]
  apply Eq.trans
  · apply sSeq_nx (S1 := [Dn a1 b1, .dat (.int hi), .dat (.int wd), .dat (.int s), .own [], .un, .un, .un, .un])
    rfl
  exact (sSeq_nx e).trans rfl
end Ice

namespace Ice
open PySem PySem.Spec PyProof.Rows L2
/-! ### walls of a house by chance, the house -/
theorem eW_inj {x y : Int × Int × Int} (h : eW x = eW y) : x = y := by
  obtain ⟨a, b, c⟩ := x
  obtain ⟨d, e, f⟩ := y
  unfold eW at h
  injection h with h
  injection h with h1 h
  injection h with h2 h
  injection h with h3 h
  cases h1
  cases h2
  cases h3
  rfl
theorem any_eW (x : Int × Int × Int) : ∀ (fs : List (Int × Int × Int)), ((pys (fs.map eW)).any fun z => PyData.eqv z (py (eW x))) = decide (x ∈ fs)
  | [] => rfl
  | f :: fs => by
    show (PyData.eqv (py (eW f)) (py (eW x)) || (pys (fs.map eW)).any fun z => PyData.eqv z (py (eW x))) = _
    rw [any_eW x fs, Bool.eq_iff_iff, Bool.or_eq_true, numd_eqv 1 (eW f) 1 (eW x) rfl rfl, decide_eq_true_iff, decide_eq_true_iff, List.mem_cons]
    constructor
    · rintro (h | h)
      · exact .inl (eW_inj h).symm
      · exact .inr h
    · rintro (h | h)
      · rw [h]; exact .inl rfl
      · exact .inr h
theorem nin_list (x : Int × Int × Int) (fs : List (Int × Int × Int)) : ninL (eW x) (.lst (fs.map eW)) = some (.bl (!decide (x ∈ fs))) := by
  show (if SeqAt.shaped (py (eW x)) = true ∧ SeqAt.shaped (py (.lst (fs.map eW))) = true then some (D.bl (!(pys (fs.map eW)).any fun z => PyData.eqv z (py (eW x)))) else none) = _
  rw [if_pos ⟨rfl, numd_sh (n := 2) (by decide) (numds_map (n := 1) fun w _ => rfl)⟩, any_eW]
def scBody : Ms := (sSeq (sSet 8 (mA (guardN 2 G__law_face) (aCons (mV 1) (aCons (mA tupD (aCons (mV 5) (aCons (mV 6) (aCons (mV 7) aNil)))) aNil))))
      (yIf (xAnd (xB (x2 gtD (xCall 0 2 G__law_roll (aCons (mV 4) aNil)) (xP (mC (.int 0))))) (xAnd (xT (mB (m2 ninL (mV 8) (mV 3)))) (xT (mB (m2 ltD (mA lenA (aCons (mV 2) aNil)) (mC (.int 40))))))) (sSeq (sApp 3 (mV 8))
      (sApp 2 (mA tupD (aCons (mV 5) (aCons (mV 6) (aCons (mV 7) aNil)))))) sNext))
/-- walls drawn so far -/
structure Ws (cs : List (List Int)) (ws : List (Int × Int × Int)) : Prop where
  wl : ws.length ≤ 40
  wr : ∀ w ∈ ws, inG cs w.1 w.2.1 = true ∧ 0 ≤ w.2.2 ∧ w.2.2 ≤ 3
  nd : (ws.map face).Nodup
theorem Ws.snoc {cs : List (List Int)} {ws : List (Int × Int × Int)} (h : Ws cs ws) {w : Int × Int × Int} (hl : ws.length < 40) (hw : inG cs w.1 w.2.1 = true ∧ 0 ≤ w.2.2 ∧ w.2.2 ≤ 3) (hn : face w ∉ ws.map face) : Ws cs (ws ++ [w]) := by
  refine ⟨?_, snoc_all h.wr hw, ?_⟩
  · rw [List.length_append]; simp only [List.length_cons, List.length_nil]; omega
  · rw [List.map_append, List.nodup_append]
    refine ⟨h.nd, List.pairwise_singleton _ _, fun x hx y hy e => ?_⟩
    rw [List.mem_singleton.mp hy] at e
    exact hn (e ▸ hx)
theorem snoc_eW (ws : List (Int × Int × Int)) (w : Int × Int × Int) : ws.map eW ++ [eW w] = (ws ++ [w]).map eW := by rw [List.map_append]; rfl
theorem snoc_face (ws : List (Int × Int × Int)) (w : Int × Int × Int) : (ws.map face).map eW ++ [eW (face w)] = ((ws ++ [w]).map face).map eW := by rw [List.map_append, List.map_append]; rfl
/-- a turn, over abstract data -/
theorem sc_go {C F : D} {a b a' b' q r c s v n : Int} {outs seen : List D} {u8 : SL} {k : Bool} (hf : G__law_face [C, .tup [.int r, .int c, .int s]] = some F)
    (hr : xCall 0 2 G__law_roll (aCons (mV 4) aNil) [Dn a b, .dat C, .own outs, .own seen, .dat (.int q), .dat (.int r), .dat (.int c), .dat (.int s), .dat F] = some (.int v, [Dn a' b', .dat C, .own outs, .own seen, .dat (.int q), .dat (.int r), .dat (.int c), .dat (.int s), .dat F]))
    (hn : ninL F (.lst seen) = some (.bl k)) (hl : lenA [.lst outs] = some (.int n)) (h1 : outs.length < 1000000) (h2 : seen.length < 1000000) :
    scBody [Dn a b, .dat C, .own outs, .own seen, .dat (.int q), .dat (.int r), .dat (.int c), .dat (.int s), u8] = some (.nx (if 0 < v ∧ k = true ∧ n < 40 then [Dn a' b', .dat C, .own (outs ++ [.tup [.int r, .int c, .int s]]), .own (seen ++ [F]), .dat (.int q), .dat (.int r), .dat (.int c), .dat (.int s), .dat F] else [Dn a' b', .dat C, .own outs, .own seen, .dat (.int q), .dat (.int r), .dat (.int c), .dat (.int s), .dat F])) := by
  unfold scBody
  apply Eq.trans
  · apply sSeq_nx (S1 := [Dn a b, .dat C, .own outs, .own seen, .dat (.int q), .dat (.int r), .dat (.int c), .dat (.int s), .dat F])
    simp (config := { decide := false }) only [runF, initS, sSeq, sIf, sRet, sRetN, sSet, sSetF, sSetO, sDrop, sNext, sNever, sUnp, sUnpF, sApp, sAppF, sLend, sAugI, asgL_nm, asgL_tp, asgL_wt, asgsL_nil, asgsL_cons, asg_nm, asg_tp, asgs_nil, asgs_cons, wipeD, mAnd, mOr, mNot, mB, mTr, m2, m1, mV, mC, mA, mCh, mAndV, mOrV, aCons, aNil, guardN, op, cl, fl, opn, clos, flt, eqD_int, neD_int, gtD, ltD, leD, geD, addD, subD, negD, tupD, lstD, tupF, lstF, outD, notD, tru, isD, isnD, isN, flat_tp, flat_in, flat_bo, flat_no, flats_nl, flats_cn,
  List.map_cons, List.map_nil, List.length_cons, List.length_nil, List.replicate, List.getElem?_cons_zero, List.getElem?_cons_succ, List.getElem?_nil, List.cons_append, List.nil_append, Option.bind_some, Option.bind_none, Option.bind_assoc, Option.map_some, Option.map_none, Nat.reduceAdd, Nat.reduceSub, Nat.reduceLeDiff, List.set_cons_zero, List.set_cons_succ, if_true, if_false, ite_true, ite_false, reduceCtorEq, Bool.false_eq_true, Bool.not_true, Bool.not_false, ↓reduceIte, eq_self, hf]
  by_cases c1 : 0 < v
  · cases k with
    | true =>
      by_cases c3 : n < 40
      · simp (config := { decide := false }) only [runF, initS, sSeq, sIf, sRet, sRetN, sSet, sSetF, sSetO, sDrop, sNext, sNever, sUnp, sUnpF, sApp, sAppF, sLend, sAugI, asgL_nm, asgL_tp, asgL_wt, asgsL_nil, asgsL_cons, asg_nm, asg_tp, asgs_nil, asgs_cons, wipeD, mAnd, mOr, mNot, mB, mTr, m2, m1, mV, mC, mA, mCh, mAndV, mOrV, aCons, aNil, guardN, op, cl, fl, opn, clos, flt, eqD_int, neD_int, gtD, ltD, leD, geD, addD, subD, negD, tupD, lstD, tupF, lstF, outD, notD, tru, isD, isnD, isN, flat_tp, flat_in, flat_bo, flat_no, flats_nl, flats_cn,
  List.map_cons, List.map_nil, List.length_cons, List.length_nil, List.replicate, List.getElem?_cons_zero, List.getElem?_cons_succ, List.getElem?_nil, List.cons_append, List.nil_append, Option.bind_some, Option.bind_none, Option.bind_assoc, Option.map_some, Option.map_none, Nat.reduceAdd, Nat.reduceSub, Nat.reduceLeDiff, List.set_cons_zero, List.set_cons_succ, if_true, if_false, ite_true, ite_false, reduceCtorEq, Bool.false_eq_true, Bool.not_true, Bool.not_false, ↓reduceIte, eq_self, ySet, yRet, yIf, x2, x1, xA, xNil, xCons, xP, xT, xB, xAnd, intB, hr, hn, hl, c1, c3, decide_true, h1, h2, and_self]
      · simp (config := { decide := false }) only [runF, initS, sSeq, sIf, sRet, sRetN, sSet, sSetF, sSetO, sDrop, sNext, sNever, sUnp, sUnpF, sApp, sAppF, sLend, sAugI, asgL_nm, asgL_tp, asgL_wt, asgsL_nil, asgsL_cons, asg_nm, asg_tp, asgs_nil, asgs_cons, wipeD, mAnd, mOr, mNot, mB, mTr, m2, m1, mV, mC, mA, mCh, mAndV, mOrV, aCons, aNil, guardN, op, cl, fl, opn, clos, flt, eqD_int, neD_int, gtD, ltD, leD, geD, addD, subD, negD, tupD, lstD, tupF, lstF, outD, notD, tru, isD, isnD, isN, flat_tp, flat_in, flat_bo, flat_no, flats_nl, flats_cn,
  List.map_cons, List.map_nil, List.length_cons, List.length_nil, List.replicate, List.getElem?_cons_zero, List.getElem?_cons_succ, List.getElem?_nil, List.cons_append, List.nil_append, Option.bind_some, Option.bind_none, Option.bind_assoc, Option.map_some, Option.map_none, Nat.reduceAdd, Nat.reduceSub, Nat.reduceLeDiff, List.set_cons_zero, List.set_cons_succ, if_true, if_false, ite_true, ite_false, reduceCtorEq, Bool.false_eq_true, Bool.not_true, Bool.not_false, ↓reduceIte, eq_self, ySet, yRet, yIf, x2, x1, xA, xNil, xCons, xP, xT, xB, xAnd, intB, hr, hn, hl, c1, c3, decide_true, decide_false, and_false]
    | false => simp (config := { decide := false }) only [runF, initS, sSeq, sIf, sRet, sRetN, sSet, sSetF, sSetO, sDrop, sNext, sNever, sUnp, sUnpF, sApp, sAppF, sLend, sAugI, asgL_nm, asgL_tp, asgL_wt, asgsL_nil, asgsL_cons, asg_nm, asg_tp, asgs_nil, asgs_cons, wipeD, mAnd, mOr, mNot, mB, mTr, m2, m1, mV, mC, mA, mCh, mAndV, mOrV, aCons, aNil, guardN, op, cl, fl, opn, clos, flt, eqD_int, neD_int, gtD, ltD, leD, geD, addD, subD, negD, tupD, lstD, tupF, lstF, outD, notD, tru, isD, isnD, isN, flat_tp, flat_in, flat_bo, flat_no, flats_nl, flats_cn,
  List.map_cons, List.map_nil, List.length_cons, List.length_nil, List.replicate, List.getElem?_cons_zero, List.getElem?_cons_succ, List.getElem?_nil, List.cons_append, List.nil_append, Option.bind_some, Option.bind_none, Option.bind_assoc, Option.map_some, Option.map_none, Nat.reduceAdd, Nat.reduceSub, Nat.reduceLeDiff, List.set_cons_zero, List.set_cons_succ, if_true, if_false, ite_true, ite_false, reduceCtorEq, Bool.false_eq_true, Bool.not_true, Bool.not_false, ↓reduceIte, eq_self, ySet, yRet, yIf, x2, x1, xA, xNil, xCons, xP, xT, xB, xAnd, intB, hr, hn, hl, c1, decide_true, and_false, false_and]
  · simp (config := { decide := false }) only [runF, initS, sSeq, sIf, sRet, sRetN, sSet, sSetF, sSetO, sDrop, sNext, sNever, sUnp, sUnpF, sApp, sAppF, sLend, sAugI, asgL_nm, asgL_tp, asgL_wt, asgsL_nil, asgsL_cons, asg_nm, asg_tp, asgs_nil, asgs_cons, wipeD, mAnd, mOr, mNot, mB, mTr, m2, m1, mV, mC, mA, mCh, mAndV, mOrV, aCons, aNil, guardN, op, cl, fl, opn, clos, flt, eqD_int, neD_int, gtD, ltD, leD, geD, addD, subD, negD, tupD, lstD, tupF, lstF, outD, notD, tru, isD, isnD, isN, flat_tp, flat_in, flat_bo, flat_no, flats_nl, flats_cn,
  List.map_cons, List.map_nil, List.length_cons, List.length_nil, List.replicate, List.getElem?_cons_zero, List.getElem?_cons_succ, List.getElem?_nil, List.cons_append, List.nil_append, Option.bind_some, Option.bind_none, Option.bind_assoc, Option.map_some, Option.map_none, Nat.reduceAdd, Nat.reduceSub, Nat.reduceLeDiff, List.set_cons_zero, List.set_cons_succ, if_true, if_false, ite_true, ite_false, reduceCtorEq, Bool.false_eq_true, Bool.not_true, Bool.not_false, ↓reduceIte, eq_self, ySet, yRet, yIf, x2, x1, xA, xNil, xCons, xP, xT, xB, xAnd, intB, hr, c1, decide_false, false_and]
theorem sc_turn {cs : List (List Int)} (g : Gr cs) {ws : List (Int × Int × Int)} (hw : Ws cs ws) {a b q r c s : Int} {u8 : SL} (hb : 0 ≤ b) (q0 : 0 < q) (q1 : q < 10) (hc : inG cs r c = true) (s0 : 0 ≤ s) (s3 : s ≤ 3) :
    ∃ a' b' ws' u, 0 ≤ b' ∧ Ws cs ws' ∧ scBody [Dn a b, .dat (eCells cs), .own (ws.map eW), .own ((ws.map face).map eW), .dat (.int q), .dat (.int r), .dat (.int c), .dat (.int s), u8] = some (.nx [Dn a' b', .dat (eCells cs), .own (ws'.map eW), .own ((ws'.map face).map eW), .dat (.int q), .dat (.int r), .dat (.int c), .dat (.int s), u]) := by
  obtain ⟨v, a', b', e, p1, p2, hb'⟩ := xroll (a := a) (b := b) (mr := aCons (mV 4) aNil) (m := q) (T := [.dat (eCells cs), .own (ws.map eW), .own ((ws.map face).map eW), .dat (.int q), .dat (.int r), .dat (.int c), .dat (.int s), .dat (eW (face (r, c, s)))]) rfl hb q0 (by omega)
  have wl := hw.wl
  have t := sc_go (u8 := u8) (l_face g (w := (r, c, s)) hc s0 s3) e (nin_list _ _) (n := ws.length) (by show some (D.int ((ws.map eW).length : Nat)) = _; rw [List.length_map]) (by rw [List.length_map]; omega) (by rw [List.length_map, List.length_map]; omega)
  rw [t]
  by_cases k : 0 < v ∧ (!decide (face (r, c, s) ∈ ws.map face)) = true ∧ (ws.length : Int) < 40
  · rw [if_pos k]
    have k2 : face (r, c, s) ∉ ws.map face := by simpa only [Bool.not_eq_true', decide_eq_false_iff_not] using k.2.1
    refine ⟨a', b', ws ++ [(r, c, s)], .dat (eW (face (r, c, s))), hb', hw.snoc (by omega) ⟨hc, s0, s3⟩ k2, ?_⟩
    rw [← snoc_eW, ← snoc_face]
    rfl
  · rw [if_neg k]
    exact ⟨a', b', ws, _, hb', hw, rfl⟩
/-- what holds between the turns -/
def ScR (cs : List (List Int)) (q : Int) (S : Sl) : Prop := ∃ a b ws u5 u6 u7 u8, 0 ≤ b ∧ Ws cs ws ∧ S = [Dn a b, .dat (eCells cs), .own (ws.map eW), .own ((ws.map face).map eW), .dat (.int q), u5, u6, u7, u8]
def sc4 : Ms := sFor (itR1 (aCons (mC (.int 4)) aNil)) (.nm 7) scBody
def sc6 : Ms := sFor (itR1 (aCons (mA lenA (aCons (m2 ixD (mV 1) (mC (.int 0))) aNil)) aNil)) (.nm 6) sc4
theorem sc4_ok {cs : List (List Int)} (g : Gr cs) {q r c : Int} (q0 : 0 < q) (q1 : q < 10) (hc : inG cs r c = true) {a b : Int} {ws : List (Int × Int × Int)} {u7 u8 : SL} (hb : 0 ≤ b) (hw : Ws cs ws) :
    ∃ a' b' ws' u7' u8', 0 ≤ b' ∧ Ws cs ws' ∧ sc4 [Dn a b, .dat (eCells cs), .own (ws.map eW), .own ((ws.map face).map eW), .dat (.int q), .dat (.int r), .dat (.int c), u7, u8] = some (.nx [Dn a' b', .dat (eCells cs), .own (ws'.map eW), .own ((ws'.map face).map eW), .dat (.int q), .dat (.int r), .dat (.int c), u7', u8']) := by
  obtain ⟨S', e, a', b', ws', u7', u8', k1, k2, rfl⟩ := sFor_rel (mi := itR1 (aCons (mC (.int 4)) aNil)) (t := .nm 7) (b := scBody) (fun (i : Nat) => D.int (i : Int))
    (fun n (_ : Unit) S' => ∃ a' b' ws' u7' u8', 0 ≤ b' ∧ Ws cs ws' ∧ S' = [Dn a' b', .dat (eCells cs), .own (ws'.map eW), .own ((ws'.map face).map eW), .dat (.int q), .dat (.int r), .dat (.int c), u7', u8']) (fun z _ => z) (List.range 4) ()
    (S := [Dn a b, .dat (eCells cs), .own (ws.map eW), .own ((ws.map face).map eW), .dat (.int q), .dat (.int r), .dat (.int c), u7, u8]) (itR1_at (n := 4) rfl (by decide)) ⟨a, b, ws, u7, u8, hb, hw, rfl⟩ (by
    rintro n z S' ⟨a', b', ws', u7', u8', k1, k2, rfl⟩ s hs
    have hs' := List.mem_range.mp hs
    obtain ⟨a2, b2, ws2, u, g1, g2, t⟩ := sc_turn g k2 (a := a') (s := s) (u8 := u8') k1 q0 q1 hc (by omega) (by omega)
    exact turn_go (b := scBody) (d := .int s) rfl t ⟨a2, b2, ws2, _, u, g1, g2, rfl⟩)
  exact ⟨a', b', ws', u7', u8', k1, k2, e⟩
theorem sc6_ok {cs : List (List Int)} (g : Gr cs) {q : Int} {r : Nat} (q0 : 0 < q) (q1 : q < 10) (hr : r < cs.length) {a b : Int} {ws : List (Int × Int × Int)} {u6 u7 u8 : SL} (hb : 0 ≤ b) (hw : Ws cs ws) :
    ∃ a' b' ws' u6' u7' u8', 0 ≤ b' ∧ Ws cs ws' ∧ sc6 [Dn a b, .dat (eCells cs), .own (ws.map eW), .own ((ws.map face).map eW), .dat (.int q), .dat (.int r), u6, u7, u8] = some (.nx [Dn a' b', .dat (eCells cs), .own (ws'.map eW), .own ((ws'.map face).map eW), .dat (.int q), .dat (.int r), u6', u7', u8']) := by
  have hwd : lenA [eRow (cs.headD [])] = some (.int (wide cs : Nat)) := len_row _
  have hz := g.zero
  have wi := g.wi
  obtain ⟨S', e, a', b', ws', u6', u7', u8', k1, k2, rfl⟩ := sFor_rel (mi := itR1 (aCons (mA lenA (aCons (m2 ixD (mV 1) (mC (.int 0))) aNil)) aNil)) (t := .nm 6) (b := sc4) (fun (i : Nat) => D.int (i : Int))
    (fun n (_ : Unit) S' => ∃ a' b' ws' u6' u7' u8', 0 ≤ b' ∧ Ws cs ws' ∧ S' = [Dn a' b', .dat (eCells cs), .own (ws'.map eW), .own ((ws'.map face).map eW), .dat (.int q), .dat (.int r), u6', u7', u8']) (fun z _ => z) (List.range (wide cs)) ()
    (S := [Dn a b, .dat (eCells cs), .own (ws.map eW), .own ((ws.map face).map eW), .dat (.int q), .dat (.int r), u6, u7, u8]) (itR1_at (by simp (config := { decide := false }) only [runF, initS, sSeq, sIf, sRet, sRetN, sSet, sSetF, sSetO, sDrop, sNext, sNever, sUnp, sUnpF, sApp, sAppF, sLend, sAugI, asgL_nm, asgL_tp, asgL_wt, asgsL_nil, asgsL_cons, asg_nm, asg_tp, asgs_nil, asgs_cons, wipeD, mAnd, mOr, mNot, mB, mTr, m2, m1, mV, mC, mA, mCh, mAndV, mOrV, aCons, aNil, guardN, op, cl, fl, opn, clos, flt, eqD_int, neD_int, gtD, ltD, leD, geD, addD, subD, negD, tupD, lstD, tupF, lstF, outD, notD, tru, isD, isnD, isN, flat_tp, flat_in, flat_bo, flat_no, flats_nl, flats_cn,
  List.map_cons, List.map_nil, List.length_cons, List.length_nil, List.replicate, List.getElem?_cons_zero, List.getElem?_cons_succ, List.getElem?_nil, List.cons_append, List.nil_append, Option.bind_some, Option.bind_none, Option.bind_assoc, Option.map_some, Option.map_none, Nat.reduceAdd, Nat.reduceSub, Nat.reduceLeDiff, List.set_cons_zero, List.set_cons_succ, if_true, if_false, ite_true, ite_false, reduceCtorEq, Bool.false_eq_true, Bool.not_true, Bool.not_false, ↓reduceIte, eq_self, hz, hwd]) (by omega)) ⟨a, b, ws, u6, u7, u8, hb, hw, rfl⟩ (by
    rintro n z S' ⟨a', b', ws', u6', u7', u8', k1, k2, rfl⟩ c hc
    have hc' := List.mem_range.mp hc
    obtain ⟨a2, b2, ws2, v7, v8, g1, g2, t⟩ := sc4_ok g (r := r) (c := c) q0 q1 (inG_iff.mpr ⟨⟨by omega, by omega⟩, by omega, by omega⟩) (a := a') (u7 := u7') (u8 := u8') k1 k2
    exact turn_go (b := sc4) (d := .int c) rfl t ⟨a2, b2, ws2, _, v7, v8, g1, g2, rfl⟩)
  exact ⟨a', b', ws', u6', u7', u8', k1, k2, e⟩
theorem Ws.rev {cs : List (List Int)} {ws : List (Int × Int × Int)} (h : Ws cs ws) : Ws cs ws.reverse :=
  ⟨by rw [List.length_reverse]; exact h.wl, fun w hw => h.wr w (List.mem_reverse.mp hw), by
    rw [List.map_reverse]
    unfold List.Nodup
    rw [List.pairwise_reverse]
    exact List.Pairwise.imp (fun h => h.symm) h.nd⟩
theorem l_screens {cs : List (List Int)} (g : Gr cs) {a b : Int} (hb : 0 ≤ b) : ∃ ws a' b', Ws cs ws ∧ 0 ≤ b' ∧ G__law_screens [.int a, .int b] [eCells cs] = some (eWalls ws, [.int a', .int b']) := by
  have hi := g.hi
  obtain ⟨q, a1, b1, r1, p1, q1, hb1⟩ := xroll (a := a) (b := b) (mr := aCons (mC (.int 5)) aNil) (m := 5) (T := [.dat (eCells cs), .own [], .own [], .un, .un, .un, .un, .un]) rfl hb (by decide) (by decide)
  obtain ⟨S', e, a2, b2, ws, u5, u6, u7, u8, k1, k2, rfl⟩ := sFor_rel (mi := itR1 (aCons (mA lenA (aCons (mV 1) aNil)) aNil)) (t := .nm 5) (b := sc6) (fun (i : Nat) => D.int (i : Int))
    (fun n (_ : Unit) S' => ∃ a' b' ws' u5 u6 u7 u8, 0 ≤ b' ∧ Ws cs ws' ∧ S' = [Dn a' b', .dat (eCells cs), .own (ws'.map eW), .own ((ws'.map face).map eW), .dat (.int (1 + q)), u5, u6, u7, u8]) (fun z _ => z) (List.range cs.length) ()
    (S := [Dn a1 b1, .dat (eCells cs), .own [], .own [], .dat (.int (1 + q)), .un, .un, .un, .un]) (itR1_at (by simp (config := { decide := false }) only [runF, initS, sSeq, sIf, sRet, sRetN, sSet, sSetF, sSetO, sDrop, sNext, sNever, sUnp, sUnpF, sApp, sAppF, sLend, sAugI, asgL_nm, asgL_tp, asgL_wt, asgsL_nil, asgsL_cons, asg_nm, asg_tp, asgs_nil, asgs_cons, wipeD, mAnd, mOr, mNot, mB, mTr, m2, m1, mV, mC, mA, mCh, mAndV, mOrV, aCons, aNil, guardN, op, cl, fl, opn, clos, flt, eqD_int, neD_int, gtD, ltD, leD, geD, addD, subD, negD, tupD, lstD, tupF, lstF, outD, notD, tru, isD, isnD, isN, flat_tp, flat_in, flat_bo, flat_no, flats_nl, flats_cn,
  List.map_cons, List.map_nil, List.length_cons, List.length_nil, List.replicate, List.getElem?_cons_zero, List.getElem?_cons_succ, List.getElem?_nil, List.cons_append, List.nil_append, Option.bind_some, Option.bind_none, Option.bind_assoc, Option.map_some, Option.map_none, Nat.reduceAdd, Nat.reduceSub, Nat.reduceLeDiff, List.set_cons_zero, List.set_cons_succ, if_true, if_false, ite_true, ite_false, reduceCtorEq, Bool.false_eq_true, Bool.not_true, Bool.not_false, ↓reduceIte, eq_self, len_cells]) (by omega)) ⟨a1, b1, [], .un, .un, .un, .un, hb1, ⟨Nat.zero_le _, fun _ h => (by cases h), List.Pairwise.nil⟩, rfl⟩ (by
    rintro n z S' ⟨a', b', ws', u5, u6, u7, u8, k1, k2, rfl⟩ r hr
    obtain ⟨a2, b2, ws2, v6, v7, v8, g1, g2, t⟩ := sc6_ok g (q := 1 + q) (by omega) (by omega) (List.mem_range.mp hr) (a := a') (u6 := u6) (u7 := u7) (u8 := u8) k1 k2
    exact turn_go (b := sc6) (d := .int r) rfl t ⟨a2, b2, ws2, _, v6, v7, v8, g1, g2, rfl⟩)
  obtain ⟨v, a3, b3, r3, p3, q3, hb3⟩ := xroll (a := a2) (b := b2) (mr := aCons (mC (.int 2)) aNil) (m := 2) (T := [.dat (eCells cs), .own (ws.map eW), .own ((ws.map face).map eW), .dat (.int (1 + q)), u5, u6, u7, u8]) rfl k1 (by decide) (by decide)
  have fin : ∀ ws', Ws cs ws' → yIf (xB (x2 eqD (xCall 0 2 G__law_roll (aCons (mC (.int 2)) aNil)) (xP (mC (.int 0))))) (yRev 2) sNext [Dn a2 b2, .dat (eCells cs), .own (ws.map eW), .own ((ws.map face).map eW), .dat (.int (1 + q)), u5, u6, u7, u8] = some (.nx [Dn a3 b3, .dat (eCells cs), .own (ws'.map eW), .own ((ws.map face).map eW), .dat (.int (1 + q)), u5, u6, u7, u8]) →
      G__law_screens [.int a, .int b] [eCells cs] = some (eWalls ws', [.int a3, .int b3]) := fun ws' hw' t => by
    unfold G__law_screens
    refine runX_rt (S := [.dat (eCells cs), .own (ws'.map eW), .own ((ws.map face).map eW), .dat (.int (1 + q)), u5, u6, u7, u8]) ?_ (flats_map fun _ _ => rfl) rfl
    unfold mr__law_screens
    apply Eq.trans
    · apply sSeq_nx (S1 := [Dn a b, .dat (eCells cs), .own [], .un, .un, .un, .un, .un, .un])
      rfl
    apply Eq.trans
    · apply sSeq_nx (S1 := [Dn a b, .dat (eCells cs), .own [], .own [], .un, .un, .un, .un, .un])
      rfl
    apply Eq.trans
    · apply sSeq_nx (S1 := [Dn a1 b1, .dat (eCells cs), .own [], .own [], .dat (.int (1 + q)), .un, .un, .un, .un])
      simp (config := { decide := false }) only [runF, initS, sSeq, sIf, sRet, sRetN, sSet, sSetF, sSetO, sDrop, sNext, sNever, sUnp, sUnpF, sApp, sAppF, sLend, sAugI, asgL_nm, asgL_tp, asgL_wt, asgsL_nil, asgsL_cons, asg_nm, asg_tp, asgs_nil, asgs_cons, wipeD, mAnd, mOr, mNot, mB, mTr, m2, m1, mV, mC, mA, mCh, mAndV, mOrV, aCons, aNil, guardN, op, cl, fl, opn, clos, flt, eqD_int, neD_int, gtD, ltD, leD, geD, addD, subD, negD, tupD, lstD, tupF, lstF, outD, notD, tru, isD, isnD, isN, flat_tp, flat_in, flat_bo, flat_no, flats_nl, flats_cn,
  List.map_cons, List.map_nil, List.length_cons, List.length_nil, List.replicate, List.getElem?_cons_zero, List.getElem?_cons_succ, List.getElem?_nil, List.cons_append, List.nil_append, Option.bind_some, Option.bind_none, Option.bind_assoc, Option.map_some, Option.map_none, Nat.reduceAdd, Nat.reduceSub, Nat.reduceLeDiff, List.set_cons_zero, List.set_cons_succ, if_true, if_false, ite_true, ite_false, reduceCtorEq, Bool.false_eq_true, Bool.not_true, Bool.not_false, ↓reduceIte, eq_self, ySet, yRet, yIf, x2, x1, xA, xNil, xCons, xP, xT, xB, xAnd, intB, r1]
    refine (sSeq_nx e).trans ?_
    refine (sSeq_nx t).trans ?_
    rfl
  by_cases c : v = 0
  · refine ⟨ws.reverse, a3, b3, k2.rev, hb3, fin _ k2.rev ?_⟩
    subst c
    simp (config := { decide := false }) only [runF, initS, sSeq, sIf, sRet, sRetN, sSet, sSetF, sSetO, sDrop, sNext, sNever, sUnp, sUnpF, sApp, sAppF, sLend, sAugI, asgL_nm, asgL_tp, asgL_wt, asgsL_nil, asgsL_cons, asg_nm, asg_tp, asgs_nil, asgs_cons, wipeD, mAnd, mOr, mNot, mB, mTr, m2, m1, mV, mC, mA, mCh, mAndV, mOrV, aCons, aNil, guardN, op, cl, fl, opn, clos, flt, eqD_int, neD_int, gtD, ltD, leD, geD, addD, subD, negD, tupD, lstD, tupF, lstF, outD, notD, tru, isD, isnD, isN, flat_tp, flat_in, flat_bo, flat_no, flats_nl, flats_cn,
  List.map_cons, List.map_nil, List.length_cons, List.length_nil, List.replicate, List.getElem?_cons_zero, List.getElem?_cons_succ, List.getElem?_nil, List.cons_append, List.nil_append, Option.bind_some, Option.bind_none, Option.bind_assoc, Option.map_some, Option.map_none, Nat.reduceAdd, Nat.reduceSub, Nat.reduceLeDiff, List.set_cons_zero, List.set_cons_succ, if_true, if_false, ite_true, ite_false, reduceCtorEq, Bool.false_eq_true, Bool.not_true, Bool.not_false, ↓reduceIte, eq_self, ySet, yRet, yIf, x2, x1, xA, xNil, xCons, xP, xT, xB, xAnd, intB, r3, beq_self_eq_true, yRev, List.map_reverse]
  · refine ⟨ws, a3, b3, k2, hb3, fin _ k2 ?_⟩
    have : (v == 0) = false := beq_eq_false_iff_ne.mpr c
    simp (config := { decide := false }) only [runF, initS, sSeq, sIf, sRet, sRetN, sSet, sSetF, sSetO, sDrop, sNext, sNever, sUnp, sUnpF, sApp, sAppF, sLend, sAugI, asgL_nm, asgL_tp, asgL_wt, asgsL_nil, asgsL_cons, asg_nm, asg_tp, asgs_nil, asgs_cons, wipeD, mAnd, mOr, mNot, mB, mTr, m2, m1, mV, mC, mA, mCh, mAndV, mOrV, aCons, aNil, guardN, op, cl, fl, opn, clos, flt, eqD_int, neD_int, gtD, ltD, leD, geD, addD, subD, negD, tupD, lstD, tupF, lstF, outD, notD, tru, isD, isnD, isN, flat_tp, flat_in, flat_bo, flat_no, flats_nl, flats_cn,
  List.map_cons, List.map_nil, List.length_cons, List.length_nil, List.replicate, List.getElem?_cons_zero, List.getElem?_cons_succ, List.getElem?_nil, List.cons_append, List.nil_append, Option.bind_some, Option.bind_none, Option.bind_assoc, Option.map_some, Option.map_none, Nat.reduceAdd, Nat.reduceSub, Nat.reduceLeDiff, List.set_cons_zero, List.set_cons_succ, if_true, if_false, ite_true, ite_false, reduceCtorEq, Bool.false_eq_true, Bool.not_true, Bool.not_false, ↓reduceIte, eq_self, ySet, yRet, yIf, x2, x1, xA, xNil, xCons, xP, xT, xB, xAnd, intB, r3, this]
end Ice

namespace Ice
open PySem PySem.Spec PyProof.Rows L2
/-! ### the house by chance is good; the law -/
def eNs (ns : List Int) : D := .fz (ns.map .int)
theorem l_cell_at (ns : List Int) (k : Nat) : ∃ x, G__law_cell_at [eNs ns, .int k] = some (.int x) := by
  have hl : lenA [eNs ns] = some (.int ns.length) := by
    show some (D.int ((ns.map D.int).length : Nat)) = _
    rw [List.length_map]
  by_cases c : (k : Int) < ns.length
  · have hx : ixD (eNs ns) (.int k) = some (.int (ns.getD k 0)) := by
      show atI (ns.map D.int) (k : Int) = _
      have h : k < ns.length := by omega
      refine atI_nat ?_
      rw [List.getElem?_map, List.getElem?_eq_getElem h, List.getD_eq_getElem?_getD, List.getElem?_eq_getElem h]
      rfl
    refine ⟨ns.getD k 0, ?_⟩
    unfold G__law_cell_at
    refine run_rt (S := [.dat (eNs ns), .dat (.int k)]) ?_
    unfold mr__law_cell_at
    apply sSeq_rt
    simp (config := { decide := false }) only [runF, initS, sSeq, sIf, sRet, sRetN, sSet, sSetF, sSetO, sDrop, sNext, sNever, sUnp, sUnpF, sApp, sAppF, sLend, sAugI, asgL_nm, asgL_tp, asgL_wt, asgsL_nil, asgsL_cons, asg_nm, asg_tp, asgs_nil, asgs_cons, wipeD, mAnd, mOr, mNot, mB, mTr, m2, m1, mV, mC, mA, mCh, mAndV, mOrV, aCons, aNil, guardN, op, cl, fl, opn, clos, flt, eqD_int, neD_int, gtD, ltD, leD, geD, addD, subD, negD, tupD, lstD, tupF, lstF, outD, notD, tru, isD, isnD, isN, flat_tp, flat_in, flat_bo, flat_no, flats_nl, flats_cn,
  List.map_cons, List.map_nil, List.length_cons, List.length_nil, List.replicate, List.getElem?_cons_zero, List.getElem?_cons_succ, List.getElem?_nil, List.cons_append, List.nil_append, Option.bind_some, Option.bind_none, Option.bind_assoc, Option.map_some, Option.map_none, Nat.reduceAdd, Nat.reduceSub, Nat.reduceLeDiff, List.set_cons_zero, List.set_cons_succ, if_true, if_false, ite_true, ite_false, reduceCtorEq, Bool.false_eq_true, Bool.not_true, Bool.not_false, ↓reduceIte, eq_self, hl, c, decide_true, hx]
  · refine ⟨0, ?_⟩
    unfold G__law_cell_at
    refine run_rt (S := [.dat (eNs ns), .dat (.int k)]) ?_
    unfold mr__law_cell_at
    apply Eq.trans
    · apply sSeq_nx (S1 := [.dat (eNs ns), .dat (.int k)])
      simp (config := { decide := false }) only [runF, initS, sSeq, sIf, sRet, sRetN, sSet, sSetF, sSetO, sDrop, sNext, sNever, sUnp, sUnpF, sApp, sAppF, sLend, sAugI, asgL_nm, asgL_tp, asgL_wt, asgsL_nil, asgsL_cons, asg_nm, asg_tp, asgs_nil, asgs_cons, wipeD, mAnd, mOr, mNot, mB, mTr, m2, m1, mV, mC, mA, mCh, mAndV, mOrV, aCons, aNil, guardN, op, cl, fl, opn, clos, flt, eqD_int, neD_int, gtD, ltD, leD, geD, addD, subD, negD, tupD, lstD, tupF, lstF, outD, notD, tru, isD, isnD, isN, flat_tp, flat_in, flat_bo, flat_no, flats_nl, flats_cn,
  List.map_cons, List.map_nil, List.length_cons, List.length_nil, List.replicate, List.getElem?_cons_zero, List.getElem?_cons_succ, List.getElem?_nil, List.cons_append, List.nil_append, Option.bind_some, Option.bind_none, Option.bind_assoc, Option.map_some, Option.map_none, Nat.reduceAdd, Nat.reduceSub, Nat.reduceLeDiff, List.set_cons_zero, List.set_cons_succ, if_true, if_false, ite_true, ite_false, reduceCtorEq, Bool.false_eq_true, Bool.not_true, Bool.not_false, ↓reduceIte, eq_self, hl, c, decide_false]
    simp (config := { decide := false }) only [runF, initS, sSeq, sIf, sRet, sRetN, sSet, sSetF, sSetO, sDrop, sNext, sNever, sUnp, sUnpF, sApp, sAppF, sLend, sAugI, asgL_nm, asgL_tp, asgL_wt, asgsL_nil, asgsL_cons, asg_nm, asg_tp, asgs_nil, asgs_cons, wipeD, mAnd, mOr, mNot, mB, mTr, m2, m1, mV, mC, mA, mCh, mAndV, mOrV, aCons, aNil, guardN, op, cl, fl, opn, clos, flt, eqD_int, neD_int, gtD, ltD, leD, geD, addD, subD, negD, tupD, lstD, tupF, lstF, outD, notD, tru, isD, isnD, isN, flat_tp, flat_in, flat_bo, flat_no, flats_nl, flats_cn,
  List.map_cons, List.map_nil, List.length_cons, List.length_nil, List.replicate, List.getElem?_cons_zero, List.getElem?_cons_succ, List.getElem?_nil, List.cons_append, List.nil_append, Option.bind_some, Option.bind_none, Option.bind_assoc, Option.map_some, Option.map_none, Nat.reduceAdd, Nat.reduceSub, Nat.reduceLeDiff, List.set_cons_zero, List.set_cons_succ, if_true, if_false, ite_true, ite_false, reduceCtorEq, Bool.false_eq_true, Bool.not_true, Bool.not_false, ↓reduceIte, eq_self]
theorem l_dice (x : Int) : ∃ a b, 0 ≤ b ∧ G__law_dice [.int x] = some (.lst [.int a, .int b]) := by
  have e1 : modD (.int x) (.int 2147483647) = some (.int (x % 2147483647)) := by
    unfold modD
    exact if_pos (by omega)
  have e2 : divW (.int x) (.int 2147483647) = some (.int (x / 2147483647)) := by
    unfold divW
    exact if_pos (by omega)
  have e3 : powD (.int 10) (.int 18) = some (.int 1000000000000000000) := rfl
  have e4 := mul_small (i := x / 2147483647) (if01 (decide (1000000000000000000 ≤ x))).1 (by have := (if01 (decide (1000000000000000000 ≤ x))).2; omega)
  refine ⟨x % 2147483647, x / 2147483647 * (if decide (1000000000000000000 ≤ x) then 1 else 0), ?_, ?_⟩
  · by_cases c : 1000000000000000000 ≤ x
    · rw [decide_eq_true c]
      simp only [if_true, Int.mul_one]
      omega
    · rw [decide_eq_false c]
      simp only [Bool.false_eq_true, if_false, Int.mul_zero]
      omega
  · unfold G__law_dice
    refine run_rt (S := [.dat (.int x)]) ?_
    unfold mr__law_dice
    simp (config := { decide := false }) only [runF, initS, sSeq, sIf, sRet, sRetN, sSet, sSetF, sSetO, sDrop, sNext, sNever, sUnp, sUnpF, sApp, sAppF, sLend, sAugI, asgL_nm, asgL_tp, asgL_wt, asgsL_nil, asgsL_cons, asg_nm, asg_tp, asgs_nil, asgs_cons, wipeD, mAnd, mOr, mNot, mB, mTr, m2, m1, mV, mC, mA, mCh, mAndV, mOrV, aCons, aNil, guardN, op, cl, fl, opn, clos, flt, eqD_int, neD_int, gtD, ltD, leD, geD, addD, subD, negD, tupD, lstD, tupF, lstF, outD, notD, tru, isD, isnD, isN, flat_tp, flat_in, flat_bo, flat_no, flats_nl, flats_cn,
  List.map_cons, List.map_nil, List.length_cons, List.length_nil, List.replicate, List.getElem?_cons_zero, List.getElem?_cons_succ, List.getElem?_nil, List.cons_append, List.nil_append, Option.bind_some, Option.bind_none, Option.bind_assoc, Option.map_some, Option.map_none, Nat.reduceAdd, Nat.reduceSub, Nat.reduceLeDiff, List.set_cons_zero, List.set_cons_succ, if_true, if_false, ite_true, ite_false, reduceCtorEq, Bool.false_eq_true, Bool.not_true, Bool.not_false, ↓reduceIte, eq_self, ySet, yRet, yIf, x2, x1, xA, xNil, xCons, xP, xT, xB, xAnd, intB, e1, e2, e3, e4, lstD]
theorem house_eval {S0 H : D} {x y a b a1 b1 a2 b2 a3 b3 p d q : Int} {C W : D} {m : Int} (h1 : G__law_cell_at [S0, .int 0] = some (.int x)) (h2 : G__law_cell_at [S0, .int 1] = some (.int y)) (h3 : G__law_dice [.int x] = some (.lst [.int a, .int b]))
    (hm : modD (.int y) (.int m) = some (.int p)) (hd : divD (.int y) (.int m) = some (.int d)) (hw : modD (.int d) (.int m) = some (.int q))
    (h4 : G__law_cells [.int a, .int b] [.int (1 + p), .int (1 + q)] = some (C, [.int a1, .int b1])) (h5 : G__law_heats [.int a1, .int b1] [] = some (H, [.int a2, .int b2])) (h6 : G__law_screens [.int a2, .int b2] [C] = some (W, [.int a3, .int b3])) :
    G__law_house [S0, .int m] = some (.tup [H, C, W]) := by
  unfold G__law_house
  refine run_rt (S := [.dat S0, .dat (.int m), .own [.int a3, .int b3], .dat (.int y), .dat C, .dat H]) ?_
  unfold mr__law_house
  apply Eq.trans
  · apply sSeq_nx (S1 := [.dat S0, .dat (.int m), .own [.int a, .int b], .un, .un, .un])
    unfold yOwn
    simp (config := { decide := false }) only [runF, initS, sSeq, sIf, sRet, sRetN, sSet, sSetF, sSetO, sDrop, sNext, sNever, sUnp, sUnpF, sApp, sAppF, sLend, sAugI, asgL_nm, asgL_tp, asgL_wt, asgsL_nil, asgsL_cons, asg_nm, asg_tp, asgs_nil, asgs_cons, wipeD, mAnd, mOr, mNot, mB, mTr, m2, m1, mV, mC, mA, mCh, mAndV, mOrV, aCons, aNil, guardN, op, cl, fl, opn, clos, flt, eqD_int, neD_int, gtD, ltD, leD, geD, addD, subD, negD, tupD, lstD, tupF, lstF, outD, notD, tru, isD, isnD, isN, flat_tp, flat_in, flat_bo, flat_no, flats_nl, flats_cn,
  List.map_cons, List.map_nil, List.length_cons, List.length_nil, List.replicate, List.getElem?_cons_zero, List.getElem?_cons_succ, List.getElem?_nil, List.cons_append, List.nil_append, Option.bind_some, Option.bind_none, Option.bind_assoc, Option.map_some, Option.map_none, Nat.reduceAdd, Nat.reduceSub, Nat.reduceLeDiff, List.set_cons_zero, List.set_cons_succ, if_true, if_false, ite_true, ite_false, reduceCtorEq, Bool.false_eq_true, Bool.not_true, Bool.not_false, ↓reduceIte, eq_self, h1, h3, and_self]
    rfl
  apply Eq.trans
  · apply sSeq_nx (S1 := [.dat S0, .dat (.int m), .own [.int a, .int b], .dat (.int y), .un, .un])
    simp (config := { decide := false }) only [runF, initS, sSeq, sIf, sRet, sRetN, sSet, sSetF, sSetO, sDrop, sNext, sNever, sUnp, sUnpF, sApp, sAppF, sLend, sAugI, asgL_nm, asgL_tp, asgL_wt, asgsL_nil, asgsL_cons, asg_nm, asg_tp, asgs_nil, asgs_cons, wipeD, mAnd, mOr, mNot, mB, mTr, m2, m1, mV, mC, mA, mCh, mAndV, mOrV, aCons, aNil, guardN, op, cl, fl, opn, clos, flt, eqD_int, neD_int, gtD, ltD, leD, geD, addD, subD, negD, tupD, lstD, tupF, lstF, outD, notD, tru, isD, isnD, isN, flat_tp, flat_in, flat_bo, flat_no, flats_nl, flats_cn,
  List.map_cons, List.map_nil, List.length_cons, List.length_nil, List.replicate, List.getElem?_cons_zero, List.getElem?_cons_succ, List.getElem?_nil, List.cons_append, List.nil_append, Option.bind_some, Option.bind_none, Option.bind_assoc, Option.map_some, Option.map_none, Nat.reduceAdd, Nat.reduceSub, Nat.reduceLeDiff, List.set_cons_zero, List.set_cons_succ, if_true, if_false, ite_true, ite_false, reduceCtorEq, Bool.false_eq_true, Bool.not_true, Bool.not_false, ↓reduceIte, eq_self, h2]
  apply Eq.trans
  · apply sSeq_nx (S1 := [.dat S0, .dat (.int m), .own [.int a1, .int b1], .dat (.int y), .dat C, .un])
    have := xCall_own (i := 2) (n := 3) (g := G__law_cells) (mr := aCons (m2 addD (mC (.int 1)) (m2 modD (mV 3) (mV 1))) (aCons (m2 addD (mC (.int 1)) (m2 modD (m2 divD (mV 3) (mV 1)) (mV 1))) aNil)) (S := [.dat S0, .dat (.int m), .own [.int a, .int b], .dat (.int y), .un, .un]) rfl (by simp (config := { decide := false }) only [runF, initS, sSeq, sIf, sRet, sRetN, sSet, sSetF, sSetO, sDrop, sNext, sNever, sUnp, sUnpF, sApp, sAppF, sLend, sAugI, asgL_nm, asgL_tp, asgL_wt, asgsL_nil, asgsL_cons, asg_nm, asg_tp, asgs_nil, asgs_cons, wipeD, mAnd, mOr, mNot, mB, mTr, m2, m1, mV, mC, mA, mCh, mAndV, mOrV, aCons, aNil, guardN, op, cl, fl, opn, clos, flt, eqD_int, neD_int, gtD, ltD, leD, geD, addD, subD, negD, tupD, lstD, tupF, lstF, outD, notD, tru, isD, isnD, isN, flat_tp, flat_in, flat_bo, flat_no, flats_nl, flats_cn,
  List.map_cons, List.map_nil, List.length_cons, List.length_nil, List.replicate, List.getElem?_cons_zero, List.getElem?_cons_succ, List.getElem?_nil, List.cons_append, List.nil_append, Option.bind_some, Option.bind_none, Option.bind_assoc, Option.map_some, Option.map_none, Nat.reduceAdd, Nat.reduceSub, Nat.reduceLeDiff, List.set_cons_zero, List.set_cons_succ, if_true, if_false, ite_true, ite_false, reduceCtorEq, Bool.false_eq_true, Bool.not_true, Bool.not_false, ↓reduceIte, eq_self, hm, hd, hw]) h4 rfl rfl
    simp (config := { decide := false }) only [runF, initS, sSeq, sIf, sRet, sRetN, sSet, sSetF, sSetO, sDrop, sNext, sNever, sUnp, sUnpF, sApp, sAppF, sLend, sAugI, asgL_nm, asgL_tp, asgL_wt, asgsL_nil, asgsL_cons, asg_nm, asg_tp, asgs_nil, asgs_cons, wipeD, mAnd, mOr, mNot, mB, mTr, m2, m1, mV, mC, mA, mCh, mAndV, mOrV, aCons, aNil, guardN, op, cl, fl, opn, clos, flt, eqD_int, neD_int, gtD, ltD, leD, geD, addD, subD, negD, tupD, lstD, tupF, lstF, outD, notD, tru, isD, isnD, isN, flat_tp, flat_in, flat_bo, flat_no, flats_nl, flats_cn,
  List.map_cons, List.map_nil, List.length_cons, List.length_nil, List.replicate, List.getElem?_cons_zero, List.getElem?_cons_succ, List.getElem?_nil, List.cons_append, List.nil_append, Option.bind_some, Option.bind_none, Option.bind_assoc, Option.map_some, Option.map_none, Nat.reduceAdd, Nat.reduceSub, Nat.reduceLeDiff, List.set_cons_zero, List.set_cons_succ, if_true, if_false, ite_true, ite_false, reduceCtorEq, Bool.false_eq_true, Bool.not_true, Bool.not_false, ↓reduceIte, eq_self, ySet, yRet, yIf, x2, x1, xA, xNil, xCons, xP, xT, xB, xAnd, intB, this]
  apply Eq.trans
  · apply sSeq_nx (S1 := [.dat S0, .dat (.int m), .own [.int a2, .int b2], .dat (.int y), .dat C, .dat H])
    have := xCall_own (i := 2) (n := 1) (g := G__law_heats) (mr := aNil) (S := [.dat S0, .dat (.int m), .own [.int a1, .int b1], .dat (.int y), .dat C, .un]) rfl rfl h5 rfl rfl
    simp (config := { decide := false }) only [runF, initS, sSeq, sIf, sRet, sRetN, sSet, sSetF, sSetO, sDrop, sNext, sNever, sUnp, sUnpF, sApp, sAppF, sLend, sAugI, asgL_nm, asgL_tp, asgL_wt, asgsL_nil, asgsL_cons, asg_nm, asg_tp, asgs_nil, asgs_cons, wipeD, mAnd, mOr, mNot, mB, mTr, m2, m1, mV, mC, mA, mCh, mAndV, mOrV, aCons, aNil, guardN, op, cl, fl, opn, clos, flt, eqD_int, neD_int, gtD, ltD, leD, geD, addD, subD, negD, tupD, lstD, tupF, lstF, outD, notD, tru, isD, isnD, isN, flat_tp, flat_in, flat_bo, flat_no, flats_nl, flats_cn,
  List.map_cons, List.map_nil, List.length_cons, List.length_nil, List.replicate, List.getElem?_cons_zero, List.getElem?_cons_succ, List.getElem?_nil, List.cons_append, List.nil_append, Option.bind_some, Option.bind_none, Option.bind_assoc, Option.map_some, Option.map_none, Nat.reduceAdd, Nat.reduceSub, Nat.reduceLeDiff, List.set_cons_zero, List.set_cons_succ, if_true, if_false, ite_true, ite_false, reduceCtorEq, Bool.false_eq_true, Bool.not_true, Bool.not_false, ↓reduceIte, eq_self, ySet, yRet, yIf, x2, x1, xA, xNil, xCons, xP, xT, xB, xAnd, intB, this]
  have := xCall_own (i := 2) (n := 2) (g := G__law_screens) (mr := aCons (mV 4) aNil) (S := [.dat S0, .dat (.int m), .own [.int a2, .int b2], .dat (.int y), .dat C, .dat H]) rfl rfl h6 rfl rfl
  simp (config := { decide := false }) only [runF, initS, sSeq, sIf, sRet, sRetN, sSet, sSetF, sSetO, sDrop, sNext, sNever, sUnp, sUnpF, sApp, sAppF, sLend, sAugI, asgL_nm, asgL_tp, asgL_wt, asgsL_nil, asgsL_cons, asg_nm, asg_tp, asgs_nil, asgs_cons, wipeD, mAnd, mOr, mNot, mB, mTr, m2, m1, mV, mC, mA, mCh, mAndV, mOrV, aCons, aNil, guardN, op, cl, fl, opn, clos, flt, eqD_int, neD_int, gtD, ltD, leD, geD, addD, subD, negD, tupD, lstD, tupF, lstF, outD, notD, tru, isD, isnD, isN, flat_tp, flat_in, flat_bo, flat_no, flats_nl, flats_cn,
  List.map_cons, List.map_nil, List.length_cons, List.length_nil, List.replicate, List.getElem?_cons_zero, List.getElem?_cons_succ, List.getElem?_nil, List.cons_append, List.nil_append, Option.bind_some, Option.bind_none, Option.bind_assoc, Option.map_some, Option.map_none, Nat.reduceAdd, Nat.reduceSub, Nat.reduceLeDiff, List.set_cons_zero, List.set_cons_succ, if_true, if_false, ite_true, ite_false, reduceCtorEq, Bool.false_eq_true, Bool.not_true, Bool.not_false, ↓reduceIte, eq_self, ySet, yRet, yIf, x2, x1, xA, xNil, xCons, xP, xT, xB, xAnd, intB, this, tupD]
/-- a house by chance, of up to m rows and columns -/
theorem l_house (ns : List Int) {m : Int} (m1 : 1 ≤ m) (m4 : m ≤ 4) : ∃ h, G__law_house [eNs ns, .int m] = some (eH h) ∧ Ok h ∧ (h.cells.length : Int) ≤ m ∧ (wide h.cells : Int) ≤ m := by
  obtain ⟨x, hx⟩ := l_cell_at ns 0
  obtain ⟨y, hy⟩ := l_cell_at ns 1
  obtain ⟨a, b, hb, hd⟩ := l_dice x
  have p0 := Int.emod_nonneg y (b := m) (by omega)
  have p1 := Int.emod_lt_of_pos y (b := m) (by omega)
  have p2 := Int.emod_nonneg (y / m) (b := m) (by omega)
  have p3 := Int.emod_lt_of_pos (y / m) (b := m) (by omega)
  obtain ⟨cs, a1, b1, g, l1, l2, nn, hb1, hc⟩ := l_cells (a := a) (hi := (1 + y % m).toNat) (wd := (1 + y / m % m).toNat) (by omega) (by omega) hb
  obtain ⟨hs, a2, b2, hh, hb2, hg⟩ := l_heats (a := a1) hb1
  obtain ⟨ws, a3, b3, hw, hb3, hv⟩ := l_screens g (a := a2) hb2
  rw [Int.toNat_of_nonneg (by omega), Int.toNat_of_nonneg (by omega)] at hc
  refine ⟨⟨hs, cs, ws⟩, ?_, ⟨hh, g, nn, hw.wl, hw.wr, hw.nd⟩, ?_, ?_⟩
  · exact house_eval hx hy hd (by unfold modD; exact if_pos (by omega)) (by unfold divD; exact if_pos ⟨by omega, by omega⟩) (by unfold modD; exact if_pos (by omega)) hc hg hv
  · show (cs.length : Int) ≤ m
    omega
  · show (wide cs : Int) ≤ m
    omega
end Ice

namespace Ice
open PySem PySem.Spec PyProof.Rows L2
/-! ### texts of rows -/
def wS (i : Int) : Str := Str.ofString (toString i)
theorem str_int {i : Int} (h0 : 0 ≤ i) (h1 : i ≤ 9999) : strF [.int i] = some (.str (wS i)) := by
  show (if i.natAbs.log2 < 1920 then some (D.str (toString i)) else none) = _
  rw [if_pos]
  · rfl
  · by_cases c : i.natAbs = 0
    · rw [c]; decide
    · have : i.natAbs.log2 < 14 := (Nat.log2_lt c).mpr (by omega)
      omega
theorem len_wS {i : Int} (h0 : 0 ≤ i) (h1 : i ≤ 9999) : (wS i).length ≤ 4 := PyProof.Rows.toString_length_le h0 (by decide) (by omega)
theorem strs_map {α : Type} (f : α → Str) : ∀ (xs : List α), strsOf (xs.map fun x => D.str (f x)) = some (xs.map f)
  | [] => rfl
  | x :: xs => by
    show (strsOf (xs.map fun x => D.str (f x))).map (fun k => f x :: k) = _
    rw [strs_map f xs]
    rfl
theorem sum_le_of {xs : List Nat} {b : Nat} (h : ∀ x ∈ xs, x ≤ b) : xs.sum ≤ xs.length * b := by
  induction xs with
  | nil => exact Nat.zero_le _
  | cons x xs ih =>
    have a := h x List.mem_cons_self
    have c := ih fun y hy => h y (List.mem_cons_of_mem _ hy)
    rw [List.sum_cons, List.length_cons, Nat.add_mul, Nat.one_mul]
    omega
theorem len_join (s : Str) : ∀ (xs : List Str), (Str.join s xs).length ≤ (xs.map (·.length)).sum + xs.length * s.length
  | [] => Nat.zero_le _
  | [x] => by
    show x.length ≤ ([x].map (·.length)).sum + 1 * s.length
    simp only [List.map_cons, List.map_nil, List.sum_cons, List.sum_nil]
    omega
  | x :: y :: r => by
    have ih := len_join s (y :: r)
    show (x ++ s ++ Str.join s (y :: r)).length ≤ _
    rw [Str.length_append, Str.length_append]
    simp only [List.map_cons, List.sum_cons, List.length_cons] at ih ⊢
    rw [Nat.add_mul] at ih ⊢
    rw [Nat.add_mul r.length 1]
    omega
/-- a joined text of few short ones -/
theorem join_ok {s : Str} {xs : List Str} {b n : Nat} (h : ∀ x ∈ xs, x.length ≤ b) (hn : xs.length ≤ n) (hs : s.length ≤ 1) (hb : n * (b + 1) ≤ 16777216) : joinS s (xs.map D.str) = some (.str (Txt.join s xs)) ∧ (Txt.join s xs).length ≤ n * (b + 1) := by
  have e : strsOf (xs.map D.str) = some xs := by
    have := strs_map (fun x : Str => x) xs
    rw [List.map_id'] at this
    exact this
  have l1 : (xs.map (·.length)).sum ≤ xs.length * b := by
    have := sum_le_of (xs := xs.map (·.length)) (b := b) fun y hy => by
      obtain ⟨x, hx, rfl⟩ := List.mem_map.mp hy
      exact h x hx
    rw [List.length_map] at this
    exact this
  have l2 : xs.length * s.length ≤ xs.length * 1 := Nat.mul_le_mul_left _ hs
  have l3 : xs.length * (b + 1) ≤ n * (b + 1) := Nat.mul_le_mul_right _ hn
  have l4 : xs.length * (b + 1) = xs.length * b + xs.length * 1 := Nat.mul_add _ _ _
  refine ⟨?_, ?_⟩
  · unfold joinS
    rw [e]
    show (if (xs.map (·.length)).sum + xs.length * s.length ≤ 16777216 then some (D.str (Txt.join s xs)) else none) = _
    exact if_pos (by omega)
  · have := len_join s xs
    rw [TL.join_eq]
    omega
/-- a word and numbers -/
def rowT (w : Str) (r : List Int) : Str := Txt.join (" " : Str) (w :: r.map wS)
def rowOk (r : List Int) : Prop := r.length ≤ 5 ∧ ∀ x ∈ r, 0 ≤ x ∧ x ≤ 9999
theorem row_join {w : Str} {r : List Int} (hw : w.length ≤ 5) (h : rowOk r) : joinS (" " : Str) (D.str w :: r.map fun i => D.str (wS i)) = some (.str (rowT w r)) ∧ (rowT w r).length ≤ 36 := by
  have := join_ok (s := (" " : Str)) (xs := w :: r.map wS) (b := 5) (n := 6) (fun x hx => by
    rcases List.mem_cons.mp hx with rfl | hx
    · exact hw
    · obtain ⟨i, hi, rfl⟩ := List.mem_map.mp hx
      have := len_wS (h.2 i hi).1 (h.2 i hi).2
      omega) (by rw [List.length_cons, List.length_map]; have := h.1; omega) (by decide) (by decide)
  rw [List.map_cons, List.map_map] at this
  exact this
theorem row_lc {mi : Ma} {vs : List Nat} {t : Tg} {me : Mi} {S : Sd} {r : List Int} (h : rowOk r) (hi : mi S = some (r.map .int)) (he : ∀ i, 0 ≤ i → i ≤ 9999 → ∃ S1, asg t (.int i) (wipeD S vs) = some S1 ∧ me S1 = strF [.int i]) : mLc mi vs t mYes me S = some (.lst (r.map fun i => .str (wS i))) :=
  mLc_map (fun i : Int => D.int i) (fun i => D.str (wS i)) r hi (by have := h.1; omega) fun i hi => by
    obtain ⟨a, b⟩ := h.2 i hi
    obtain ⟨S1, e1, e2⟩ := he i a b
    exact ⟨S1, e1, e2.trans (str_int a b)⟩
theorem row_add {w : Str} {r : List Int} (h : rowOk r) : addD (.lst [.str w]) (.lst (r.map fun i => .str (wS i))) = some (.lst (.str w :: r.map fun i => .str (wS i))) := by
  show (if [D.str w].length + (r.map fun i => D.str (wS i)).length ≤ 1000000 then some (D.lst ([.str w] ++ r.map fun i => .str (wS i))) else none) = _
  rw [if_pos]
  · rfl
  · rw [List.length_map]
    have := h.1
    show 1 + r.length ≤ 1000000
    omega
theorem row_m {mi : Ma} {vs : List Nat} {t : Tg} {me : Mi} {S : Sd} {r : List Int} {w : Str} (hw : w.length ≤ 5) (h : rowOk r) (hi : mi S = some (r.map .int)) (he : ∀ i, 0 ≤ i → i ≤ 9999 → ∃ S1, asg t (.int i) (wipeD S vs) = some S1 ∧ me S1 = strF [.int i]) :
    m2 joinD (mC (.str " ")) (m2 addD (mA lstD (aCons (mC (.str w)) aNil)) (mLc mi vs t mYes me)) S = some (.str (rowT w r)) := by
  have e := row_lc h hi he
  have e2 := row_add (w := w) h
  have e3 := (row_join hw h).1
  generalize (r.map fun i => D.str (wS i)) = ys at *
  unfold m2
  show (some (D.str (" " : Str))).bind (fun x => ((some (D.lst [.str w])).bind fun x => (mLc mi vs t mYes me S).bind fun y => addD x y).bind fun y => joinD x y) = _
  rw [e]
  simp only [Option.bind_some, e2]
  exact e3
def w3 (w : Int × Int × Int) : List Int := [w.1, w.2.1, w.2.2]
theorem eW_row (w : Int × Int × Int) : eW w = eRow (w3 w) := rfl
/-- all rows of a house -/
def linesOf (h : Hs) : List Str := rowT "heats" h.heats :: (h.cells.map (rowT "row") ++ h.walls.map fun w => rowT "wall" (w3 w))
structure Rows (h : Hs) : Prop where
  a : rowOk h.heats
  b : ∀ r ∈ h.cells, rowOk r
  c : ∀ w ∈ h.walls, rowOk (w3 w)
  n : h.cells.length ≤ 4
  m : h.walls.length ≤ 40
theorem rows_of {h : Hs} (o : Ok h) : Rows h := by
  have hi := o.g.hi
  have wi := o.g.wi
  refine ⟨⟨by rw [o.hh.len]; decide, fun x hx => by have := o.hh.all x hx; omega⟩, fun r hr => ⟨by rw [o.g.all r hr]; omega, fun x hx => o.nn r hr x hx⟩, fun w hw => ⟨by show 3 ≤ 5; decide, fun x hx => ?_⟩, hi.2, o.wl⟩
  obtain ⟨a, b, c⟩ := o.wr w hw
  obtain ⟨⟨a0, a1⟩, b0, b1⟩ := inG_iff.mp a
  have hx' : x ∈ [w.1, w.2.1, w.2.2] := hx
  simp only [List.mem_cons, List.not_mem_nil, or_false] at hx'
  rcases hx' with rfl | rfl | rfl <;> omega
theorem lines_ok {h : Hs} (o : Rows h) : joinS ("\n" : Str) ((linesOf h).map D.str) = some (.str (Txt.join ("\n" : Str) (linesOf h))) := by
  refine (join_ok (b := 36) (n := 45) (fun x hx => ?_) ?_ (by decide) (by decide)).1
  · unfold linesOf at hx
    rcases List.mem_cons.mp hx with rfl | hx
    · exact (row_join (by decide) o.a).2
    · rcases List.mem_append.mp hx with hx | hx
      · obtain ⟨r, hr, rfl⟩ := List.mem_map.mp hx
        exact (row_join (by decide) (o.b r hr)).2
      · obtain ⟨w, hw, rfl⟩ := List.mem_map.mp hx
        exact (row_join (by decide) (o.c w hw)).2
  · unfold linesOf
    rw [List.length_cons, List.length_append, List.length_map, List.length_map]
    have := o.n
    have := o.m
    omega
theorem fold_snoc {α β : Type} (f : α → β) : ∀ (xs : List α) (z : List β), xs.foldl (fun z x => z ++ [f x]) z = z ++ xs.map f
  | [], z => by rw [List.map_nil, List.append_nil]; rfl
  | x :: xs, z => by rw [List.foldl_cons, fold_snoc f xs, List.map_cons, List.append_assoc]; rfl
/-! ### the law's text -/
def ltRow : Ms := sApp 1 (m2 joinD (mC (.str " ")) (m2 addD (mA lstD (aCons (mC (.str "row")) aNil)) (mLc (itT (mV 3)) [4] (.nm 4) mYes (mA strF (aCons (mV 4) aNil)))))
def ltWall : Ms := sApp 1 (m2 joinD (mC (.str " ")) (m2 addD (mA lstD (aCons (mC (.str "wall")) aNil)) (mLc (itT (mV 5)) [6] (.nm 6) mYes (mA strF (aCons (mV 6) aNil)))))
theorem sApp_at {i : Nat} {m : Mi} {S : Sl} {ds : List D} {d : D} (h0 : S[i]? = some (.own ds)) (h1 : m (cl S) = some d) (hl : ds.length < 1000000) : sApp i m S = some (.nx (S.set i (.own (ds ++ [d])))) := by
  unfold sApp
  rw [h0]
  simp only [h1, Option.map_some, hl, if_true]
theorem lt_row {H : D} {r : List Int} {zs : List Str} {u2 u4 u5 u6 : SL} (h : rowOk r) (hz : zs.length ≤ 100) : ltRow [.dat H, .own (zs.map .str), u2, .dat (eRow r), u4, u5, u6] = some (.nx [.dat H, .own ((zs ++ [rowT "row" r]).map .str), u2, .dat (eRow r), u4, u5, u6]) := by
  unfold ltRow
  have e := row_m (mi := itT (mV 3)) (vs := [4]) (t := .nm 4) (me := mA strF (aCons (mV 4) aNil)) (S := cl [.dat H, .own (zs.map .str), u2, .dat (eRow r), u4, u5, u6]) (w := "row") (by decide) h rfl (fun i _ _ => ⟨_, rfl, rfl⟩)
  rw [sApp_at (S := [.dat H, .own (zs.map .str), u2, .dat (eRow r), u4, u5, u6]) rfl e (by rw [List.length_map]; omega), List.map_append]
  rfl
theorem lt_wall {H : D} {w : Int × Int × Int} {zs : List Str} {u2 u3 u4 u6 : SL} (h : rowOk (w3 w)) (hz : zs.length ≤ 100) : ltWall [.dat H, .own (zs.map .str), u2, u3, u4, .dat (eW w), u6] = some (.nx [.dat H, .own ((zs ++ [rowT "wall" (w3 w)]).map .str), u2, u3, u4, .dat (eW w), u6]) := by
  unfold ltWall
  have e := row_m (mi := itT (mV 5)) (vs := [6]) (t := .nm 6) (me := mA strF (aCons (mV 6) aNil)) (S := cl [.dat H, .own (zs.map .str), u2, u3, u4, .dat (eW w), u6]) (r := w3 w) (w := "wall") (by decide) h rfl (fun i _ _ => ⟨_, rfl, rfl⟩)
  rw [sApp_at (S := [.dat H, .own (zs.map .str), u2, u3, u4, .dat (eW w), u6]) rfl e (by rw [List.length_map]; omega), List.map_append]
  rfl
theorem text_eval {H R C W : D} {t T : Str} {zs : List Str} {u3 u4 v3 v4 v5 v6 : SL} {o1 : List D} {cs ws : List D} (hH : H = .tup [R, C, W]) (fH : flat H = true)
    (e0 : m2 joinD (mC (.str " ")) (m2 addD (mA lstD (aCons (mC (.str "heats")) aNil)) (mLc (itT (m2 ixD (mV 0) (mC (.int 0)))) [2] (.nm 2) mYes (mA strF (aCons (mV 2) aNil)))) [some H, none, none, none, none, none, none] = some (.str t))
    (iC : itT (m2 ixD (mV 0) (mC (.int 1))) [some H, none, none, none, none, none, none] = some cs)
    (q1 : forM (.nm 3) ltRow cs [.dat H, .own [.str t], .un, .un, .un, .un, .un] = some (.nx [.dat H, .own o1, .un, u3, u4, .un, .un]))
    (iW : itT (m2 ixD (mV 0) (mC (.int 2))) (cl [.dat H, .own o1, .un, u3, u4, .un, .un]) = some ws)
    (q2 : forM (.nm 5) ltWall ws [.dat H, .own o1, .un, u3, u4, .un, .un] = some (.nx [.dat H, .own (zs.map .str), .un, v3, v4, v5, v6]))
    (e3 : joinS ("\n" : Str) (zs.map .str) = some (.str T)) : G__law_text [H] = some (.str T) := by
  unfold G__law_text
  refine run_rt (S := [.dat H, .own (zs.map .str), .un, v3, v4, v5, v6]) ?_
  unfold mr__law_text
  apply Eq.trans
  · apply sSeq_nx (S1 := [.dat H, .own [.str t], .un, .un, .un, .un, .un])
    have ef : fl (initS 7 [H]) = [some H, none, none, none, none, none, none] := by
      show [if flat H = true then some H else none, none, none, none, none, none, none] = _
      rw [if_pos fH]
    unfold sSetO
    rw [ef]
    unfold mA aCons aNil at e0 ⊢
    rw [e0]
    rfl
  apply Eq.trans
  · apply sSeq_nx (S1 := [.dat H, .own o1, .un, u3, u4, .un, .un])
    unfold sFor
    have : itT (m2 ixD (mV 0) (mC (.int 1))) (cl [.dat H, .own [.str t], .un, .un, .un, .un, .un]) = some cs := iC
    rw [this]
    exact q1
  apply Eq.trans
  · apply sSeq_nx (S1 := [.dat H, .own (zs.map .str), .un, v3, v4, v5, v6])
    unfold sFor
    rw [iW]
    exact q2
  have e4 : m2 joinD (mC (.str "\n")) (mV 1) (op [.dat H, .own (zs.map .str), .un, v3, v4, v5, v6]) = some (.str T) := e3
  unfold sRet
  rw [e4]
  rfl
theorem l_text {h : Hs} (o : Ok h) : G__law_text [eH h] = some (.str (Txt.join ("\n" : Str) (linesOf h))) := by
  have ro := rows_of o
  have lo := lines_ok ro
  have nh := ro.n
  have mh := ro.m
  have e0 := row_m (mi := itT (m2 ixD (mV 0) (mC (.int 0)))) (vs := [2]) (t := .nm 2) (me := mA strF (aCons (mV 2) aNil)) (S := [some (eH h), none, none, none, none, none, none]) (w := "heats") (by decide) ro.a rfl (fun i _ _ => ⟨_, rfl, rfl⟩)
  obtain ⟨S1, q1, l1, u3, rfl⟩ := forM_rel (t := .nm 3) (b := ltRow) eRow (fun n (z : List Str) S => z.length + n ≤ 5 ∧ ∃ u3, S = [.dat (eH h), .own (z.map .str), .un, u3, .un, .un, .un]) (fun z r => z ++ [rowT "row" r]) h.cells [rowT "heats" h.heats] [.dat (eH h), .own [.str (rowT "heats" h.heats)], .un, .un, .un, .un, .un] ⟨by show 1 + h.cells.length ≤ 5; omega, .un, rfl⟩ (by
    rintro n z S ⟨hz, u3, rfl⟩ r hr
    exact turn_go rfl (lt_row (ro.b r hr) (by omega)) ⟨by rw [List.length_append]; show z.length + 1 + n ≤ 5; omega, _, rfl⟩)
  rw [fold_snoc] at q1 l1
  obtain ⟨S2, q2, l2, v5, rfl⟩ := forM_rel (t := .nm 5) (b := ltWall) eW (fun n (z : List Str) S => z.length + n ≤ 45 ∧ ∃ v5, S = [.dat (eH h), .own (z.map .str), .un, u3, .un, v5, .un]) (fun z w => z ++ [rowT "wall" (w3 w)]) h.walls ([rowT "heats" h.heats] ++ h.cells.map (rowT "row")) [.dat (eH h), .own (([rowT "heats" h.heats] ++ h.cells.map (rowT "row")).map .str), .un, u3, .un, .un, .un] ⟨by omega, .un, rfl⟩ (by
    rintro n z S ⟨hz, v5, rfl⟩ w hw
    exact turn_go rfl (lt_wall (ro.c w hw) (by omega)) ⟨by rw [List.length_append]; show z.length + 1 + n ≤ 45; omega, _, rfl⟩)
  rw [fold_snoc] at q2
  have el : [rowT "heats" h.heats] ++ h.cells.map (rowT "row") ++ h.walls.map (fun w => rowT "wall" (w3 w)) = linesOf h := rfl
  rw [el] at q2
  exact text_eval rfl (flat_house h) e0 rfl q1 rfl q2 lo
/-- signs that are signs -/
def okS (x : Str) : Prop := ∀ c ∈ x.cps.toList, c < 1114112
theorem okS_of (s : String) : okS (Str.ofString s) := fun c hc => by
  rw [PyProof.Rows.signs_ofString] at hc
  obtain ⟨ch, _, rfl⟩ := List.mem_map.mp hc
  have h : ch.toNat.isValidChar := ch.valid
  unfold Nat.isValidChar at h
  omega
theorem okS_app {a b : Str} (ha : okS a) (hb : okS b) : okS (a ++ b) := fun c hc => by
  rw [PySem.Str.cps_append, Array.toList_append] at hc
  rcases List.mem_append.mp hc with h | h
  · exact ha c h
  · exact hb c h
theorem okS_joinS {s : Str} (hs : okS s) : ∀ {xs : List Str}, (∀ x ∈ xs, okS x) → okS (Str.join s xs)
  | [], _ => fun c hc => nomatch hc
  | [x], h => h x List.mem_cons_self
  | x :: y :: r, h => okS_app (okS_app (h x List.mem_cons_self) hs) (okS_joinS hs fun z hz => h z (List.mem_cons_of_mem _ hz))
theorem okS_join {s : Str} {xs : List Str} (hs : okS s) (h : ∀ x ∈ xs, okS x) : okS (Txt.join s xs) := by
  rw [TL.join_eq]
  exact okS_joinS hs h
theorem okS_row (w : String) (r : List Int) : okS (rowT (Str.ofString w) r) := okS_join (okS_of _) fun x hx => by
  rcases List.mem_cons.mp hx with rfl | hx
  · exact okS_of w
  · obtain ⟨i, _, rfl⟩ := List.mem_map.mp hx
    exact okS_of _
theorem okS_lines (h : Hs) : okS (Txt.join ("\n" : Str) (linesOf h)) := okS_join (okS_of _) fun x hx => by
  unfold linesOf at hx
  rcases List.mem_cons.mp hx with rfl | hx
  · exact okS_row _ _
  · rcases List.mem_append.mp hx with hx | hx
    · obtain ⟨r, _, rfl⟩ := List.mem_map.mp hx
      exact okS_row _ _
    · obtain ⟨w, _, rfl⟩ := List.mem_map.mp hx
      exact okS_row _ _
theorem eq_str {T : Str} (h : okS T) : eqD (.str T) (.str T) = some (.bl true) := by
  unfold eqD
  have sh : SeqAt.shaped (py (.str T)) = true := by
    show (T.cps.all (fun c => decide (c < 0x110000)) && true) = true
    rw [Bool.and_true, Array.all_eq_true']
    intro c hc
    exact decide_eq_true (h c (Array.mem_toList_iff.mpr hc))
  rw [if_pos ⟨sh, sh⟩]
  have : PyData.eqv (py (.str T)) (py (.str T)) = true := by
    show (T == T) = true
    exact beq_self_eq_true T
  rw [this]
end Ice

namespace Ice
open PySem PySem.Spec PyProof.Rows L2
/-! ### texts read back -/
def noC (c : Nat) (x : Str) : Prop := c ∉ TL.tl x
theorem tl_app (a b : Str) : TL.tl (a ++ b) = TL.tl a ++ TL.tl b := by
  show (a ++ b).cps.toList = a.cps.toList ++ b.cps.toList
  rw [PySem.Str.cps_append, Array.toList_append]
theorem noC_app {c : Nat} {a b : Str} (ha : noC c a) (hb : noC c b) : noC c (a ++ b) := fun h => by
  rw [tl_app] at h
  exact (List.mem_append.mp h).elim ha hb
theorem noC_joinS {c : Nat} {s : Str} (hs : noC c s) : ∀ {xs : List Str}, (∀ x ∈ xs, noC c x) → noC c (Str.join s xs)
  | [], _ => fun h => nomatch h
  | [x], h => h x List.mem_cons_self
  | x :: y :: r, h => noC_app (noC_app (h x List.mem_cons_self) hs) (noC_joinS hs fun z hz => h z (List.mem_cons_of_mem _ hz))
theorem noC_join {c : Nat} {s : Str} {xs : List Str} (hs : noC c s) (h : ∀ x ∈ xs, noC c x) : noC c (Txt.join s xs) := by
  rw [TL.join_eq]
  exact noC_joinS hs h
theorem S_tl (x : Str) : SX.S (TL.tl x) = x := TL.ext_tl rfl
theorem map_S : ∀ (xs : List Str), (xs.map TL.tl).map SX.S = xs
  | [] => rfl
  | x :: xs => by rw [List.map_cons, List.map_cons, S_tl, map_S xs]
theorem split_join {c : Nat} (hc : c < 256) {xs : List Str} (hne : xs ≠ []) (h : ∀ x ∈ xs, noC c x) : Txt.split (Txt.join (SX.S [c]) xs) (SX.S [c]) = xs := by
  have e : Txt.join (SX.S [c]) xs = SX.S (TL.joinL [c] (xs.map TL.tl)) := by
    have := SX.join_S [c] (xs.map TL.tl)
    rw [map_S] at this
    exact this
  rw [e, SX.split_S (List.cons_ne_nil _ _) (by simp only [List.all_cons, List.all_nil, Bool.and_true, decide_eq_true hc]), SX.spl_join (fun z => hne (List.map_eq_nil_iff.mp z)) fun p hp => by
    obtain ⟨x, hx, rfl⟩ := List.mem_map.mp hp
    exact h x hx]
  exact map_S xs
/-! numbers -/
theorem tl_wS (n : Nat) : TL.tl (wS (n : Int)) = TL.numL n := TL.tl_num n
theorem digits_wS {i : Int} (h0 : 0 ≤ i) : ∀ c ∈ TL.tl (wS i), 48 ≤ c ∧ c ≤ 57 := fun c hc => by
  obtain ⟨n, rfl⟩ := Int.eq_ofNat_of_zero_le h0
  have hc' : c ∈ TL.numL n := by rw [← tl_wS]; exact hc
  exact TL.numL_digits n c hc'
theorem noC_wS {i : Int} (h0 : 0 ≤ i) {c : Nat} (hc : c < 48) : noC c (wS i) := fun h => by
  have := digits_wS h0 c h
  omega
theorem uni_dig : ∀ c ∈ List.range' 48 10, Unicode.isDigit c = true := by decide +kernel
theorem head_num : ∀ (k n : Nat), n < k → 0 < n → ∃ c r, TL.numL n = c :: r ∧ c ≠ 48
  | 0, _, h, _ => absurd h (Nat.not_lt_zero _)
  | k + 1, n, h, h0 => by
    by_cases c : n < 10
    · rw [TL.numL_lt c]
      exact ⟨_, _, rfl, by omega⟩
    · obtain ⟨d, r, e, hd⟩ := head_num k (n / 10) (by omega) (by omega)
      rw [TL.numL_step (by omega), e]
      exact ⟨d, _, rfl, hd⟩
theorem asc_wS {i : Int} (h0 : 0 ≤ i) : Txt.isascii (wS i) = true := by
  unfold Txt.isascii
  rw [Array.all_eq_true']
  intro c hc
  have := digits_wS h0 c (Array.mem_toList_iff.mpr hc)
  exact decide_eq_true (by omega)
theorem wS_ne {i : Int} (h0 : 0 ≤ i) : ∃ c r, TL.tl (wS i) = c :: r ∧ (i ≠ 0 → c ≠ 48) := by
  obtain ⟨n, rfl⟩ := Int.eq_ofNat_of_zero_le h0
  rw [tl_wS]
  by_cases c : n = 0
  · subst c
    exact ⟨48, [], by rw [TL.numL_lt (by decide)], fun h => absurd rfl h⟩
  · obtain ⟨d, r, e, hd⟩ := head_num (n + 1) n (by omega) (by omega)
    exact ⟨d, r, e, fun _ => hd⟩
theorem dig_wS {i : Int} (h0 : 0 ≤ i) : Txt.isdigit (wS i) = true := by
  obtain ⟨c, r, e, _⟩ := wS_ne h0
  unfold Txt.isdigit
  have hl : (wS i).length > 0 := by
    show (wS i).cps.size > 0
    have : (wS i).cps.toList = c :: r := e
    rw [← Array.length_toList, this]
    exact Nat.succ_pos _
  rw [decide_eq_true hl, Bool.true_and, Array.all_eq_true']
  intro d hd
  have := digits_wS h0 d (Array.mem_toList_iff.mpr hd)
  exact uni_dig d (List.mem_range'_1.mpr (by omega))
theorem okS_wS (i : Int) : okS (wS i) := okS_of _
theorem shaped_str {x : Str} (h : okS x) : SeqAt.shaped (py (.str x)) = true := by
  show (x.cps.all (fun c => decide (c < 0x110000)) && true) = true
  rw [Bool.and_true, Array.all_eq_true']
  intro c hc
  exact decide_eq_true (h c (Array.mem_toList_iff.mpr hc))
theorem eq_strs {x y : Str} (hx : okS x) (hy : okS y) : eqD (.str x) (.str y) = some (.bl (x == y)) := by
  unfold eqD
  rw [if_pos ⟨shaped_str hx, shaped_str hy⟩]
  rfl
theorem ne_strs {x y : Str} (hx : okS x) (hy : okS y) : neD (.str x) (.str y) = some (.bl (!(x == y))) := by
  unfold neD
  rw [if_pos ⟨shaped_str hx, shaped_str hy⟩]
  rfl
theorem eqw (x y : String) (b : Bool) (h : (Str.ofString x == Str.ofString y) = b) : eqD (.str (Str.ofString x)) (.str (Str.ofString y)) = some (.bl b) := by
  rw [eq_strs (okS_of x) (okS_of y), h]
theorem mA_1 {f : List D → Option D} {m : Mi} {S : Sd} {d z : D} (h : m S = some d) (g : f [d] = some z) : mA f (aCons m aNil) S = some z := by
  unfold mA aCons
  rw [h]
  exact g
theorem mA_2 {f : List D → Option D} {m k : Mi} {S : Sd} {d e z : D} (h : m S = some d) (h2 : k S = some e) (g : f [d, e] = some z) : mA f (aCons m (aCons k aNil)) S = some z := by
  unfold mA aCons
  rw [h]
  simp only [Option.bind_some, h2]
  exact g
/-! the program's words -/
theorem num_eval {F C : D} {n : Int} {b1 b2 : Bool} (h1 : ascD F = some (.bl true)) (h2 : digD F = some (.bl true)) (h3 : lenS [F] = some (.int n)) (h4 : n ≤ 4) (h5 : eqD F (.str "0") = some (.bl b1)) (h6 : b1 = false → ixS F (.int 0) = some C ∧ neD C (.str "0") = some (.bl b2) ∧ b2 = true) : G__is_written_number [F] = some (.bl true) := by
  have c4 : decide (n > 4) = false := decide_eq_false (by omega)
  unfold G__is_written_number
  refine run_rt (S := [.dat F]) ?_
  unfold mr__is_written_number
  apply Eq.trans
  · apply sSeq_nx (S1 := [.dat F])
    simp (config := { decide := false }) only [runF, initS, sSeq, sIf, sRet, sRetN, sSet, sSetF, sSetO, sDrop, sNext, sNever, sUnp, sUnpF, sApp, sAppF, sLend, sAugI, asgL_nm, asgL_tp, asgL_wt, asgsL_nil, asgsL_cons, asg_nm, asg_tp, asgs_nil, asgs_cons, wipeD, mAnd, mOr, mNot, mB, mTr, m2, m1, mV, mC, mA, mCh, mAndV, mOrV, aCons, aNil, guardN, op, cl, fl, opn, clos, flt, eqD_int, neD_int, gtD, ltD, leD, geD, addD, subD, negD, tupD, lstD, tupF, lstF, outD, notD, tru, isD, isnD, isN, flat_tp, flat_in, flat_bo, flat_no, flats_nl, flats_cn,
  List.map_cons, List.map_nil, List.length_cons, List.length_nil, List.replicate, List.getElem?_cons_zero, List.getElem?_cons_succ, List.getElem?_nil, List.cons_append, List.nil_append, Option.bind_some, Option.bind_none, Option.bind_assoc, Option.map_some, Option.map_none, Nat.reduceAdd, Nat.reduceSub, Nat.reduceLeDiff, List.set_cons_zero, List.set_cons_succ, if_true, if_false, ite_true, ite_false, reduceCtorEq, Bool.false_eq_true, Bool.not_true, Bool.not_false, ↓reduceIte, eq_self, h1, h2, h3, c4]
  cases b1 with
  | true => simp (config := { decide := false }) only [runF, initS, sSeq, sIf, sRet, sRetN, sSet, sSetF, sSetO, sDrop, sNext, sNever, sUnp, sUnpF, sApp, sAppF, sLend, sAugI, asgL_nm, asgL_tp, asgL_wt, asgsL_nil, asgsL_cons, asg_nm, asg_tp, asgs_nil, asgs_cons, wipeD, mAnd, mOr, mNot, mB, mTr, m2, m1, mV, mC, mA, mCh, mAndV, mOrV, aCons, aNil, guardN, op, cl, fl, opn, clos, flt, eqD_int, neD_int, gtD, ltD, leD, geD, addD, subD, negD, tupD, lstD, tupF, lstF, outD, notD, tru, isD, isnD, isN, flat_tp, flat_in, flat_bo, flat_no, flats_nl, flats_cn,
  List.map_cons, List.map_nil, List.length_cons, List.length_nil, List.replicate, List.getElem?_cons_zero, List.getElem?_cons_succ, List.getElem?_nil, List.cons_append, List.nil_append, Option.bind_some, Option.bind_none, Option.bind_assoc, Option.map_some, Option.map_none, Nat.reduceAdd, Nat.reduceSub, Nat.reduceLeDiff, List.set_cons_zero, List.set_cons_succ, if_true, if_false, ite_true, ite_false, reduceCtorEq, Bool.false_eq_true, Bool.not_true, Bool.not_false, ↓reduceIte, eq_self, h5]
  | false =>
    obtain ⟨a, b, c⟩ := h6 rfl
    subst c
    simp (config := { decide := false }) only [runF, initS, sSeq, sIf, sRet, sRetN, sSet, sSetF, sSetO, sDrop, sNext, sNever, sUnp, sUnpF, sApp, sAppF, sLend, sAugI, asgL_nm, asgL_tp, asgL_wt, asgsL_nil, asgsL_cons, asg_nm, asg_tp, asgs_nil, asgs_cons, wipeD, mAnd, mOr, mNot, mB, mTr, m2, m1, mV, mC, mA, mCh, mAndV, mOrV, aCons, aNil, guardN, op, cl, fl, opn, clos, flt, eqD_int, neD_int, gtD, ltD, leD, geD, addD, subD, negD, tupD, lstD, tupF, lstF, outD, notD, tru, isD, isnD, isN, flat_tp, flat_in, flat_bo, flat_no, flats_nl, flats_cn,
  List.map_cons, List.map_nil, List.length_cons, List.length_nil, List.replicate, List.getElem?_cons_zero, List.getElem?_cons_succ, List.getElem?_nil, List.cons_append, List.nil_append, Option.bind_some, Option.bind_none, Option.bind_assoc, Option.map_some, Option.map_none, Nat.reduceAdd, Nat.reduceSub, Nat.reduceLeDiff, List.set_cons_zero, List.set_cons_succ, if_true, if_false, ite_true, ite_false, reduceCtorEq, Bool.false_eq_true, Bool.not_true, Bool.not_false, ↓reduceIte, eq_self, h5, a, b]
theorem g_isnum {i : Int} (h0 : 0 ≤ i) (h1 : i ≤ 9999) : G__is_written_number [.str (wS i)] = some (.bl true) := by
  obtain ⟨c, r, e, hc⟩ := wS_ne h0
  have hl := len_wS h0 h1
  have h5 := eq_strs (okS_wS i) (okS_of "0")
  refine num_eval (n := (wS i).length) (C := .str ⟨#[c]⟩) (b2 := true) (by show some (D.bl (Txt.isascii (wS i))) = _; rw [asc_wS h0]) (by show some (D.bl (Txt.isdigit (wS i))) = _; rw [dig_wS h0]) (by show (if (wS i).length ≤ 1000000 then some (D.int ((wS i).length : Nat)) else none) = _; rw [if_pos (by omega)]) (by omega) h5 fun hb => ?_
  have hi : i ≠ 0 := fun z => by
    subst z
    have : (wS 0 == Str.ofString "0") = true := by decide +kernel
    rw [this] at hb
    cases hb
  have c1 := hc hi
  have cd := digits_wS h0 c (by rw [e]; exact List.mem_cons_self)
  have ok1 : okS (⟨#[c]⟩ : Str) := fun d hd => by
    have : d = c := by simpa using hd
    omega
  refine ⟨?_, ?_, rfl⟩
  · show (if (wS i).length ≤ 1000000 then (atI (wS i).cps.toList 0).map fun c => D.str ⟨#[c]⟩ else none) = _
    rw [if_pos (by omega)]
    have : (wS i).cps.toList = c :: r := e
    rw [this]
    show Option.map _ (atI (c :: r) ((0 : Nat) : Int)) = _
    rw [atI_nat (i := 0) (x := c) rfl]
    rfl
  · rw [ne_strs ok1 (okS_of "0")]
    have : ((⟨#[c]⟩ : Str) == Str.ofString "0") = false := by
      rw [beq_eq_false_iff_ne]
      intro h
      have h2 := congrArg (fun x : Str => x.cps.toList) h
      have h3 : [c] = [48] := h2
      injection h3 with h3
      exact c1 h3
    rw [this]
    rfl
/-- how many numbers behind a word -/
def goodRow (w : Str) (r : List Int) : Prop := (w = Str.ofString "heats" ∧ r.length = 5) ∨ (w = Str.ofString "row" ∧ 0 < r.length) ∨ (w = Str.ofString "wall" ∧ r.length = 3)
theorem g_count {w : Str} {r : List Int} (h : goodRow w r) {n : Int} (hn : n = (r.length : Int)) : G__is_count [.str w, .int n] = some (.bl true) := by
  have a1 := eqw "heats" "heats" true (by decide +kernel)
  have a2 := eqw "row" "heats" false (by decide +kernel)
  have a3 := eqw "row" "wall" false (by decide +kernel)
  have a4 := eqw "row" "row" true (by decide +kernel)
  have a5 := eqw "wall" "heats" false (by decide +kernel)
  have a6 := eqw "wall" "wall" true (by decide +kernel)
  unfold G__is_count
  refine run_rt (S := [.dat (.str w), .dat (.int n)]) ?_
  unfold mr__is_count
  rcases h with ⟨rfl, h⟩ | ⟨rfl, h⟩ | ⟨rfl, h⟩
  · apply sSeq_rt
    have : n = 5 := by omega
    subst this
    simp (config := { decide := false }) only [runF, initS, sSeq, sIf, sRet, sRetN, sSet, sSetF, sSetO, sDrop, sNext, sNever, sUnp, sUnpF, sApp, sAppF, sLend, sAugI, asgL_nm, asgL_tp, asgL_wt, asgsL_nil, asgsL_cons, asg_nm, asg_tp, asgs_nil, asgs_cons, wipeD, mAnd, mOr, mNot, mB, mTr, m2, m1, mV, mC, mA, mCh, mAndV, mOrV, aCons, aNil, guardN, op, cl, fl, opn, clos, flt, eqD_int, neD_int, gtD, ltD, leD, geD, addD, subD, negD, tupD, lstD, tupF, lstF, outD, notD, tru, isD, isnD, isN, flat_tp, flat_in, flat_bo, flat_no, flats_nl, flats_cn,
  List.map_cons, List.map_nil, List.length_cons, List.length_nil, List.replicate, List.getElem?_cons_zero, List.getElem?_cons_succ, List.getElem?_nil, List.cons_append, List.nil_append, Option.bind_some, Option.bind_none, Option.bind_assoc, Option.map_some, Option.map_none, Nat.reduceAdd, Nat.reduceSub, Nat.reduceLeDiff, List.set_cons_zero, List.set_cons_succ, if_true, if_false, ite_true, ite_false, reduceCtorEq, Bool.false_eq_true, Bool.not_true, Bool.not_false, ↓reduceIte, eq_self, a1, beq_self_eq_true]
  · apply Eq.trans
    · apply sSeq_nx (S1 := [.dat (.str (Str.ofString "row")), .dat (.int n)])
      simp (config := { decide := false }) only [runF, initS, sSeq, sIf, sRet, sRetN, sSet, sSetF, sSetO, sDrop, sNext, sNever, sUnp, sUnpF, sApp, sAppF, sLend, sAugI, asgL_nm, asgL_tp, asgL_wt, asgsL_nil, asgsL_cons, asg_nm, asg_tp, asgs_nil, asgs_cons, wipeD, mAnd, mOr, mNot, mB, mTr, m2, m1, mV, mC, mA, mCh, mAndV, mOrV, aCons, aNil, guardN, op, cl, fl, opn, clos, flt, eqD_int, neD_int, gtD, ltD, leD, geD, addD, subD, negD, tupD, lstD, tupF, lstF, outD, notD, tru, isD, isnD, isN, flat_tp, flat_in, flat_bo, flat_no, flats_nl, flats_cn,
  List.map_cons, List.map_nil, List.length_cons, List.length_nil, List.replicate, List.getElem?_cons_zero, List.getElem?_cons_succ, List.getElem?_nil, List.cons_append, List.nil_append, Option.bind_some, Option.bind_none, Option.bind_assoc, Option.map_some, Option.map_none, Nat.reduceAdd, Nat.reduceSub, Nat.reduceLeDiff, List.set_cons_zero, List.set_cons_succ, if_true, if_false, ite_true, ite_false, reduceCtorEq, Bool.false_eq_true, Bool.not_true, Bool.not_false, ↓reduceIte, eq_self, a2]
    apply Eq.trans
    · apply sSeq_nx (S1 := [.dat (.str (Str.ofString "row")), .dat (.int n)])
      simp (config := { decide := false }) only [runF, initS, sSeq, sIf, sRet, sRetN, sSet, sSetF, sSetO, sDrop, sNext, sNever, sUnp, sUnpF, sApp, sAppF, sLend, sAugI, asgL_nm, asgL_tp, asgL_wt, asgsL_nil, asgsL_cons, asg_nm, asg_tp, asgs_nil, asgs_cons, wipeD, mAnd, mOr, mNot, mB, mTr, m2, m1, mV, mC, mA, mCh, mAndV, mOrV, aCons, aNil, guardN, op, cl, fl, opn, clos, flt, eqD_int, neD_int, gtD, ltD, leD, geD, addD, subD, negD, tupD, lstD, tupF, lstF, outD, notD, tru, isD, isnD, isN, flat_tp, flat_in, flat_bo, flat_no, flats_nl, flats_cn,
  List.map_cons, List.map_nil, List.length_cons, List.length_nil, List.replicate, List.getElem?_cons_zero, List.getElem?_cons_succ, List.getElem?_nil, List.cons_append, List.nil_append, Option.bind_some, Option.bind_none, Option.bind_assoc, Option.map_some, Option.map_none, Nat.reduceAdd, Nat.reduceSub, Nat.reduceLeDiff, List.set_cons_zero, List.set_cons_succ, if_true, if_false, ite_true, ite_false, reduceCtorEq, Bool.false_eq_true, Bool.not_true, Bool.not_false, ↓reduceIte, eq_self, a3]
    have : decide (n > 0) = true := decide_eq_true (by omega)
    simp (config := { decide := false }) only [runF, initS, sSeq, sIf, sRet, sRetN, sSet, sSetF, sSetO, sDrop, sNext, sNever, sUnp, sUnpF, sApp, sAppF, sLend, sAugI, asgL_nm, asgL_tp, asgL_wt, asgsL_nil, asgsL_cons, asg_nm, asg_tp, asgs_nil, asgs_cons, wipeD, mAnd, mOr, mNot, mB, mTr, m2, m1, mV, mC, mA, mCh, mAndV, mOrV, aCons, aNil, guardN, op, cl, fl, opn, clos, flt, eqD_int, neD_int, gtD, ltD, leD, geD, addD, subD, negD, tupD, lstD, tupF, lstF, outD, notD, tru, isD, isnD, isN, flat_tp, flat_in, flat_bo, flat_no, flats_nl, flats_cn,
  List.map_cons, List.map_nil, List.length_cons, List.length_nil, List.replicate, List.getElem?_cons_zero, List.getElem?_cons_succ, List.getElem?_nil, List.cons_append, List.nil_append, Option.bind_some, Option.bind_none, Option.bind_assoc, Option.map_some, Option.map_none, Nat.reduceAdd, Nat.reduceSub, Nat.reduceLeDiff, List.set_cons_zero, List.set_cons_succ, if_true, if_false, ite_true, ite_false, reduceCtorEq, Bool.false_eq_true, Bool.not_true, Bool.not_false, ↓reduceIte, eq_self, a4, this]
  · apply Eq.trans
    · apply sSeq_nx (S1 := [.dat (.str (Str.ofString "wall")), .dat (.int n)])
      simp (config := { decide := false }) only [runF, initS, sSeq, sIf, sRet, sRetN, sSet, sSetF, sSetO, sDrop, sNext, sNever, sUnp, sUnpF, sApp, sAppF, sLend, sAugI, asgL_nm, asgL_tp, asgL_wt, asgsL_nil, asgsL_cons, asg_nm, asg_tp, asgs_nil, asgs_cons, wipeD, mAnd, mOr, mNot, mB, mTr, m2, m1, mV, mC, mA, mCh, mAndV, mOrV, aCons, aNil, guardN, op, cl, fl, opn, clos, flt, eqD_int, neD_int, gtD, ltD, leD, geD, addD, subD, negD, tupD, lstD, tupF, lstF, outD, notD, tru, isD, isnD, isN, flat_tp, flat_in, flat_bo, flat_no, flats_nl, flats_cn,
  List.map_cons, List.map_nil, List.length_cons, List.length_nil, List.replicate, List.getElem?_cons_zero, List.getElem?_cons_succ, List.getElem?_nil, List.cons_append, List.nil_append, Option.bind_some, Option.bind_none, Option.bind_assoc, Option.map_some, Option.map_none, Nat.reduceAdd, Nat.reduceSub, Nat.reduceLeDiff, List.set_cons_zero, List.set_cons_succ, if_true, if_false, ite_true, ite_false, reduceCtorEq, Bool.false_eq_true, Bool.not_true, Bool.not_false, ↓reduceIte, eq_self, a5]
    apply sSeq_rt
    have : n = 3 := by omega
    subst this
    simp (config := { decide := false }) only [runF, initS, sSeq, sIf, sRet, sRetN, sSet, sSetF, sSetO, sDrop, sNext, sNever, sUnp, sUnpF, sApp, sAppF, sLend, sAugI, asgL_nm, asgL_tp, asgL_wt, asgsL_nil, asgsL_cons, asg_nm, asg_tp, asgs_nil, asgs_cons, wipeD, mAnd, mOr, mNot, mB, mTr, m2, m1, mV, mC, mA, mCh, mAndV, mOrV, aCons, aNil, guardN, op, cl, fl, opn, clos, flt, eqD_int, neD_int, gtD, ltD, leD, geD, addD, subD, negD, tupD, lstD, tupF, lstF, outD, notD, tru, isD, isnD, isN, flat_tp, flat_in, flat_bo, flat_no, flats_nl, flats_cn,
  List.map_cons, List.map_nil, List.length_cons, List.length_nil, List.replicate, List.getElem?_cons_zero, List.getElem?_cons_succ, List.getElem?_nil, List.cons_append, List.nil_append, Option.bind_some, Option.bind_none, Option.bind_assoc, Option.map_some, Option.map_none, Nat.reduceAdd, Nat.reduceSub, Nat.reduceLeDiff, List.set_cons_zero, List.set_cons_succ, if_true, if_false, ite_true, ite_false, reduceCtorEq, Bool.false_eq_true, Bool.not_true, Bool.not_false, ↓reduceIte, eq_self, a6, beq_self_eq_true]
theorem row_split {w : Str} {r : List Int} (hw : noC 32 w) (h : rowOk r) : Txt.split (rowT w r) (" " : Str) = w :: r.map wS :=
  split_join (c := 32) (by decide) (List.cons_ne_nil _ _) fun x hx => by
    rcases List.mem_cons.mp hx with rfl | hx
    · exact hw
    · obtain ⟨i, hi, rfl⟩ := List.mem_map.mp hx
      exact noC_wS (h.2 i hi).1 (by decide)
theorem readrow_eval {T W : D} {ns out bs : List D} {n : Int} (h1 : splitD T (.str " ") = some (.lst (W :: ns))) (hl : ns.length ≤ 16000) (h2 : lenA [.lst ns] = some (.int n)) (h3 : G__is_count [W, .int n] = some (.bl true))
    (h4 : mLc (itL (mV 2)) [3] (.nm 3) mYes (mA (guardN 1 G__is_written_number) (aCons (mV 3) aNil)) [some T, some W, some (.lst ns), none] = some (.lst bs)) (h5 : allF [.lst bs] = some (.bl true))
    (h6 : mLc (itL (mV 2)) [3] (.nm 3) mYes (mA intS (aCons (mV 3) aNil)) [some T, some W, some (.lst ns), none] = some (.lst out)) : G__read_row [T] = some (.tup [W, .tup out]) := by
  unfold G__read_row
  refine run_rt (S := [.dat T, .dat W, .dat (.lst ns), .un]) ?_
  unfold mr__read_row
  apply Eq.trans
  · apply sSeq_nx (S1 := [.dat T, .dat W, .dat (.lst ns), .un])
    unfold sStar
    have : m2 splitD (mV 0) (mC (.str " ")) (cl (initS 4 [T])) = some (.lst (W :: ns)) := h1
    rw [this]
    simp only [Option.bind_some, hl, if_true]
    rfl
  apply Eq.trans
  · apply sSeq_nx (S1 := [.dat T, .dat W, .dat (.lst ns), .un])
    generalize D.lst ns = N at *
    simp (config := { decide := false }) only [runF, initS, sSeq, sIf, sRet, sRetN, sSet, sSetF, sSetO, sDrop, sNext, sNever, sUnp, sUnpF, sApp, sAppF, sLend, sAugI, asgL_nm, asgL_tp, asgL_wt, asgsL_nil, asgsL_cons, asg_nm, asg_tp, asgs_nil, asgs_cons, wipeD, mAnd, mOr, mNot, mB, mTr, m2, m1, mV, mC, mA, mCh, mAndV, mOrV, aCons, aNil, guardN, op, cl, fl, opn, clos, flt, eqD_int, neD_int, gtD, ltD, leD, geD, addD, subD, negD, tupD, lstD, tupF, lstF, outD, notD, tru, isD, isnD, isN, flat_tp, flat_in, flat_bo, flat_no, flats_nl, flats_cn,
  List.map_cons, List.map_nil, List.length_cons, List.length_nil, List.replicate, List.getElem?_cons_zero, List.getElem?_cons_succ, List.getElem?_nil, List.cons_append, List.nil_append, Option.bind_some, Option.bind_none, Option.bind_assoc, Option.map_some, Option.map_none, Nat.reduceAdd, Nat.reduceSub, Nat.reduceLeDiff, List.set_cons_zero, List.set_cons_succ, if_true, if_false, ite_true, ite_false, reduceCtorEq, Bool.false_eq_true, Bool.not_true, Bool.not_false, ↓reduceIte, eq_self, h2, h3]
  apply Eq.trans
  · apply sSeq_nx (S1 := [.dat T, .dat W, .dat (.lst ns), .un])
    have e : mNot (mTr (mA allF (aCons (mLc (itL (mV 2)) [3] (.nm 3) mYes (mA (guardN 1 G__is_written_number) (aCons (mV 3) aNil))) aNil))) (op [.dat T, .dat W, .dat (.lst ns), .un]) = some false := by
      have h4' : mLc (itL (mV 2)) [3] (.nm 3) mYes (mA (guardN 1 G__is_written_number) (aCons (mV 3) aNil)) (op [.dat T, .dat W, .dat (.lst ns), .un]) = some (.lst bs) := h4
      have h45 := mA_1 (f := allF) h4' h5
      unfold mNot mTr
      rw [h45]
      rfl
    unfold sIf
    rw [e]
    rfl
  have e6 : mA tupD (aCons (mV 1) (aCons (mA tupF (aCons (mLc (itL (mV 2)) [3] (.nm 3) mYes (mA intS (aCons (mV 3) aNil))) aNil)) aNil)) (op [.dat T, .dat W, .dat (.lst ns), .un]) = some (.tup [W, .tup out]) := by
    have h6' : mLc (itL (mV 2)) [3] (.nm 3) mYes (mA intS (aCons (mV 3) aNil)) (op [.dat T, .dat W, .dat (.lst ns), .un]) = some (.lst out) := h6
    exact mA_2 (d := W) (e := .tup out) rfl (mA_1 (f := tupF) h6' rfl) rfl
  unfold sRet
  rw [e6]
  rfl
theorem int_wS {i : Int} (h0 : 0 ≤ i) (h1 : i ≤ 9999) : intS [.str (wS i)] = some (.int i) := by
  show (PySem.intText? (wS i)).bind (fun n => if (wS i).length ≤ 640 then some (D.int n) else none) = _
  have : PySem.intText? (wS i) = some i := PySem.W.KIN.num_reads h0 (by omega)
  rw [this]
  have := len_wS h0 h1
  show (if (wS i).length ≤ 640 then some (D.int i) else none) = _
  rw [if_pos (by omega)]
theorem g_readrow {w : Str} {r : List Int} (hw : noC 32 w) (hl : w.length ≤ 5) (h : rowOk r) (hg : goodRow w r) : G__read_row [.str (rowT w r)] = some (.tup [.str w, eRow r]) := by
  have hs := row_split hw h
  have rl := (row_join hl h).2
  have r5 := h.1
  refine readrow_eval (ns := r.map fun i => .str (wS i)) (bs := r.map fun _ => .bl true) (n := r.length) ?_ (by rw [List.length_map]; omega) (by show some (D.int ((r.map fun i => D.str (wS i)).length : Nat)) = _; rw [List.length_map]) (g_count hg rfl) ?_ (allF_true r) ?_
  · show (if ((" " : Str).length == 0) = false ∧ (rowT w r).length ≤ 1000000 ∧ (Txt.split (rowT w r) (" " : Str)).length ≤ 1000000 then some (D.lst ((Txt.split (rowT w r) (" " : Str)).map .str)) else none) = _
    rw [hs, if_pos ⟨rfl, by omega, by rw [List.length_cons, List.length_map]; omega⟩, List.map_cons, List.map_map]
    rfl
  · exact mLc_map (fun i : Int => D.str (wS i)) (fun _ => D.bl true) r rfl (by omega) fun i hi => ⟨_, rfl, by
      obtain ⟨a, b⟩ := h.2 i hi
      simp (config := { decide := false }) only [runF, initS, sSeq, sIf, sRet, sRetN, sSet, sSetF, sSetO, sDrop, sNext, sNever, sUnp, sUnpF, sApp, sAppF, sLend, sAugI, asgL_nm, asgL_tp, asgL_wt, asgsL_nil, asgsL_cons, asg_nm, asg_tp, asgs_nil, asgs_cons, wipeD, mAnd, mOr, mNot, mB, mTr, m2, m1, mV, mC, mA, mCh, mAndV, mOrV, aCons, aNil, guardN, op, cl, fl, opn, clos, flt, eqD_int, neD_int, gtD, ltD, leD, geD, addD, subD, negD, tupD, lstD, tupF, lstF, outD, notD, tru, isD, isnD, isN, flat_tp, flat_in, flat_bo, flat_no, flats_nl, flats_cn,
  List.map_cons, List.map_nil, List.length_cons, List.length_nil, List.replicate, List.getElem?_cons_zero, List.getElem?_cons_succ, List.getElem?_nil, List.cons_append, List.nil_append, Option.bind_some, Option.bind_none, Option.bind_assoc, Option.map_some, Option.map_none, Nat.reduceAdd, Nat.reduceSub, Nat.reduceLeDiff, List.set_cons_zero, List.set_cons_succ, if_true, if_false, ite_true, ite_false, reduceCtorEq, Bool.false_eq_true, Bool.not_true, Bool.not_false, ↓reduceIte, eq_self, g_isnum a b]⟩
  · exact mLc_map (fun i : Int => D.str (wS i)) (fun i => D.int i) r rfl (by omega) fun i hi => ⟨_, rfl, by
      obtain ⟨a, b⟩ := h.2 i hi
      simp (config := { decide := false }) only [runF, initS, sSeq, sIf, sRet, sRetN, sSet, sSetF, sSetO, sDrop, sNext, sNever, sUnp, sUnpF, sApp, sAppF, sLend, sAugI, asgL_nm, asgL_tp, asgL_wt, asgsL_nil, asgsL_cons, asg_nm, asg_tp, asgs_nil, asgs_cons, wipeD, mAnd, mOr, mNot, mB, mTr, m2, m1, mV, mC, mA, mCh, mAndV, mOrV, aCons, aNil, guardN, op, cl, fl, opn, clos, flt, eqD_int, neD_int, gtD, ltD, leD, geD, addD, subD, negD, tupD, lstD, tupF, lstF, outD, notD, tru, isD, isnD, isN, flat_tp, flat_in, flat_bo, flat_no, flats_nl, flats_cn,
  List.map_cons, List.map_nil, List.length_cons, List.length_nil, List.replicate, List.getElem?_cons_zero, List.getElem?_cons_succ, List.getElem?_nil, List.cons_append, List.nil_append, Option.bind_some, Option.bind_none, Option.bind_assoc, Option.map_some, Option.map_none, Nat.reduceAdd, Nat.reduceSub, Nat.reduceLeDiff, List.set_cons_zero, List.set_cons_succ, if_true, if_false, ite_true, ite_false, reduceCtorEq, Bool.false_eq_true, Bool.not_true, Bool.not_false, ↓reduceIte, eq_self, int_wS a b]⟩
end Ice

namespace Ice
open PySem PySem.Spec PyProof.Rows L2
/-! ### a house's rows, read -/
abbrev WRow := Str × List Int
def eP (p : WRow) : D := .tup [.str p.1, eRow p.2]
abbrev wH : Str := Str.ofString "heats"
abbrev wR : Str := Str.ofString "row"
abbrev wW : Str := Str.ofString "wall"
def prs (h : Hs) : List WRow := (wH, h.heats) :: (h.cells.map (fun r => (wR, r)) ++ h.walls.map fun w => (wW, w3 w))
theorem lines_prs (h : Hs) : linesOf h = (prs h).map fun p => rowT p.1 p.2 := by
  unfold linesOf prs
  rw [List.map_cons, List.map_append, List.map_map, List.map_map]
  rfl
theorem b_HH : (wH == wH) = true := by decide +kernel
theorem b_RH : (wR == wH) = false := by decide +kernel
theorem b_WH : (wW == wH) = false := by decide +kernel
theorem b_HR : (wH == wR) = false := by decide +kernel
theorem b_RR : (wR == wR) = true := by decide +kernel
theorem b_WR : (wW == wR) = false := by decide +kernel
theorem b_HW : (wH == wW) = false := by decide +kernel
theorem b_RW : (wR == wW) = false := by decide +kernel
theorem b_WW : (wW == wW) = true := by decide +kernel
theorem filter_yes' {α : Type} {p : α → Bool} {xs : List α} (h : ∀ x ∈ xs, p x = true) : xs.filter p = xs := List.filter_eq_self.mpr h
theorem filter_no' {α : Type} {p : α → Bool} {xs : List α} (h : ∀ x ∈ xs, p x = false) : xs.filter p = [] := List.filter_eq_nil_iff.mpr fun x hx => by rw [h x hx]; exact Bool.false_ne_true
theorem behind_H (h : Hs) : ((prs h).filter fun p => p.1 == wH).map (fun p => eRow p.2) = [eRow h.heats] := by
  unfold prs
  rw [List.filter_cons_of_pos (p := fun p : WRow => p.1 == wH) (a := (wH, h.heats)) b_HH, List.filter_append, filter_no' fun x hx => by obtain ⟨r, _, rfl⟩ := List.mem_map.mp hx; exact b_RH, filter_no' fun x hx => by obtain ⟨r, _, rfl⟩ := List.mem_map.mp hx; exact b_WH]
  rfl
theorem behind_R (h : Hs) : ((prs h).filter fun p => p.1 == wR).map (fun p => eRow p.2) = h.cells.map eRow := by
  unfold prs
  rw [List.filter_cons_of_neg (p := fun p : WRow => p.1 == wR) (a := (wH, h.heats)) (by show ¬ (wH == wR) = true; rw [b_HR]; exact Bool.false_ne_true), List.filter_append, filter_yes' fun x hx => by obtain ⟨r, _, rfl⟩ := List.mem_map.mp hx; exact b_RR, filter_no' fun x hx => by obtain ⟨r, _, rfl⟩ := List.mem_map.mp hx; exact b_WR, List.append_nil, List.map_map]
  rfl
theorem behind_W (h : Hs) : ((prs h).filter fun p => p.1 == wW).map (fun p => eRow p.2) = h.walls.map eW := by
  unfold prs
  rw [List.filter_cons_of_neg (p := fun p : WRow => p.1 == wW) (a := (wH, h.heats)) (by show ¬ (wH == wW) = true; rw [b_HW]; exact Bool.false_ne_true), List.filter_append, filter_no' fun x hx => by obtain ⟨r, _, rfl⟩ := List.mem_map.mp hx; exact b_RW, filter_yes' fun x hx => by obtain ⟨r, _, rfl⟩ := List.mem_map.mp hx; exact b_WW, List.nil_append, List.map_map]
  rfl
theorem prs_ok {h : Hs} : ∀ p ∈ prs h, okS p.1 := fun p hp => by
  unfold prs at hp
  rcases List.mem_cons.mp hp with rfl | hp
  · exact okS_of _
  · rcases List.mem_append.mp hp with hp | hp
    · obtain ⟨r, _, rfl⟩ := List.mem_map.mp hp
      exact okS_of _
    · obtain ⟨r, _, rfl⟩ := List.mem_map.mp hp
      exact okS_of _
theorem prs_len {h : Hs} (o : Rows h) : (prs h).length ≤ 45 := by
  unfold prs
  rw [List.length_cons, List.length_append, List.length_map, List.length_map]
  have := o.n
  have := o.m
  omega
theorem prs_good {h : Hs} (o : Ok h) : ∀ p ∈ prs h, noC 32 p.1 ∧ noC 10 p.1 ∧ p.1.length ≤ 5 ∧ rowOk p.2 ∧ goodRow p.1 p.2 := fun p hp => by
  have ro := rows_of o
  have n1 : noC 32 wH ∧ noC 10 wH ∧ wH.length ≤ 5 := by unfold noC; decide +kernel
  have n2 : noC 32 wR ∧ noC 10 wR ∧ wR.length ≤ 5 := by unfold noC; decide +kernel
  have n3 : noC 32 wW ∧ noC 10 wW ∧ wW.length ≤ 5 := by unfold noC; decide +kernel
  unfold prs at hp
  rcases List.mem_cons.mp hp with rfl | hp
  · exact ⟨n1.1, n1.2.1, n1.2.2, ro.a, .inl ⟨rfl, o.hh.len⟩⟩
  · rcases List.mem_append.mp hp with hp | hp
    · obtain ⟨r, hr, rfl⟩ := List.mem_map.mp hp
      have wi := o.g.wi
      exact ⟨n2.1, n2.2.1, n2.2.2, ro.b r hr, .inr (.inl ⟨rfl, by show 0 < r.length; rw [o.g.all r hr]; omega⟩)⟩
    · obtain ⟨w, hw, rfl⟩ := List.mem_map.mp hp
      exact ⟨n3.1, n3.2.1, n3.2.2, ro.c w hw, .inr (.inr ⟨rfl, rfl⟩)⟩
theorem g_behind {ps : List WRow} {w : Str} (hw : okS w) (hl : ps.length ≤ 1000) (h : ∀ p ∈ ps, okS p.1) : G__numbers_behind [.str w, .lst (ps.map eP)] = some (.tup ((ps.filter fun p => p.1 == w).map fun p => eRow p.2)) := by
  have e : mLc (itL (mV 1)) [2, 3] (.tp [(.nm 2), (.nm 3)]) (mB (m2 eqD (mV 2) (mV 0))) (mV 3) [some (.str w), some (.lst (ps.map eP)), none, none] = some (.lst ((ps.filter fun p => p.1 == w).map fun p => eRow p.2)) :=
    mLc_filter eP (fun p => eRow p.2) (fun p => p.1 == w) ps rfl (by omega) fun p hp => ⟨_, rfl, by
      have := eq_strs (h p hp) hw
      show ((eqD (.str p.1) (.str w)).bind fun d => match d with | .bl b => some b | _ => none) = _
      rw [this]
      rfl, fun _ => rfl⟩
  generalize D.lst (ps.map eP) = L at *
  unfold G__numbers_behind
  refine run_rt (S := [.dat (.str w), .dat L, .un, .un]) ?_
  unfold mr__numbers_behind sRet
  have e2 : mA tupF (aCons (mLc (itL (mV 1)) [2, 3] (.tp [(.nm 2), (.nm 3)]) (mB (m2 eqD (mV 2) (mV 0))) (mV 3)) aNil) (op (initS 4 [.str w, L])) = some (.tup ((ps.filter fun p => p.1 == w).map fun p => eRow p.2)) := mA_1 e rfl
  rw [e2]
  rfl
/-! lists of words -/
theorem strs_lay : ∀ (ws : List Str), (∀ w ∈ ws, okS w) → PyData.canLayAll0 (pys (ws.map D.str)) = true ∧ PyData.depthAll (pys (ws.map D.str)) ≤ 0
  | [], _ => ⟨rfl, Nat.le_refl _⟩
  | w :: ws, h => by
    obtain ⟨a, b⟩ := strs_lay ws fun v hv => h v (List.mem_cons_of_mem _ hv)
    have c := shaped_str (h w List.mem_cons_self)
    have c1 : (py (.str w)).canLay0 = true := SeqAt.canLay_of_shaped c
    refine ⟨?_, Nat.max_le.mpr ⟨Nat.le_refl _, b⟩⟩
    show (PyData.canLay0 (py (.str w)) && PyData.canLayAll0 (pys (ws.map D.str))) = true
    rw [c1, a]
    rfl
theorem strs_eqv : ∀ (ws : List Str), PyData.eqvAll (pys (ws.map D.str)) (pys (ws.map D.str)) = true
  | [] => rfl
  | w :: ws => by
    show (PyData.eqv (py (.str w)) (py (.str w)) && PyData.eqvAll (pys (ws.map D.str)) (pys (ws.map D.str))) = true
    rw [strs_eqv ws, Bool.and_true]
    show (w == w) = true
    exact beq_self_eq_true w
theorem ne_words {ws : List Str} (h : ∀ w ∈ ws, okS w) : neD (.lst (ws.map D.str)) (.lst (ws.map D.str)) = some (.bl false) := by
  obtain ⟨a, b⟩ := strs_lay ws h
  have sh : SeqAt.shaped (py (.lst (ws.map D.str))) = true := by
    show (PyData.canLayAll0 (pys (ws.map D.str)) && decide (PyData.depthAll (pys (ws.map D.str)) + 1 ≤ 64)) = true
    rw [a, decide_eq_true (by omega)]
    rfl
  unfold neD
  rw [if_pos ⟨sh, sh⟩]
  have : PyData.eqv (py (.lst (ws.map D.str))) (py (.lst (ws.map D.str))) = true := strs_eqv ws
  rw [this]
  rfl
theorem rep_one {α : Type} (x : α) : ∀ n, (List.replicate n [x]).flatten = List.replicate n x
  | 0 => rfl
  | n + 1 => by rw [List.replicate_succ, List.flatten_cons, rep_one x n, List.replicate_succ]; rfl
theorem map_const' {α β : Type} (y : β) : ∀ (xs : List α), xs.map (fun _ => y) = List.replicate xs.length y
  | [] => rfl
  | x :: xs => by rw [List.map_cons, map_const' y xs, List.length_cons, List.replicate_succ]
theorem words_m {C W : D} {S : Sd} {n m : Nat} (hn : n ≤ 100) (hm : m ≤ 100) (h4 : mV 4 S = some C) (h5 : mV 5 S = some W) (l4 : lenA [C] = some (.int (n : Nat))) (l5 : lenA [W] = some (.int (m : Nat))) :
    m2 addD (m2 addD (mA lstD (aCons (mC (.str "heats")) aNil)) (m2 repD (mA lstD (aCons (mC (.str "row")) aNil)) (mA lenA (aCons (mV 4) aNil)))) (m2 repD (mA lstD (aCons (mC (.str "wall")) aNil)) (mA lenA (aCons (mV 5) aNil))) S = some (.lst (([D.str wH] ++ List.replicate n (D.str wR)) ++ List.replicate m (D.str wW))) := by
  have a1 : m2 repD (mA lstD (aCons (mC (.str "row")) aNil)) (mA lenA (aCons (mV 4) aNil)) S = some (.lst (List.replicate n (D.str wR))) := by
    have := mA_1 h4 l4
    unfold m2
    rw [this]
    show (if (0 : Int) ≤ (n : Int) ∧ (n : Int) ≤ 1000 ∧ [D.str wR].length * (n : Int).toNat ≤ 1000000 then some (D.lst (List.replicate (n : Int).toNat [D.str wR]).flatten) else none) = _
    rw [if_pos ⟨by omega, by omega, by show 1 * (n : Int).toNat ≤ 1000000; omega⟩, Int.toNat_natCast, rep_one]
  have a2 : m2 repD (mA lstD (aCons (mC (.str "wall")) aNil)) (mA lenA (aCons (mV 5) aNil)) S = some (.lst (List.replicate m (D.str wW))) := by
    have := mA_1 h5 l5
    unfold m2
    rw [this]
    show (if (0 : Int) ≤ (m : Int) ∧ (m : Int) ≤ 1000 ∧ [D.str wW].length * (m : Int).toNat ≤ 1000000 then some (D.lst (List.replicate (m : Int).toNat [D.str wW]).flatten) else none) = _
    rw [if_pos ⟨by omega, by omega, by show 1 * (m : Int).toNat ≤ 1000000; omega⟩, Int.toNat_natCast, rep_one]
  have a3 : m2 addD (mA lstD (aCons (mC (.str "heats")) aNil)) (m2 repD (mA lstD (aCons (mC (.str "row")) aNil)) (mA lenA (aCons (mV 4) aNil))) S = some (.lst ([D.str wH] ++ List.replicate n (D.str wR))) := by
    unfold m2 at a1 ⊢
    rw [a1]
    show (if [D.str wH].length + (List.replicate n (D.str wR)).length ≤ 1000000 then some (D.lst ([D.str wH] ++ List.replicate n (D.str wR))) else none) = _
    rw [if_pos (by rw [List.length_replicate]; show 1 + n ≤ 1000000; omega)]
  unfold m2 at a2 a3 ⊢
  rw [a3, a2]
  show (if ([D.str wH] ++ List.replicate n (D.str wR)).length + (List.replicate m (D.str wW)).length ≤ 1000000 then some (D.lst (([D.str wH] ++ List.replicate n (D.str wR)) ++ List.replicate m (D.str wW))) else none) = _
  rw [if_pos (by rw [List.length_append, List.length_replicate, List.length_replicate]; show 1 + n + m ≤ 1000000; omega)]
theorem read_eval {T RS W1 R C W : D} (e1 : mLc (itL (m2 splitD (mV 0) (mC (.str "\n")))) [2] (.nm 2) mYes (mA (guardN 1 G__read_row) (aCons (mV 2) aNil)) [some T, none, none, none, none, none, none, none, none] = some RS)
    (n1 : G__numbers_behind [.str wH, RS] = some (.tup [R])) (n2 : G__numbers_behind [.str wR, RS] = some C) (n3 : G__numbers_behind [.str wW, RS] = some W)
    (e2 : mLc (itL (mV 1)) [6, 7] (.tp [(.nm 6), (.nm 7)]) mYes (mV 6) [some T, some RS, none, some (.tup [R]), some C, some W, none, none, none] = some W1)
    (e3 : m2 addD (m2 addD (mA lstD (aCons (mC (.str "heats")) aNil)) (m2 repD (mA lstD (aCons (mC (.str "row")) aNil)) (mA lenA (aCons (mV 4) aNil)))) (m2 repD (mA lstD (aCons (mC (.str "wall")) aNil)) (mA lenA (aCons (mV 5) aNil))) [some T, some RS, none, some (.tup [R]), some C, some W, none, none, none] = some W1)
    (ne : neD W1 W1 = some (.bl false)) (nh : G_need_house [.tup [R, C, W]] = some .non) : G_read [T] = some (.tup [R, C, W]) := by
  unfold G_read
  refine run_rt (S := [.dat T, .dat RS, .un, .dat (.tup [R]), .dat C, .dat W, .un, .un, .dat (.tup [R, C, W])]) ?_
  unfold mr_read
  apply Eq.trans
  · apply sSeq_nx (S1 := [.dat T, .dat RS, .un, .un, .un, .un, .un, .un, .un])
    unfold sSet
    have e1' : mLc (itL (m2 splitD (mV 0) (mC (.str "\n")))) [2] (.nm 2) mYes (mA (guardN 1 G__read_row) (aCons (mV 2) aNil)) (cl (initS 9 [T])) = some RS := e1
    rw [e1']
    rfl
  apply Eq.trans
  · apply sSeq_nx (S1 := [.dat T, .dat RS, .un, .dat (.tup [R]), .un, .un, .un, .un, .un])
    simp (config := { decide := false }) only [runF, initS, sSeq, sIf, sRet, sRetN, sSet, sSetF, sSetO, sDrop, sNext, sNever, sUnp, sUnpF, sApp, sAppF, sLend, sAugI, asgL_nm, asgL_tp, asgL_wt, asgsL_nil, asgsL_cons, asg_nm, asg_tp, asgs_nil, asgs_cons, wipeD, mAnd, mOr, mNot, mB, mTr, m2, m1, mV, mC, mA, mCh, mAndV, mOrV, aCons, aNil, guardN, op, cl, fl, opn, clos, flt, eqD_int, neD_int, gtD, ltD, leD, geD, addD, subD, negD, tupD, lstD, tupF, lstF, outD, notD, tru, isD, isnD, isN, flat_tp, flat_in, flat_bo, flat_no, flats_nl, flats_cn,
  List.map_cons, List.map_nil, List.length_cons, List.length_nil, List.replicate, List.getElem?_cons_zero, List.getElem?_cons_succ, List.getElem?_nil, List.cons_append, List.nil_append, Option.bind_some, Option.bind_none, Option.bind_assoc, Option.map_some, Option.map_none, Nat.reduceAdd, Nat.reduceSub, Nat.reduceLeDiff, List.set_cons_zero, List.set_cons_succ, if_true, if_false, ite_true, ite_false, reduceCtorEq, Bool.false_eq_true, Bool.not_true, Bool.not_false, ↓reduceIte, eq_self, n1]
  apply Eq.trans
  · apply sSeq_nx (S1 := [.dat T, .dat RS, .un, .dat (.tup [R]), .dat C, .un, .un, .un, .un])
    simp (config := { decide := false }) only [runF, initS, sSeq, sIf, sRet, sRetN, sSet, sSetF, sSetO, sDrop, sNext, sNever, sUnp, sUnpF, sApp, sAppF, sLend, sAugI, asgL_nm, asgL_tp, asgL_wt, asgsL_nil, asgsL_cons, asg_nm, asg_tp, asgs_nil, asgs_cons, wipeD, mAnd, mOr, mNot, mB, mTr, m2, m1, mV, mC, mA, mCh, mAndV, mOrV, aCons, aNil, guardN, op, cl, fl, opn, clos, flt, eqD_int, neD_int, gtD, ltD, leD, geD, addD, subD, negD, tupD, lstD, tupF, lstF, outD, notD, tru, isD, isnD, isN, flat_tp, flat_in, flat_bo, flat_no, flats_nl, flats_cn,
  List.map_cons, List.map_nil, List.length_cons, List.length_nil, List.replicate, List.getElem?_cons_zero, List.getElem?_cons_succ, List.getElem?_nil, List.cons_append, List.nil_append, Option.bind_some, Option.bind_none, Option.bind_assoc, Option.map_some, Option.map_none, Nat.reduceAdd, Nat.reduceSub, Nat.reduceLeDiff, List.set_cons_zero, List.set_cons_succ, if_true, if_false, ite_true, ite_false, reduceCtorEq, Bool.false_eq_true, Bool.not_true, Bool.not_false, ↓reduceIte, eq_self, n2]
  apply Eq.trans
  · apply sSeq_nx (S1 := [.dat T, .dat RS, .un, .dat (.tup [R]), .dat C, .dat W, .un, .un, .un])
    simp (config := { decide := false }) only [runF, initS, sSeq, sIf, sRet, sRetN, sSet, sSetF, sSetO, sDrop, sNext, sNever, sUnp, sUnpF, sApp, sAppF, sLend, sAugI, asgL_nm, asgL_tp, asgL_wt, asgsL_nil, asgsL_cons, asg_nm, asg_tp, asgs_nil, asgs_cons, wipeD, mAnd, mOr, mNot, mB, mTr, m2, m1, mV, mC, mA, mCh, mAndV, mOrV, aCons, aNil, guardN, op, cl, fl, opn, clos, flt, eqD_int, neD_int, gtD, ltD, leD, geD, addD, subD, negD, tupD, lstD, tupF, lstF, outD, notD, tru, isD, isnD, isN, flat_tp, flat_in, flat_bo, flat_no, flats_nl, flats_cn,
  List.map_cons, List.map_nil, List.length_cons, List.length_nil, List.replicate, List.getElem?_cons_zero, List.getElem?_cons_succ, List.getElem?_nil, List.cons_append, List.nil_append, Option.bind_some, Option.bind_none, Option.bind_assoc, Option.map_some, Option.map_none, Nat.reduceAdd, Nat.reduceSub, Nat.reduceLeDiff, List.set_cons_zero, List.set_cons_succ, if_true, if_false, ite_true, ite_false, reduceCtorEq, Bool.false_eq_true, Bool.not_true, Bool.not_false, ↓reduceIte, eq_self, n3]
  apply Eq.trans
  · apply sSeq_nx (S1 := [.dat T, .dat RS, .un, .dat (.tup [R]), .dat C, .dat W, .un, .un, .un])
    have c : mB (m2 neD (mLc (itL (mV 1)) [6, 7] (.tp [(.nm 6), (.nm 7)]) mYes (mV 6)) (m2 addD (m2 addD (mA lstD (aCons (mC (.str "heats")) aNil)) (m2 repD (mA lstD (aCons (mC (.str "row")) aNil)) (mA lenA (aCons (mV 4) aNil)))) (m2 repD (mA lstD (aCons (mC (.str "wall")) aNil)) (mA lenA (aCons (mV 5) aNil))))) (op [.dat T, .dat RS, .un, .dat (.tup [R]), .dat C, .dat W, .un, .un, .un]) = some false := by
      have ho : op [.dat T, .dat RS, .un, .dat (.tup [R]), .dat C, .dat W, .un, .un, .un] = [some T, some RS, none, some (.tup [R]), some C, some W, none, none, none] := rfl
      rw [ho]
      generalize [some T, some RS, none, some (D.tup [R]), some C, some W, none, none, none] = Q at e2 e3 ⊢
      generalize m2 addD (m2 addD (mA lstD (aCons (mC (.str "heats")) aNil)) (m2 repD (mA lstD (aCons (mC (.str "row")) aNil)) (mA lenA (aCons (mV 4) aNil)))) (m2 repD (mA lstD (aCons (mC (.str "wall")) aNil)) (mA lenA (aCons (mV 5) aNil))) = f at e3 ⊢
      generalize mLc (itL (mV 1)) [6, 7] (.tp [(.nm 6), (.nm 7)]) mYes (mV 6) = k at e2 ⊢
      unfold mB m2
      rw [e2]
      simp only [Option.bind_some, e3, ne]
    unfold sIf
    rw [c]
    rfl
  have i0 : ixD (.tup [R]) (.int 0) = some R := rfl
  apply Eq.trans
  · apply sSeq_nx (S1 := [.dat T, .dat RS, .un, .dat (.tup [R]), .dat C, .dat W, .un, .un, .dat (.tup [R, C, W])])
    simp (config := { decide := false }) only [runF, initS, sSeq, sIf, sRet, sRetN, sSet, sSetF, sSetO, sDrop, sNext, sNever, sUnp, sUnpF, sApp, sAppF, sLend, sAugI, asgL_nm, asgL_tp, asgL_wt, asgsL_nil, asgsL_cons, asg_nm, asg_tp, asgs_nil, asgs_cons, wipeD, mAnd, mOr, mNot, mB, mTr, m2, m1, mV, mC, mA, mCh, mAndV, mOrV, aCons, aNil, guardN, op, cl, fl, opn, clos, flt, eqD_int, neD_int, gtD, ltD, leD, geD, addD, subD, negD, tupD, lstD, tupF, lstF, outD, notD, tru, isD, isnD, isN, flat_tp, flat_in, flat_bo, flat_no, flats_nl, flats_cn,
  List.map_cons, List.map_nil, List.length_cons, List.length_nil, List.replicate, List.getElem?_cons_zero, List.getElem?_cons_succ, List.getElem?_nil, List.cons_append, List.nil_append, Option.bind_some, Option.bind_none, Option.bind_assoc, Option.map_some, Option.map_none, Nat.reduceAdd, Nat.reduceSub, Nat.reduceLeDiff, List.set_cons_zero, List.set_cons_succ, if_true, if_false, ite_true, ite_false, reduceCtorEq, Bool.false_eq_true, Bool.not_true, Bool.not_false, ↓reduceIte, eq_self, i0]
  apply Eq.trans
  · apply sSeq_nx (S1 := [.dat T, .dat RS, .un, .dat (.tup [R]), .dat C, .dat W, .un, .un, .dat (.tup [R, C, W])])
    simp (config := { decide := false }) only [runF, initS, sSeq, sIf, sRet, sRetN, sSet, sSetF, sSetO, sDrop, sNext, sNever, sUnp, sUnpF, sApp, sAppF, sLend, sAugI, asgL_nm, asgL_tp, asgL_wt, asgsL_nil, asgsL_cons, asg_nm, asg_tp, asgs_nil, asgs_cons, wipeD, mAnd, mOr, mNot, mB, mTr, m2, m1, mV, mC, mA, mCh, mAndV, mOrV, aCons, aNil, guardN, op, cl, fl, opn, clos, flt, eqD_int, neD_int, gtD, ltD, leD, geD, addD, subD, negD, tupD, lstD, tupF, lstF, outD, notD, tru, isD, isnD, isN, flat_tp, flat_in, flat_bo, flat_no, flats_nl, flats_cn,
  List.map_cons, List.map_nil, List.length_cons, List.length_nil, List.replicate, List.getElem?_cons_zero, List.getElem?_cons_succ, List.getElem?_nil, List.cons_append, List.nil_append, Option.bind_some, Option.bind_none, Option.bind_assoc, Option.map_some, Option.map_none, Nat.reduceAdd, Nat.reduceSub, Nat.reduceLeDiff, List.set_cons_zero, List.set_cons_succ, if_true, if_false, ite_true, ite_false, reduceCtorEq, Bool.false_eq_true, Bool.not_true, Bool.not_false, ↓reduceIte, eq_self, nh]
  simp (config := { decide := false }) only [runF, initS, sSeq, sIf, sRet, sRetN, sSet, sSetF, sSetO, sDrop, sNext, sNever, sUnp, sUnpF, sApp, sAppF, sLend, sAugI, asgL_nm, asgL_tp, asgL_wt, asgsL_nil, asgsL_cons, asg_nm, asg_tp, asgs_nil, asgs_cons, wipeD, mAnd, mOr, mNot, mB, mTr, m2, m1, mV, mC, mA, mCh, mAndV, mOrV, aCons, aNil, guardN, op, cl, fl, opn, clos, flt, eqD_int, neD_int, gtD, ltD, leD, geD, addD, subD, negD, tupD, lstD, tupF, lstF, outD, notD, tru, isD, isnD, isN, flat_tp, flat_in, flat_bo, flat_no, flats_nl, flats_cn,
  List.map_cons, List.map_nil, List.length_cons, List.length_nil, List.replicate, List.getElem?_cons_zero, List.getElem?_cons_succ, List.getElem?_nil, List.cons_append, List.nil_append, Option.bind_some, Option.bind_none, Option.bind_assoc, Option.map_some, Option.map_none, Nat.reduceAdd, Nat.reduceSub, Nat.reduceLeDiff, List.set_cons_zero, List.set_cons_succ, if_true, if_false, ite_true, ite_false, reduceCtorEq, Bool.false_eq_true, Bool.not_true, Bool.not_false, ↓reduceIte, eq_self]
theorem g_read {h : Hs} (o : Ok h) : G_read [.str (Txt.join ("\n" : Str) (linesOf h))] = some (eH h) := by
  have ro := rows_of o
  have pl := prs_len ro
  have pg := prs_good o
  have ho := prs_ok (h := h)
  have lo := (join_ok (s := ("\n" : Str)) (xs := linesOf h) (b := 36) (n := 45) (fun x hx => by
    rw [lines_prs] at hx
    obtain ⟨p, hp, rfl⟩ := List.mem_map.mp hx
    exact (row_join (pg p hp).2.2.1 (pg p hp).2.2.2.1).2) (by rw [lines_prs, List.length_map]; exact pl) (by decide) (by decide)).2
  have sp : Txt.split (Txt.join ("\n" : Str) (linesOf h)) ("\n" : Str) = linesOf h := split_join (c := 10) (by decide) (by unfold linesOf; exact List.cons_ne_nil _ _) fun x hx => by
    rw [lines_prs] at hx
    obtain ⟨p, hp, rfl⟩ := List.mem_map.mp hx
    obtain ⟨a, b, c, d, _⟩ := pg p hp
    unfold rowT
    refine noC_join (by unfold noC; decide +kernel) fun y hy => ?_
    rcases List.mem_cons.mp hy with rfl | hy
    · exact b
    · obtain ⟨i, hi, rfl⟩ := List.mem_map.mp hy
      exact noC_wS (d.2 i hi).1 (by decide)
  have e1 : mLc (itL (m2 splitD (mV 0) (mC (.str "\n")))) [2] (.nm 2) mYes (mA (guardN 1 G__read_row) (aCons (mV 2) aNil)) [some (.str (Txt.join ("\n" : Str) (linesOf h))), none, none, none, none, none, none, none, none] = some (.lst ((prs h).map eP)) := by
    refine mLc_map (fun p : WRow => D.str (rowT p.1 p.2)) eP (prs h) ?_ (by omega) fun p hp => ⟨_, rfl, ?_⟩
    · show (if (("\n" : Str).length == 0) = false ∧ (Txt.join ("\n" : Str) (linesOf h)).length ≤ 1000000 ∧ (Txt.split (Txt.join ("\n" : Str) (linesOf h)) ("\n" : Str)).length ≤ 1000000 then some (D.lst ((Txt.split (Txt.join ("\n" : Str) (linesOf h)) ("\n" : Str)).map .str)) else none).bind (fun d => match d with | .lst ds => some ds | _ => none) = _
      rw [sp, if_pos ⟨rfl, by omega, by rw [lines_prs, List.length_map]; omega⟩, lines_prs, List.map_map]
      rfl
    · obtain ⟨a, b, c, d, e⟩ := pg p hp
      have := g_readrow a c d e
      simp (config := { decide := false }) only [runF, initS, sSeq, sIf, sRet, sRetN, sSet, sSetF, sSetO, sDrop, sNext, sNever, sUnp, sUnpF, sApp, sAppF, sLend, sAugI, asgL_nm, asgL_tp, asgL_wt, asgsL_nil, asgsL_cons, asg_nm, asg_tp, asgs_nil, asgs_cons, wipeD, mAnd, mOr, mNot, mB, mTr, m2, m1, mV, mC, mA, mCh, mAndV, mOrV, aCons, aNil, guardN, op, cl, fl, opn, clos, flt, eqD_int, neD_int, gtD, ltD, leD, geD, addD, subD, negD, tupD, lstD, tupF, lstF, outD, notD, tru, isD, isnD, isN, flat_tp, flat_in, flat_bo, flat_no, flats_nl, flats_cn,
  List.map_cons, List.map_nil, List.length_cons, List.length_nil, List.replicate, List.getElem?_cons_zero, List.getElem?_cons_succ, List.getElem?_nil, List.cons_append, List.nil_append, Option.bind_some, Option.bind_none, Option.bind_assoc, Option.map_some, Option.map_none, Nat.reduceAdd, Nat.reduceSub, Nat.reduceLeDiff, List.set_cons_zero, List.set_cons_succ, if_true, if_false, ite_true, ite_false, reduceCtorEq, Bool.false_eq_true, Bool.not_true, Bool.not_false, ↓reduceIte, eq_self, this]
      rfl
  have e2 : mLc (itL (mV 1)) [6, 7] (.tp [(.nm 6), (.nm 7)]) mYes (mV 6) [some (.str (Txt.join ("\n" : Str) (linesOf h))), some (.lst ((prs h).map eP)), none, some (.tup [eRow h.heats]), some (eCells h.cells), some (eWalls h.walls), none, none, none] = some (.lst (((prs h).map fun p => p.1).map D.str)) := by
    rw [List.map_map]
    exact mLc_map eP (fun p => D.str p.1) (prs h) rfl (by omega) fun p hp => ⟨_, rfl, rfl⟩
  have e3 := words_m (C := eCells h.cells) (W := eWalls h.walls) (S := [some (.str (Txt.join ("\n" : Str) (linesOf h))), some (.lst ((prs h).map eP)), none, some (.tup [eRow h.heats]), some (eCells h.cells), some (eWalls h.walls), none, none, none]) (n := h.cells.length) (m := h.walls.length) (by have := ro.n; omega) (by have := ro.m; omega) rfl rfl (len_cells _) (by show some (D.int ((h.walls.map eW).length : Nat)) = _; rw [List.length_map])
  have ew : ([D.str wH] ++ List.replicate h.cells.length (D.str wR)) ++ List.replicate h.walls.length (D.str wW) = ((prs h).map fun p => p.1).map D.str := by
    unfold prs
    rw [List.map_map, List.map_cons, List.map_append, List.map_map, List.map_map, ← map_const' (D.str wR) h.cells, ← map_const' (D.str wW) h.walls]
    rfl
  rw [ew] at e3
  have n1 := g_behind (w := wH) (okS_of _) (by omega) ho
  have n2 := g_behind (w := wR) (okS_of _) (by omega) ho
  have n3 := g_behind (w := wW) (okS_of _) (by omega) ho
  rw [behind_H] at n1
  rw [behind_R] at n2
  rw [behind_W] at n3
  exact read_eval e1 n1 n2 n3 e2 e3 (ne_words fun w hw => by
    obtain ⟨p, hp, rfl⟩ := List.mem_map.mp hw
    exact ho p hp) (g_house o)
/-! ### the law -/
theorem l_whole (i : Int) : G__law_whole [.int i] = some (.bl true) := by
  unfold G__law_whole mr__law_whole
  simp (config := { decide := false }) only [runF, initS, sSeq, sIf, sRet, sRetN, sSet, sSetF, sSetO, sDrop, sNext, sNever, sUnp, sUnpF, sApp, sAppF, sLend, sAugI, asgL_nm, asgL_tp, asgL_wt, asgsL_nil, asgsL_cons, asg_nm, asg_tp, asgs_nil, asgs_cons, wipeD, mAnd, mOr, mNot, mB, mTr, m2, m1, mV, mC, mA, mCh, mAndV, mOrV, aCons, aNil, guardN, op, cl, fl, opn, clos, flt, eqD_int, neD_int, gtD, ltD, leD, geD, addD, subD, negD, tupD, lstD, tupF, lstF, outD, notD, tru, isD, isnD, isN, flat_tp, flat_in, flat_bo, flat_no, flats_nl, flats_cn,
  List.map_cons, List.map_nil, List.length_cons, List.length_nil, List.replicate, List.getElem?_cons_zero, List.getElem?_cons_succ, List.getElem?_nil, List.cons_append, List.nil_append, Option.bind_some, Option.bind_none, Option.bind_assoc, Option.map_some, Option.map_none, Nat.reduceAdd, Nat.reduceSub, Nat.reduceLeDiff, List.set_cons_zero, List.set_cons_succ, if_true, if_false, ite_true, ite_false, reduceCtorEq, Bool.false_eq_true, Bool.not_true, Bool.not_false, ↓reduceIte, eq_self, isi_int, isi_intb]
theorem ne_nil : neD (.lst []) (.lst []) = some (.bl false) := rfl
def tuBody : Ms := sIf (mOr (mNot (mTr (mA isiF (aCons (mV 1) (aCons (mC (.raw (.ty "tuple"))) aNil))))) (mB (m2 neD (mLc (itT (mV 1)) [2] (.nm 2) (mNot (mTr (mA (guardN 1 G__law_whole) (aCons (mV 2) aNil)))) (mV 2)) (mA lstD aNil)))) (sRet (mC (.bl false))) sNext
theorem tu_turn {A : SL} {r : List Int} {u2 : SL} (hr : r.length ≤ 1000) : tuBody [A, .dat (eRow r), u2] = some (.nx [A, .dat (eRow r), u2]) := by
  have e : mLc (itT (mV 1)) [2] (.nm 2) (mNot (mTr (mA (guardN 1 G__law_whole) (aCons (mV 2) aNil)))) (mV 2) (op [A, .dat (eRow r), u2]) = some (.lst []) := by
    rw [mLc_filter (fun i : Int => D.int i) (fun i => D.int i) (fun _ => false) r rfl (by omega) (fun i hi => ⟨_, rfl, by simp (config := { decide := false }) only [runF, initS, sSeq, sIf, sRet, sRetN, sSet, sSetF, sSetO, sDrop, sNext, sNever, sUnp, sUnpF, sApp, sAppF, sLend, sAugI, asgL_nm, asgL_tp, asgL_wt, asgsL_nil, asgsL_cons, asg_nm, asg_tp, asgs_nil, asgs_cons, wipeD, mAnd, mOr, mNot, mB, mTr, m2, m1, mV, mC, mA, mCh, mAndV, mOrV, aCons, aNil, guardN, op, cl, fl, opn, clos, flt, eqD_int, neD_int, gtD, ltD, leD, geD, addD, subD, negD, tupD, lstD, tupF, lstF, outD, notD, tru, isD, isnD, isN, flat_tp, flat_in, flat_bo, flat_no, flats_nl, flats_cn,
  List.map_cons, List.map_nil, List.length_cons, List.length_nil, List.replicate, List.getElem?_cons_zero, List.getElem?_cons_succ, List.getElem?_nil, List.cons_append, List.nil_append, Option.bind_some, Option.bind_none, Option.bind_assoc, Option.map_some, Option.map_none, Nat.reduceAdd, Nat.reduceSub, Nat.reduceLeDiff, List.set_cons_zero, List.set_cons_succ, if_true, if_false, ite_true, ite_false, reduceCtorEq, Bool.false_eq_true, Bool.not_true, Bool.not_false, ↓reduceIte, eq_self, l_whole], fun z => (by cases z)⟩), filter_no' fun _ _ => rfl]
    rfl
  have a1 : mNot (mTr (mA isiF (aCons (mV 1) (aCons (mC (.raw (.ty "tuple"))) aNil)))) (op [A, .dat (eRow r), u2]) = some false := rfl
  have a2 : mB (m2 neD (mLc (itT (mV 1)) [2] (.nm 2) (mNot (mTr (mA (guardN 1 G__law_whole) (aCons (mV 2) aNil)))) (mV 2)) (mA lstD aNil)) (op [A, .dat (eRow r), u2]) = some false := by
    unfold mB m2
    rw [e]
    rfl
  unfold tuBody sIf mOr
  rw [a1]
  show ((mB (m2 neD (mLc (itT (mV 1)) [2] (.nm 2) (mNot (mTr (mA (guardN 1 G__law_whole) (aCons (mV 2) aNil)))) (mV 2)) (mA lstD aNil)) (op [A, .dat (eRow r), u2])).bind _) = _
  rw [a2]
  rfl
theorem l_tuples {rs : List (List Int)} (hr : ∀ r ∈ rs, r.length ≤ 1000) : G__law_are_tuples [.tup (rs.map eRow)] = some (.bl true) := by
  obtain ⟨S', e, u1, u2, rfl⟩ := forM_rel (t := .nm 1) (b := tuBody) eRow (fun _ (_ : Unit) S => ∃ u1 u2, S = [.dat (.tup (rs.map eRow)), u1, u2]) (fun z _ => z) rs () [.dat (.tup (rs.map eRow)), .un, .un] ⟨.un, .un, rfl⟩ (by
    rintro n z S ⟨u1, u2, rfl⟩ r h
    exact turn_go rfl (tu_turn (hr r h)) ⟨_, _, rfl⟩)
  have is : isiF [.tup (rs.map eRow), .raw (.ty "tuple")] = some (.bl true) := isi_tup _
  have it : itT (mV 0) (cl [.dat (.tup (rs.map eRow)), .un, .un]) = some (rs.map eRow) := rfl
  generalize D.tup (rs.map eRow) = T at *
  unfold G__law_are_tuples
  refine run_rt (S := [.dat T, u1, u2]) ?_
  unfold mr__law_are_tuples
  apply Eq.trans
  · apply sSeq_nx (S1 := [.dat T, .un, .un])
    simp (config := { decide := false }) only [runF, initS, sSeq, sIf, sRet, sRetN, sSet, sSetF, sSetO, sDrop, sNext, sNever, sUnp, sUnpF, sApp, sAppF, sLend, sAugI, asgL_nm, asgL_tp, asgL_wt, asgsL_nil, asgsL_cons, asg_nm, asg_tp, asgs_nil, asgs_cons, wipeD, mAnd, mOr, mNot, mB, mTr, m2, m1, mV, mC, mA, mCh, mAndV, mOrV, aCons, aNil, guardN, op, cl, fl, opn, clos, flt, eqD_int, neD_int, gtD, ltD, leD, geD, addD, subD, negD, tupD, lstD, tupF, lstF, outD, notD, tru, isD, isnD, isN, flat_tp, flat_in, flat_bo, flat_no, flats_nl, flats_cn,
  List.map_cons, List.map_nil, List.length_cons, List.length_nil, List.replicate, List.getElem?_cons_zero, List.getElem?_cons_succ, List.getElem?_nil, List.cons_append, List.nil_append, Option.bind_some, Option.bind_none, Option.bind_assoc, Option.map_some, Option.map_none, Nat.reduceAdd, Nat.reduceSub, Nat.reduceLeDiff, List.set_cons_zero, List.set_cons_succ, if_true, if_false, ite_true, ite_false, reduceCtorEq, Bool.false_eq_true, Bool.not_true, Bool.not_false, ↓reduceIte, eq_self, is]
  apply Eq.trans
  · apply sSeq_nx (S1 := [.dat T, u1, u2])
    unfold sFor
    rw [it]
    exact e
  simp (config := { decide := false }) only [runF, initS, sSeq, sIf, sRet, sRetN, sSet, sSetF, sSetO, sDrop, sNext, sNever, sUnp, sUnpF, sApp, sAppF, sLend, sAugI, asgL_nm, asgL_tp, asgL_wt, asgsL_nil, asgsL_cons, asg_nm, asg_tp, asgs_nil, asgs_cons, wipeD, mAnd, mOr, mNot, mB, mTr, m2, m1, mV, mC, mA, mCh, mAndV, mOrV, aCons, aNil, guardN, op, cl, fl, opn, clos, flt, eqD_int, neD_int, gtD, ltD, leD, geD, addD, subD, negD, tupD, lstD, tupF, lstF, outD, notD, tru, isD, isnD, isN, flat_tp, flat_in, flat_bo, flat_no, flats_nl, flats_cn,
  List.map_cons, List.map_nil, List.length_cons, List.length_nil, List.replicate, List.getElem?_cons_zero, List.getElem?_cons_succ, List.getElem?_nil, List.cons_append, List.nil_append, Option.bind_some, Option.bind_none, Option.bind_assoc, Option.map_some, Option.map_none, Nat.reduceAdd, Nat.reduceSub, Nat.reduceLeDiff, List.set_cons_zero, List.set_cons_succ, if_true, if_false, ite_true, ite_false, reduceCtorEq, Bool.false_eq_true, Bool.not_true, Bool.not_false, ↓reduceIte, eq_self]
def lwTurn : Ms := sSeq (sSet 4 (mA (guardN 1 G_read) (aCons (mA (guardN 1 G__law_text) (aCons (mV 3) aNil)) aNil)))
      (sSeq (sIf (mOr (mNot (mTr (mA isiF (aCons (mV 4) (aCons (mC (.raw (.ty "tuple"))) aNil))))) (mB (m2 neD (mV 4) (mV 3)))) (sRet (mC (.bl false))) sNext)
      (sIf (mOr (mNot (mTr (mA (guardN 1 G__law_are_tuples) (aCons (m2 ixD (mV 4) (mC (.int 1))) aNil)))) (mOr (mNot (mTr (mA (guardN 1 G__law_are_tuples) (aCons (m2 ixD (mV 4) (mC (.int 2))) aNil)))) (mNot (mTr (mA (guardN 1 G__law_are_tuples) (aCons (mA tupD (aCons (m2 ixD (mV 4) (mC (.int 0))) aNil)) aNil)))))) (sRet (mC (.bl false))) sNext))
theorem lw_turn {S0 A B K T R C W : D} {u4 : SL} (h1 : G__law_text [K] = some T) (h2 : G_read [T] = some K) (is : isiF [K, .raw (.ty "tuple")] = some (.bl true)) (ne : neD K K = some (.bl false)) (i0 : ixD K (.int 0) = some R) (i1 : ixD K (.int 1) = some C) (i2 : ixD K (.int 2) = some W)
    (t1 : G__law_are_tuples [C] = some (.bl true)) (t2 : G__law_are_tuples [W] = some (.bl true)) (t3 : G__law_are_tuples [.tup [R]] = some (.bl true)) : lwTurn [.dat S0, .dat A, .dat B, .dat K, u4] = some (.nx [.dat S0, .dat A, .dat B, .dat K, .dat K]) := by
  unfold lwTurn
  apply Eq.trans
  · apply sSeq_nx (S1 := [.dat S0, .dat A, .dat B, .dat K, .dat K])
    simp (config := { decide := false }) only [runF, initS, sSeq, sIf, sRet, sRetN, sSet, sSetF, sSetO, sDrop, sNext, sNever, sUnp, sUnpF, sApp, sAppF, sLend, sAugI, asgL_nm, asgL_tp, asgL_wt, asgsL_nil, asgsL_cons, asg_nm, asg_tp, asgs_nil, asgs_cons, wipeD, mAnd, mOr, mNot, mB, mTr, m2, m1, mV, mC, mA, mCh, mAndV, mOrV, aCons, aNil, guardN, op, cl, fl, opn, clos, flt, eqD_int, neD_int, gtD, ltD, leD, geD, addD, subD, negD, tupD, lstD, tupF, lstF, outD, notD, tru, isD, isnD, isN, flat_tp, flat_in, flat_bo, flat_no, flats_nl, flats_cn,
  List.map_cons, List.map_nil, List.length_cons, List.length_nil, List.replicate, List.getElem?_cons_zero, List.getElem?_cons_succ, List.getElem?_nil, List.cons_append, List.nil_append, Option.bind_some, Option.bind_none, Option.bind_assoc, Option.map_some, Option.map_none, Nat.reduceAdd, Nat.reduceSub, Nat.reduceLeDiff, List.set_cons_zero, List.set_cons_succ, if_true, if_false, ite_true, ite_false, reduceCtorEq, Bool.false_eq_true, Bool.not_true, Bool.not_false, ↓reduceIte, eq_self, h1, h2]
  apply Eq.trans
  · apply sSeq_nx (S1 := [.dat S0, .dat A, .dat B, .dat K, .dat K])
    simp (config := { decide := false }) only [runF, initS, sSeq, sIf, sRet, sRetN, sSet, sSetF, sSetO, sDrop, sNext, sNever, sUnp, sUnpF, sApp, sAppF, sLend, sAugI, asgL_nm, asgL_tp, asgL_wt, asgsL_nil, asgsL_cons, asg_nm, asg_tp, asgs_nil, asgs_cons, wipeD, mAnd, mOr, mNot, mB, mTr, m2, m1, mV, mC, mA, mCh, mAndV, mOrV, aCons, aNil, guardN, op, cl, fl, opn, clos, flt, eqD_int, neD_int, gtD, ltD, leD, geD, addD, subD, negD, tupD, lstD, tupF, lstF, outD, notD, tru, isD, isnD, isN, flat_tp, flat_in, flat_bo, flat_no, flats_nl, flats_cn,
  List.map_cons, List.map_nil, List.length_cons, List.length_nil, List.replicate, List.getElem?_cons_zero, List.getElem?_cons_succ, List.getElem?_nil, List.cons_append, List.nil_append, Option.bind_some, Option.bind_none, Option.bind_assoc, Option.map_some, Option.map_none, Nat.reduceAdd, Nat.reduceSub, Nat.reduceLeDiff, List.set_cons_zero, List.set_cons_succ, if_true, if_false, ite_true, ite_false, reduceCtorEq, Bool.false_eq_true, Bool.not_true, Bool.not_false, ↓reduceIte, eq_self, is, ne]
  simp (config := { decide := false }) only [runF, initS, sSeq, sIf, sRet, sRetN, sSet, sSetF, sSetO, sDrop, sNext, sNever, sUnp, sUnpF, sApp, sAppF, sLend, sAugI, asgL_nm, asgL_tp, asgL_wt, asgsL_nil, asgsL_cons, asg_nm, asg_tp, asgs_nil, asgs_cons, wipeD, mAnd, mOr, mNot, mB, mTr, m2, m1, mV, mC, mA, mCh, mAndV, mOrV, aCons, aNil, guardN, op, cl, fl, opn, clos, flt, eqD_int, neD_int, gtD, ltD, leD, geD, addD, subD, negD, tupD, lstD, tupF, lstF, outD, notD, tru, isD, isnD, isN, flat_tp, flat_in, flat_bo, flat_no, flats_nl, flats_cn,
  List.map_cons, List.map_nil, List.length_cons, List.length_nil, List.replicate, List.getElem?_cons_zero, List.getElem?_cons_succ, List.getElem?_nil, List.cons_append, List.nil_append, Option.bind_some, Option.bind_none, Option.bind_assoc, Option.map_some, Option.map_none, Nat.reduceAdd, Nat.reduceSub, Nat.reduceLeDiff, List.set_cons_zero, List.set_cons_succ, if_true, if_false, ite_true, ite_false, reduceCtorEq, Bool.false_eq_true, Bool.not_true, Bool.not_false, ↓reduceIte, eq_self, i0, i1, i2, t1, t2, t3]
theorem num_row' (r : List Int) : numd 1 (eRow r) = true := numds_map fun _ _ => rfl
theorem num_house' (h : Hs) : numd 3 (eH h) = true := by
  show (numd 2 (eRow h.heats) && (numd 2 (eCells h.cells) && (numd 2 (eWalls h.walls) && true))) = true
  rw [show numd 2 (eRow h.heats) = true from numds_map fun _ _ => rfl, show numd 2 (eCells h.cells) = true from numds_map fun r _ => num_row' r, show numd 2 (eWalls h.walls) = true from numds_map fun _ _ => rfl]
  rfl
theorem ne_house' (h : Hs) : neD (eH h) (eH h) = some (.bl false) := neD_num (n := 3) (m := 3) (b := true) (by decide) (by decide) (num_house' h) (num_house' h) ⟨fun _ => rfl, fun _ => rfl⟩
theorem lw_ok {S0 A B : D} {k : Hs} (o : Ok k) {u4 : SL} : lwTurn [.dat S0, .dat A, .dat B, .dat (eH k), u4] = some (.nx [.dat S0, .dat A, .dat B, .dat (eH k), .dat (eH k)]) := by
  have wi := o.g.wi
  have t2 := l_tuples (rs := k.walls.map w3) fun r hr => by
    obtain ⟨w, _, rfl⟩ := List.mem_map.mp hr
    show 3 ≤ 1000
    decide
  rw [List.map_map] at t2
  exact lw_turn (l_text o) (g_read o) (isi_tup _) (ne_house' k) rfl rfl rfl (l_tuples fun r hr => by rw [o.g.all r hr]; omega) t2 (l_tuples (rs := [k.heats]) fun r hr => by rw [List.mem_singleton.mp hr, o.hh.len]; decide)
def great : Hs := ⟨[9, 0, 9, 0, 9], [[9999, 0, 1000, 10]], [(0, 3, 1), (0, 0, 3)]⟩
theorem great_ok : Ok great := by
  refine ⟨⟨rfl, by decide⟩, ⟨by decide, by decide, by decide⟩, by decide, by decide, by decide, by decide⟩
theorem law_eval {S0 H G : D} {u3 u4 : SL} (h1 : G__law_house [S0, .int 4] = some H)
    (hG : mA tupD (aCons (mA tupD (aCons (mC (.int 9)) (aCons (mC (.int 0)) (aCons (mC (.int 9)) (aCons (mC (.int 0)) (aCons (mC (.int 9)) aNil)))))) (aCons (mA tupD (aCons (mA tupD (aCons (mC (.int 9999)) (aCons (mC (.int 0)) (aCons (mC (.int 1000)) (aCons (mC (.int 10)) aNil))))) aNil)) (aCons (mA tupD (aCons (mA tupD (aCons (mC (.int 0)) (aCons (mC (.int 3)) (aCons (mC (.int 1)) aNil)))) (aCons (mA tupD (aCons (mC (.int 0)) (aCons (mC (.int 0)) (aCons (mC (.int 3)) aNil)))) aNil))) aNil))) (cl [.dat S0, .dat H, .un, .un, .un]) = some G)
    (e : forM (.nm 3) lwTurn [H, G, H] [.dat S0, .dat H, .dat G, .un, .un] = some (.nx [.dat S0, .dat H, .dat G, u3, u4])) : G_law [S0] = some (.bl true) := by
  unfold G_law
  refine run_rt (S := [.dat S0, .dat H, .dat G, u3, u4]) ?_
  unfold mr_law
  apply Eq.trans
  · apply sSeq_nx (S1 := [.dat S0, .dat H, .un, .un, .un])
    simp (config := { decide := false }) only [runF, initS, sSeq, sIf, sRet, sRetN, sSet, sSetF, sSetO, sDrop, sNext, sNever, sUnp, sUnpF, sApp, sAppF, sLend, sAugI, asgL_nm, asgL_tp, asgL_wt, asgsL_nil, asgsL_cons, asg_nm, asg_tp, asgs_nil, asgs_cons, wipeD, mAnd, mOr, mNot, mB, mTr, m2, m1, mV, mC, mA, mCh, mAndV, mOrV, aCons, aNil, guardN, op, cl, fl, opn, clos, flt, eqD_int, neD_int, gtD, ltD, leD, geD, addD, subD, negD, tupD, lstD, tupF, lstF, outD, notD, tru, isD, isnD, isN, flat_tp, flat_in, flat_bo, flat_no, flats_nl, flats_cn,
  List.map_cons, List.map_nil, List.length_cons, List.length_nil, List.replicate, List.getElem?_cons_zero, List.getElem?_cons_succ, List.getElem?_nil, List.cons_append, List.nil_append, Option.bind_some, Option.bind_none, Option.bind_assoc, Option.map_some, Option.map_none, Nat.reduceAdd, Nat.reduceSub, Nat.reduceLeDiff, List.set_cons_zero, List.set_cons_succ, if_true, if_false, ite_true, ite_false, reduceCtorEq, Bool.false_eq_true, Bool.not_true, Bool.not_false, ↓reduceIte, eq_self, h1]
  apply Eq.trans
  · apply sSeq_nx (S1 := [.dat S0, .dat H, .dat G, .un, .un])
    unfold sSet
    rw [hG]
    rfl
  apply Eq.trans
  · apply sSeq_nx (S1 := [.dat S0, .dat H, .dat G, u3, u4])
    unfold sFor
    have it : itL (mA lstD (aCons (mV 1) (aCons (mV 2) (aCons (mV 1) aNil)))) (cl [.dat S0, .dat H, .dat G, .un, .un]) = some [H, G, H] := rfl
    rw [it]
    exact e
  simp (config := { decide := false }) only [runF, initS, sSeq, sIf, sRet, sRetN, sSet, sSetF, sSetO, sDrop, sNext, sNever, sUnp, sUnpF, sApp, sAppF, sLend, sAugI, asgL_nm, asgL_tp, asgL_wt, asgsL_nil, asgsL_cons, asg_nm, asg_tp, asgs_nil, asgs_cons, wipeD, mAnd, mOr, mNot, mB, mTr, m2, m1, mV, mC, mA, mCh, mAndV, mOrV, aCons, aNil, guardN, op, cl, fl, opn, clos, flt, eqD_int, neD_int, gtD, ltD, leD, geD, addD, subD, negD, tupD, lstD, tupF, lstF, outD, notD, tru, isD, isnD, isN, flat_tp, flat_in, flat_bo, flat_no, flats_nl, flats_cn,
  List.map_cons, List.map_nil, List.length_cons, List.length_nil, List.replicate, List.getElem?_cons_zero, List.getElem?_cons_succ, List.getElem?_nil, List.cons_append, List.nil_append, Option.bind_some, Option.bind_none, Option.bind_assoc, Option.map_some, Option.map_none, Nat.reduceAdd, Nat.reduceSub, Nat.reduceLeDiff, List.set_cons_zero, List.set_cons_succ, if_true, if_false, ite_true, ite_false, reduceCtorEq, Bool.false_eq_true, Bool.not_true, Bool.not_false, ↓reduceIte, eq_self]
theorem l_law (ns : List Int) : G_law [eNs ns] = some (.bl true) := by
  obtain ⟨h, e, o, _, _⟩ := l_house ns (m := 4) (by decide) (by decide)
  have e3 : forM (.nm 3) lwTurn [eH h, eH great, eH h] [.dat (eNs ns), .dat (eH h), .dat (eH great), .un, .un] = some (.nx [.dat (eNs ns), .dat (eH h), .dat (eH great), .dat (eH h), .dat (eH h)]) := by
    refine (forM_go' rfl (lw_ok o)).trans ?_
    refine (forM_go' rfl (lw_ok great_ok)).trans ?_
    refine (forM_go' rfl (lw_ok o)).trans ?_
    rfl
  exact law_eval e rfl e3
where
  forM_go' {t : Tg} {b : Ms} {d : D} {ds : List D} {S S1 S2 : Sl} (h1 : asgL t d S = some S1) (h2 : b S1 = some (.nx S2)) : forM t b (d :: ds) S = forM t b ds S2 := by
    show ((asgL t d S).bind fun S1 => (b S1).bind fun o => match o with
        | .nx S2 => forM t b ds S2
        | .ct S2 => forM t b ds S2
        | .bk S2 => some (.nx S2)
        | .rt d S2 => some (.rt d S2)) = _
    rw [h1]
    show ((b S1).bind _) = _
    rw [h2]
    rfl
end Ice

namespace Ice
open PySem PySem.Spec PyProof.Rows L2
/-! ### the head -/
def fnL_0 : List He.FnD := [fnI "is_number" (topS 15), fnI "_are_numbers" (topS 22), fnI "_need_cells" (topS 19), fnI "_is_face" (topS 21), fnI "face_name" (topS 16), fnI "shut_faces" (topS 17), fnI "_need_faces" (topS 20), fnI "_need_heats" (topS 18), fnI "need_house" (topS 14), fnI "_numbers_behind" (topS 32), fnI "_is_count" (topS 30), fnI "_is_written_number" (topS 31), fnI "_read_row" (topS 29), fnI "read" (topS 28), fnI "_law_cell_at" (topS 34), fnI "_law_dice" (topS 35), fnI "_law_roll" (topS 36), fnI "_law_whole" (topS 37), fnI "_law_heats" (topS 38), fnI "_law_cells" (topS 39), fnI "_law_beside" (topS 40), fnI "_law_is_cell" (topS 41), fnI "_law_face" (topS 42), fnI "_law_screens" (topS 43), fnI "_law_house" (topS 44), fnI "_law_text" (topS 45), fnI "_law_are_tuples" (topS 46), fnI "law" (topS 47)]
def fnL : List He.FnD := fnL_0
def faL_0 : List He.Fa := [.int "EAST" 1, .str "HEATS" "heats", .int "MOST_COLUMNS" 4, .int "MOST_FIGURES" 4, .int "MOST_HEAT" 9, .int "MOST_PARTS" 9999, .int "MOST_ROWS" 4, .int "MOST_WALLS" 40, .int "NORTH" 0, .str "ROW" "row", .int "SOUTH" 2, .str "WALL" "wall", .int "WEST" 3, .free "all", .free "bool", .free "int", .free "isinstance", .free "len", .free "range", .free "str", .free "tuple", .glo "is_number", .glo "_are_numbers", .glo "_need_cells", .glo "_is_face", .glo "face_name", .glo "shut_faces", .glo "_need_faces", .glo "_need_heats", .glo "need_house"]
def faL_1 : List He.Fa := [.glo "_numbers_behind", .glo "_is_count", .glo "_is_written_number", .glo "_read_row", .glo "read", .glo "_law_cell_at", .glo "_law_dice", .glo "_law_roll", .glo "_law_whole", .glo "_law_heats", .glo "_law_cells", .glo "_law_beside", .glo "_law_is_cell", .glo "_law_face", .glo "_law_screens", .glo "_law_house", .glo "_law_text", .glo "_law_are_tuples", .glo "law", .keep "is_number", .keep "_are_numbers", .keep "_need_cells", .keep "_is_face", .keep "face_name", .keep "shut_faces", .keep "_need_faces", .keep "_need_heats", .keep "need_house", .keep "_numbers_behind", .keep "_is_count"]
def faL_2 : List He.Fa := [.keep "_is_written_number", .keep "_read_row", .keep "read", .keep "_law_cell_at", .keep "_law_dice", .keep "_law_roll", .keep "_law_whole", .keep "_law_heats", .keep "_law_cells", .keep "_law_beside", .keep "_law_is_cell", .keep "_law_face", .keep "_law_screens", .keep "_law_house", .keep "_law_text", .keep "_law_are_tuples", .keep "law"]
def faL : List He.Fa := faL_0 ++ faL_1 ++ faL_2
def looseL_0 : List Str := ["IceError", "BadHouse", "BadText", "NORTH", "EAST", "SOUTH", "WEST", "MOST_HEAT", "MOST_PARTS", "MOST_ROWS", "MOST_COLUMNS", "MOST_WALLS", "need_house", "is_number", "face_name", "shut_faces", "_need_heats", "_need_cells", "_need_faces", "_is_face", "_are_numbers", "HEATS", "ROW", "WALL", "MOST_FIGURES", "read", "_read_row", "_is_count", "_is_written_number", "_numbers_behind"]
def looseL_1 : List Str := ["_law_cell_at", "_law_dice", "_law_roll", "_law_whole", "_law_heats", "_law_cells", "_law_beside", "_law_is_cell", "_law_face", "_law_screens", "_law_house", "_law_text", "_law_are_tuples"]
def looseL : List Str := looseL_0 ++ looseL_1
def exL (K : PySem.W.Frag) : Bool := true
abbrev RL : PySem.W.OpenRow := PySem.W.OpenLaw.row PySem.Challenge.rw_icehouse_k16_read_back
abbrev hkL : PySem.W.Hook := hookI 4 faL fnL exL
def obL (s : PySem.W.SharedT) : AlI := obI 4 faL fnL exL (HandSHeadRun.getT s)
theorem obL_eq (s : PySem.W.SharedT) : obL s = hkL.obs s.abs := obI_eq (HandSHeadRun.getT_eq s)
theorem runL (w : World) : HandSHeadRun.RunEq RL (PySem.W.view RL.prog [47]) hkL obL 3000 looseL w := by
  intro os
  kernel_rfl
/-! ### all that the top has written -/
theorem factsL {P : Program} {w : World} {K : PySem.W.Frag} {h : Heap} {mg : Str → Option Value} {f : Addr} (X : K.In h) (G : h.Ns mainGlobals mg) (hfa : mg ("law" : Str) = some (.ref f)) (c : He.SaysE faL fnL K) (e : exL K = true) :
    ∃ fd : FuncData, (∀ (s : Shared) (v : Value), BindsTo s fd ⟨[v], []⟩ [("_law_script", v)]) ∧ ∀ base : Heap, K.In base → base.Ns mainGlobals mg → FnOk P w K mg base CX0 6 f fd ["_law_script"] (spD K 1 G_law) := by
  have T : Txt K mg := ⟨He.int_ok X G (c.fact 0), He.str_ok X G (c.fact 1), He.int_ok X G (c.fact 2), He.int_ok X G (c.fact 3), He.int_ok X G (c.fact 4), He.int_ok X G (c.fact 5), He.int_ok X G (c.fact 6), He.int_ok X G (c.fact 7), He.int_ok X G (c.fact 8), He.str_ok X G (c.fact 9), He.int_ok X G (c.fact 10), He.str_ok X G (c.fact 11), He.int_ok X G (c.fact 12), He.free_ok X G (c.fact 13), He.free_ok X G (c.fact 14), He.free_ok X G (c.fact 15), He.free_ok X G (c.fact 16), He.free_ok X G (c.fact 17), He.free_ok X G (c.fact 18), He.free_ok X G (c.fact 19), He.free_ok X G (c.fact 20)⟩
  obtain ⟨fd_is_number, F_is_number, m_is_number⟩ := def_at X G c "is_number" (topS 15) 0 21 49 rfl rfl rfl
  obtain ⟨fd__are_numbers, F__are_numbers, m__are_numbers⟩ := def_at X G c "_are_numbers" (topS 22) 1 22 50 rfl rfl rfl
  obtain ⟨fd__need_cells, F__need_cells, m__need_cells⟩ := def_at X G c "_need_cells" (topS 19) 2 23 51 rfl rfl rfl
  obtain ⟨fd__is_face, F__is_face, m__is_face⟩ := def_at X G c "_is_face" (topS 21) 3 24 52 rfl rfl rfl
  obtain ⟨fd_face_name, F_face_name, m_face_name⟩ := def_at X G c "face_name" (topS 16) 4 25 53 rfl rfl rfl
  obtain ⟨fd_shut_faces, F_shut_faces, m_shut_faces⟩ := def_at X G c "shut_faces" (topS 17) 5 26 54 rfl rfl rfl
  obtain ⟨fd__need_faces, F__need_faces, m__need_faces⟩ := def_at X G c "_need_faces" (topS 20) 6 27 55 rfl rfl rfl
  obtain ⟨fd__need_heats, F__need_heats, m__need_heats⟩ := def_at X G c "_need_heats" (topS 18) 7 28 56 rfl rfl rfl
  obtain ⟨fd_need_house, F_need_house, m_need_house⟩ := def_at X G c "need_house" (topS 14) 8 29 57 rfl rfl rfl
  obtain ⟨fd__numbers_behind, F__numbers_behind, m__numbers_behind⟩ := def_at X G c "_numbers_behind" (topS 32) 9 30 58 rfl rfl rfl
  obtain ⟨fd__is_count, F__is_count, m__is_count⟩ := def_at X G c "_is_count" (topS 30) 10 31 59 rfl rfl rfl
  obtain ⟨fd__is_written_number, F__is_written_number, m__is_written_number⟩ := def_at X G c "_is_written_number" (topS 31) 11 32 60 rfl rfl rfl
  obtain ⟨fd__read_row, F__read_row, m__read_row⟩ := def_at X G c "_read_row" (topS 29) 12 33 61 rfl rfl rfl
  obtain ⟨fd_read, F_read, m_read⟩ := def_at X G c "read" (topS 28) 13 34 62 rfl rfl rfl
  obtain ⟨fd__law_cell_at, F__law_cell_at, m__law_cell_at⟩ := def_at X G c "_law_cell_at" (topS 34) 14 35 63 rfl rfl rfl
  obtain ⟨fd__law_dice, F__law_dice, m__law_dice⟩ := def_at X G c "_law_dice" (topS 35) 15 36 64 rfl rfl rfl
  obtain ⟨fd__law_roll, F__law_roll, m__law_roll⟩ := def_at X G c "_law_roll" (topS 36) 16 37 65 rfl rfl rfl
  obtain ⟨fd__law_whole, F__law_whole, m__law_whole⟩ := def_at X G c "_law_whole" (topS 37) 17 38 66 rfl rfl rfl
  obtain ⟨fd__law_heats, F__law_heats, m__law_heats⟩ := def_at X G c "_law_heats" (topS 38) 18 39 67 rfl rfl rfl
  obtain ⟨fd__law_cells, F__law_cells, m__law_cells⟩ := def_at X G c "_law_cells" (topS 39) 19 40 68 rfl rfl rfl
  obtain ⟨fd__law_beside, F__law_beside, m__law_beside⟩ := def_at X G c "_law_beside" (topS 40) 20 41 69 rfl rfl rfl
  obtain ⟨fd__law_is_cell, F__law_is_cell, m__law_is_cell⟩ := def_at X G c "_law_is_cell" (topS 41) 21 42 70 rfl rfl rfl
  obtain ⟨fd__law_face, F__law_face, m__law_face⟩ := def_at X G c "_law_face" (topS 42) 22 43 71 rfl rfl rfl
  obtain ⟨fd__law_screens, F__law_screens, m__law_screens⟩ := def_at X G c "_law_screens" (topS 43) 23 44 72 rfl rfl rfl
  obtain ⟨fd__law_house, F__law_house, m__law_house⟩ := def_at X G c "_law_house" (topS 44) 24 45 73 rfl rfl rfl
  obtain ⟨fd__law_text, F__law_text, m__law_text⟩ := def_at X G c "_law_text" (topS 45) 25 46 74 rfl rfl rfl
  obtain ⟨fd__law_are_tuples, F__law_are_tuples, m__law_are_tuples⟩ := def_at X G c "_law_are_tuples" (topS 46) 26 47 75 rfl rfl rfl
  obtain ⟨fd_law, F_law, m_law⟩ := def_at X G c "law" (topS 47) 27 48 76 rfl rfl rfl
  have ef := hfa.symm.trans m_law
  cases ef
  refine ⟨fd_law, binds_to F_law fun _ _ _ _ _ _ _ => rfl, fun base _ _ => ?_⟩
  have c_is_number : C8.Cal P w K mg base 1 "is_number" (spD K 2 G_is_number) [] := cal_of F_is_number m_is_number (ok_is_number F_is_number T ) fun _ _ _ _ _ _ us hl => match us, hl with | [_, _], _ => rfl
  have c__are_numbers : C8.Cal P w K mg base 2 "_are_numbers" (spD K 2 G__are_numbers) [] := cal_of F__are_numbers m__are_numbers (ok__are_numbers F__are_numbers T c_is_number) fun _ _ _ _ _ _ us hl => match us, hl with | [_, _], _ => rfl
  have c__need_cells : C8.Cal P w K mg base 3 "_need_cells" (spD K 1 G__need_cells) [] := cal_of F__need_cells m__need_cells (ok__need_cells F__need_cells T c__are_numbers) fun _ _ _ _ _ _ us hl => match us, hl with | [_], _ => rfl
  have c__is_face : C8.Cal P w K mg base 2 "_is_face" (spD K 2 G__is_face) [] := cal_of F__is_face m__is_face (ok__is_face F__is_face T c_is_number) fun _ _ _ _ _ _ us hl => match us, hl with | [_, _], _ => rfl
  have c_face_name : C8.Cal P w K mg base 1 "face_name" (spD K 3 G_face_name) [] := cal_of F_face_name m_face_name (ok_face_name F_face_name T ) fun _ _ _ _ _ _ us hl => match us, hl with | [_, _, _], _ => rfl
  have c_shut_faces : C8.Cal P w K mg base 2 "shut_faces" (spD K 1 G_shut_faces) [] := cal_of F_shut_faces m_shut_faces (ok_shut_faces F_shut_faces T c_face_name) fun _ _ _ _ _ _ us hl => match us, hl with | [_], _ => rfl
  have c__need_faces : C8.Cal P w K mg base 3 "_need_faces" (spD K 2 G__need_faces) [] := cal_of F__need_faces m__need_faces (ok__need_faces F__need_faces T c__is_face c_shut_faces) fun _ _ _ _ _ _ us hl => match us, hl with | [_, _], _ => rfl
  have c__need_heats : C8.Cal P w K mg base 3 "_need_heats" (spD K 1 G__need_heats) [] := cal_of F__need_heats m__need_heats (ok__need_heats F__need_heats T c__are_numbers) fun _ _ _ _ _ _ us hl => match us, hl with | [_], _ => rfl
  have c_need_house : C8.Cal P w K mg base 4 "need_house" (spD K 1 G_need_house) [] := cal_of F_need_house m_need_house (ok_need_house F_need_house T c__need_cells c__need_faces c__need_heats) fun _ _ _ _ _ _ us hl => match us, hl with | [_], _ => rfl
  have c__numbers_behind : C8.Cal P w K mg base 1 "_numbers_behind" (spD K 2 G__numbers_behind) [] := cal_of F__numbers_behind m__numbers_behind (ok__numbers_behind F__numbers_behind T ) fun _ _ _ _ _ _ us hl => match us, hl with | [_, _], _ => rfl
  have c__is_count : C8.Cal P w K mg base 1 "_is_count" (spD K 2 G__is_count) [] := cal_of F__is_count m__is_count (ok__is_count F__is_count T ) fun _ _ _ _ _ _ us hl => match us, hl with | [_, _], _ => rfl
  have c__is_written_number : C8.Cal P w K mg base 1 "_is_written_number" (spD K 1 G__is_written_number) [] := cal_of F__is_written_number m__is_written_number (ok__is_written_number F__is_written_number T ) fun _ _ _ _ _ _ us hl => match us, hl with | [_], _ => rfl
  have c__read_row : C8.Cal P w K mg base 2 "_read_row" (spD K 1 G__read_row) [] := cal_of F__read_row m__read_row (ok__read_row F__read_row T c__is_count c__is_written_number) fun _ _ _ _ _ _ us hl => match us, hl with | [_], _ => rfl
  have c_read : C8.Cal P w K mg base 5 "read" (spD K 1 G_read) [] := cal_of F_read m_read (ok_read F_read T c__numbers_behind c__read_row c_need_house) fun _ _ _ _ _ _ us hl => match us, hl with | [_], _ => rfl
  have c__law_cell_at : C8.Cal P w K mg base 1 "_law_cell_at" (spD K 2 G__law_cell_at) [] := cal_of F__law_cell_at m__law_cell_at (ok__law_cell_at F__law_cell_at T ) fun _ _ _ _ _ _ us hl => match us, hl with | [_, _], _ => rfl
  have c__law_dice : C8.Cal P w K mg base 1 "_law_dice" (spD K 1 G__law_dice) [] := cal_of F__law_dice m__law_dice (ok__law_dice F__law_dice T ) fun _ _ _ _ _ _ us hl => match us, hl with | [_], _ => rfl
  have c__law_roll : C8.Cal P w K mg base 1 "_law_roll" (spX K 2 G__law_roll) [] := cal_of F__law_roll m__law_roll (ok__law_roll F__law_roll T ) fun _ _ _ _ _ _ us hl => match us, hl with | [_, _], _ => rfl
  have c__law_whole : C8.Cal P w K mg base 1 "_law_whole" (spD K 1 G__law_whole) [] := cal_of F__law_whole m__law_whole (ok__law_whole F__law_whole T ) fun _ _ _ _ _ _ us hl => match us, hl with | [_], _ => rfl
  have c__law_heats : C8.Cal P w K mg base 2 "_law_heats" (spX K 1 G__law_heats) [] := cal_of F__law_heats m__law_heats (ok__law_heats F__law_heats T c__law_roll) fun _ _ _ _ _ _ us hl => match us, hl with | [_], _ => rfl
  have c__law_cells : C8.Cal P w K mg base 2 "_law_cells" (spX K 3 G__law_cells) [] := cal_of F__law_cells m__law_cells (ok__law_cells F__law_cells T c__law_roll) fun _ _ _ _ _ _ us hl => match us, hl with | [_, _, _], _ => rfl
  have c__law_beside : C8.Cal P w K mg base 1 "_law_beside" (spD K 3 G__law_beside) [] := cal_of F__law_beside m__law_beside (ok__law_beside F__law_beside T ) fun _ _ _ _ _ _ us hl => match us, hl with | [_, _, _], _ => rfl
  have c__law_is_cell : C8.Cal P w K mg base 1 "_law_is_cell" (spD K 3 G__law_is_cell) [] := cal_of F__law_is_cell m__law_is_cell (ok__law_is_cell F__law_is_cell T ) fun _ _ _ _ _ _ us hl => match us, hl with | [_, _, _], _ => rfl
  have c__law_face : C8.Cal P w K mg base 2 "_law_face" (spD K 2 G__law_face) [] := cal_of F__law_face m__law_face (ok__law_face F__law_face T c__law_beside c__law_is_cell) fun _ _ _ _ _ _ us hl => match us, hl with | [_, _], _ => rfl
  have c__law_screens : C8.Cal P w K mg base 3 "_law_screens" (spX K 2 G__law_screens) [] := cal_of F__law_screens m__law_screens (ok__law_screens F__law_screens T c__law_face c__law_roll) fun _ _ _ _ _ _ us hl => match us, hl with | [_, _], _ => rfl
  have c__law_house : C8.Cal P w K mg base 4 "_law_house" (spD K 2 G__law_house) [] := cal_of F__law_house m__law_house (ok__law_house F__law_house T c__law_cell_at c__law_cells c__law_dice c__law_heats c__law_screens) fun _ _ _ _ _ _ us hl => match us, hl with | [_, _], _ => rfl
  have c__law_text : C8.Cal P w K mg base 1 "_law_text" (spD K 1 G__law_text) [] := cal_of F__law_text m__law_text (ok__law_text F__law_text T ) fun _ _ _ _ _ _ us hl => match us, hl with | [_], _ => rfl
  have c__law_are_tuples : C8.Cal P w K mg base 2 "_law_are_tuples" (spD K 1 G__law_are_tuples) [] := cal_of F__law_are_tuples m__law_are_tuples (ok__law_are_tuples F__law_are_tuples T c__law_whole) fun _ _ _ _ _ _ us hl => match us, hl with | [_], _ => rfl
  exact ok_law F_law T c__law_are_tuples c__law_house c__law_text c_read
end Ice
open PySem PySem.W PySem.Calls PyProof.Rows
set_option maxHeartbeats 0 in
theorem PySem.Challenge.cw_icehouse_k16_read_back_holds : PySem.Challenge.rw_icehouse_k16_read_back.Holds := by
  w_on; o_law
  refine HandSHeadRun.head_any (r := OpenLaw.row PySem.Challenge.rw_icehouse_k16_read_back) (q := view (OpenLaw.row PySem.Challenge.rw_icehouse_k16_read_back).prog [47]) (H := Ice.hkL) (ob := Ice.obL) (M := 3000) (loose := Ice.looseL) (d := HandSHeadRun.topDef (OpenLaw.row PySem.Challenge.rw_icehouse_k16_read_back).prog 47) (kwd := []) Ice.obL_eq
    (by kernel_rfl) (fun s => by kernel_rfl) Ice.runL (by kernel_rfl) (by kernel_rfl) (by kernel_rfl) (by rfl) (by first | assumption | decide +kernel) (by decide +kernel) ⟨rfl, rfl, rfl, rfl, rfl, by decide +kernel⟩ ?hw ?hc
  case hw => w_witness2
  case hc =>
    refine L2.walk_ofE (l := PySem.Challenge.rw_icehouse_k16_read_back) (n := 63) (k := 6) (x := "_law_script") (CX := L2.CX0) rfl (by decide) (by kernel_rfl) ⟨rfl, by decide, by decide⟩ ?F (fun _ _ _ _ z => z)
    intro w mg fa h Y G hmg0
    obtain ⟨K, KX, c, e⟩ := Y
    have hmg : mg ("law" : PySem.Str) = some (.ref fa) := by
      have e : (HandSHeadRun.topDef (OpenLaw.row PySem.Challenge.rw_icehouse_k16_read_back).prog 47).name = ("law" : PySem.Str) := by kernel_rfl
      rw [← e]
      exact hmg0
    obtain ⟨fd, hb, hF⟩ := Ice.factsL (P := (PySem.Challenge.rw_icehouse_k16_read_back).prog) (w := w) KX G hmg c e
    exact ⟨K, fd, Ice.spD K 1 Ice.G_law, KX, hb, fun H a ns hl O hS => ⟨[Ice.eNs ns], fun _ => False, .bl true, .cons (Ice.script_rep O hS) .nil, rfl, Ice.l_law ns, fun v H' _ r => by cases r; rfl⟩, hF⟩

