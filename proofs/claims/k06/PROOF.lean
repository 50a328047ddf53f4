import PyProof.Rows.All
import HandS.ForMost
import HandS.ForExc
import HandS.AnyAll
import HandS.IsInst
import HandS.Style
import HandS.TupAny
import HandS.TupMul
import HandS.Flow
import HandS.Deep
import HandS.Text
import HandS.ForDict
import HandS.EndTab
import HandS.EndBits
import HandS.Dict
import HandS.Words
import HandS.DeepEq
import HandS.ExcInit
import HandS.ExcIs
import HandS.ExcField
import HandS.Defaults
import KE.KExcIs
import KE.KExcInit
import HandS.ExcValue
import PySem.Challenge.RW_everso_k06_refusals_made
set_option Elab.async false
set_option linter.all false
set_option maxRecDepth 100000
set_option maxHeartbeats 0
/-! Mi0: a small store semantics over the layer: values, stores, what stands for what. -/
namespace Mi
open L2 PySem PySem.Spec PyProof.Rows

/-- a value: tuples (and lists that nobody changes: the script) are inline, what may change stands at a number of the store -/
inductive D where
  | non | bl (b : Bool) | int (i : Int) | str (x : Str) | tup (xs : List D) | rol (xs : List D) | ref (n : Nat) | ty (n : String) | own (C : Addr) | xo (C : Addr)
/-- what stands at a number -/
inductive O where
  | lst (xs : List D) | dic (kvs : List (Key × D)) | ins (c : Nat) (fs : List (Str × D))
abbrev AH := List O
/-- an exception: its class (an own one by its number, or a built-in one), its fields -/
inductive Cl where
  | own (c : Nat) | ty (n : String)
structure Exn where
  cl : Cl
  fs : List (Str × D)
inductive Res (α : Type) where
  | ok (a : α) (h : AH) | exc (x : Exn) (h : AH) | stuck
def Res.bind {α β : Type} (r : Res α) (f : α → AH → Res β) : Res β :=
  match r with
  | .ok a h => f a h
  | .exc x h => .exc x h
  | .stuck => .stuck
@[simp] theorem Res.bind_ok {α β : Type} (a : α) (h : AH) (f : α → AH → Res β) : (Res.ok a h).bind f = f a h := rfl
@[simp] theorem Res.bind_exc {α β : Type} (x : Exn) (h : AH) (f : α → AH → Res β) : (Res.exc (α := α) x h).bind f = .exc x h := rfl
@[simp] theorem Res.bind_stuck {α β : Type} (f : α → AH → Res β) : (Res.stuck (α := α)).bind f = .stuck := rfl
abbrev AEnv := List (Option D)

/-- a list that nobody changes -/
def SqR (K : PySem.W.Frag) (H : Hp) (a : Addr) (xs : List V) : Prop :=
  (∃ o, H a = some (.frz o (.lst xs))) ∨
    ∃ (ob : Obj) (zs : Array Value) (k : Nat), K.lookup a = some ob ∧ ob.cls = .type "list" ∧ ob.dict = none ∧ ob.data = .seq zs k ∧ zs.size ≤ sizeLine ∧ Vals xs zs.toList
/-- an exception of the class at C, that nobody changes, stands at a -/
def XoR (H : Hp) (a C : Addr) : Prop := ∃ (o : Obj) (u : HO), H a = some (.frz o u) ∧ o.cls = .ref C ∧ (∃ vs, o.data = .fields vs) ∧ (o.dict = none ∨ ∃ (dx : Addr) (od : Obj) (ud : HO), o.dict = some dx ∧ H dx = some (.frz od ud))
theorem SqR.sq {K : PySem.W.Frag} {H : Hp} {a : Addr} {xs : List V} (h : SqR K H a xs) : SqL K H a xs := by
  rcases h with ⟨o, h⟩ | h
  · exact .inl (.inr ⟨o, h⟩)
  · exact .inr h
section
variable (K : PySem.W.Frag)
mutual
/-- v stands for d -/
inductive RV (ρ : List Addr) (H : Hp) : V → D → Prop where
  | non : RV ρ H .non .non
  | bl (b : Bool) : RV ρ H (.bl b) (.bl b)
  | int (i : Int) : RV ρ H (.int i) (.int i)
  | str (x : Str) : RV ρ H (.str x) (.str x)
  | tup {a : Addr} {xs : List V} {ds : List D} : SqT K H a xs → RVs ρ H xs ds → RV ρ H (.ref a) (.tup ds)
  | rol {a : Addr} {xs : List V} {ds : List D} : SqR K H a xs → RVs ρ H xs ds → RV ρ H (.ref a) (.rol ds)
  | ref {a : Addr} {n : Nat} : ρ[n]? = some a → RV ρ H (.ref a) (.ref n)
  | ty (n : String) : RV ρ H (.ty n) (.ty n)
  | own (C : Addr) : RV ρ H (.ref C) (.own C)
  | xo {a C : Addr} : XoR H a C → RV ρ H (.ref a) (.xo C)
inductive RVs (ρ : List Addr) (H : Hp) : List V → List D → Prop where
  | nil : RVs ρ H [] []
  | cons {x : V} {d : D} {xs : List V} {ds : List D} : RV ρ H x d → RVs ρ H xs ds → RVs ρ H (x :: xs) (d :: ds)
end
def RKs (ρ : List Addr) (H : Hp) : List (Key × V) → List (Key × D) → Prop := Paired fun p q => p.1 = q.1 ∧ RV K ρ H p.2 q.2
def RFs (ρ : List Addr) (H : Hp) : List (Str × V) → List (Str × D) → Prop := Paired fun p q => p.1 = q.1 ∧ RV K ρ H p.2 q.2
/-- what stands at a -/
def RO (cls : List Addr) (ρ : List Addr) (H : Hp) (a : Addr) : O → Prop
  | .lst ds => ∃ xs, H a = some (.lst xs) ∧ RVs K ρ H xs ds
  | .dic kvs => ∃ xs, H a = some (.dK xs) ∧ RKs K ρ H xs kvs
  | .ins c fs => ∃ C dx xs, cls[c]? = some C ∧ H a = some (.ins C dx xs) ∧ RFs K ρ H xs fs
/-- the store h, its numbers standing at ρ -/
structure RH (cls : List Addr) (ts : List Addr) (ρ : List Addr) (H : Hp) (h : AH) : Prop where
  len : ρ.length = h.length
  nd : ρ.Nodup
  obj : ∀ (n : Nat) (a : Addr) (o : O), ρ[n]? = some a → h[n]? = some o → RO K cls ρ H a o
  tab : ∀ P ∈ ts, P ∉ ρ ∧ ∃ ps : Array Value, H P = some (.tbl ps) ∧ TriplesOk ps.toList
  sm : sysModules ∉ ρ ∧ ∃ φ, H sysModules = some (.ext φ)
/-- the slots stand for the names' values -/
def RE (ρ : List Addr) (H : Hp) (σ : L2.St) (ε : AEnv) : Prop := ε.length = σ.length ∧ ∀ (i : Nat) (d : D), ε[i]? = some (some d) → ∃ v, σ[i]? = some (some v) ∧ RV K ρ H v d
end
/-- the world goes on: numbers stay, new ones stand at new places, what no number stands at is as it was -/
structure Ext (ts : List Addr) (ρ ρ' : List Addr) (H H' : Hp) : Prop where
  pre : ρ <+: ρ'
  new : ∀ a ∈ ρ', a ∉ ρ → H a = none
  keep : ∀ a o, H a = some o → a ∉ ρ → a ∉ ts → H' a = some o
  tup : ∀ a xs, H a = some (.tup xs) → H' a = some (.tup xs)
  frz : ∀ a o u, H a = some (.frz o u) → H' a = some (.frz o u)
  there : ∀ a, H' a = none → H a = none
theorem Ext.refl {ts ρ : List Addr} {H : Hp} : Ext ts ρ ρ H H := ⟨List.prefix_refl _, fun _ h n => absurd h n, fun _ _ e _ _ => e, fun _ _ e => e, fun _ _ _ e => e, fun _ e => e⟩
theorem Ext.get {ts ρ ρ' : List Addr} {H H' : Hp} (e : Ext ts ρ ρ' H H') {n : Nat} {a : Addr} (h : ρ[n]? = some a) : ρ'[n]? = some a := by
  obtain ⟨r, rfl⟩ := e.pre
  rw [List.getElem?_append_left (List.getElem?_eq_some_iff.mp h).1]
  exact h
theorem Ext.sub {ts ρ ρ' : List Addr} {H H' : Hp} (e : Ext ts ρ ρ' H H') {a : Addr} (h : a ∈ ρ) : a ∈ ρ' := e.pre.subset h
theorem Ext.trans {ts ρ ρ1 ρ2 : List Addr} {H H1 H2 : Hp} (a : Ext ts ρ ρ1 H H1) (b : Ext ts ρ1 ρ2 H1 H2) : Ext ts ρ ρ2 H H2 where
  pre := a.pre.trans b.pre
  new := fun c h n => by
    by_cases h1 : c ∈ ρ1
    · exact a.new c h1 n
    · exact a.there c (b.new c h h1)
  keep := fun c o e n ht => by
    have z := a.keep c o e n ht
    refine b.keep c o z (fun h1 => ?_) ht
    rw [a.new c h1 n] at e
    cases e
  tup := fun c xs e => b.tup c xs (a.tup c xs e)
  frz := fun c o u e => b.frz c o u (a.frz c o u e)
  there := fun c e => a.there c (b.there c e)
theorem Ext.sqT {K : PySem.W.Frag} {ts ρ ρ' : List Addr} {H H' : Hp} (e : Ext ts ρ ρ' H H') {a : Addr} {xs : List V} (h : SqT K H a xs) : SqT K H' a xs := by
  rcases h with (z | ⟨o, z⟩) | z
  · exact .inl (.inl (e.tup _ _ z))
  · exact .inl (.inr ⟨o, e.frz _ _ _ z⟩)
  · exact .inr z
theorem Ext.xoR {ts ρ ρ' : List Addr} {H H' : Hp} (e : Ext ts ρ ρ' H H') {a C : Addr} (h : XoR H a C) : XoR H' a C := by
  obtain ⟨o, u, h1, h2, h3, h4⟩ := h
  refine ⟨o, u, e.frz _ _ _ h1, h2, h3, ?_⟩
  rcases h4 with h4 | ⟨dx, od, ud, h4, h5⟩
  · exact .inl h4
  · exact .inr ⟨dx, od, ud, h4, e.frz _ _ _ h5⟩
theorem Ext.sqR {K : PySem.W.Frag} {ts ρ ρ' : List Addr} {H H' : Hp} (e : Ext ts ρ ρ' H H') {a : Addr} {xs : List V} (h : SqR K H a xs) : SqR K H' a xs := by
  rcases h with ⟨o, h⟩ | h
  · exact .inl ⟨o, e.frz _ _ _ h⟩
  · exact .inr h
section
variable {K : PySem.W.Frag} {ts ρ ρ' : List Addr} {H H' : Hp}
mutual
theorem RV.mono (e : Ext ts ρ ρ' H H') : ∀ {v : V} {d : D}, RV K ρ H v d → RV K ρ' H' v d
  | _, _, .non => .non
  | _, _, .bl b => .bl b
  | _, _, .int i => .int i
  | _, _, .str x => .str x
  | _, _, .tup h r => .tup (e.sqT h) (RVs.mono e r)
  | _, _, .rol h r => .rol (e.sqR h) (RVs.mono e r)
  | _, _, .ref h => .ref (e.get h)
  | _, _, .ty n => .ty n
  | _, _, .own C => .own C
  | _, _, .xo h => .xo (e.xoR h)
theorem RVs.mono (e : Ext ts ρ ρ' H H') : ∀ {xs : List V} {ds : List D}, RVs K ρ H xs ds → RVs K ρ' H' xs ds
  | _, _, .nil => .nil
  | _, _, .cons h r => .cons (RV.mono e h) (RVs.mono e r)
end
theorem RE.mono {σ : L2.St} {ε : AEnv} (e : Ext ts ρ ρ' H H') (h : RE K ρ H σ ε) : RE K ρ' H' σ ε :=
  ⟨h.1, fun i d q => let ⟨v, q1, r⟩ := h.2 i d q; ⟨v, q1, r.mono e⟩⟩
theorem RVs.length : ∀ {xs : List V} {ds : List D}, RVs K ρ H xs ds → xs.length = ds.length
  | _, _, .nil => rfl
  | _, _, .cons _ r => congrArg Nat.succ (RVs.length r)
theorem RVs.append : ∀ {xs ys : List V} {ds es : List D}, RVs K ρ H xs ds → RVs K ρ H ys es → RVs K ρ H (xs ++ ys) (ds ++ es)
  | _, _, _, _, .nil, s => s
  | _, _, _, _, .cons h r, s => .cons h (RVs.append r s)
theorem RVs.get : ∀ {xs : List V} {ds : List D} {i : Nat} {d : D}, RVs K ρ H xs ds → ds[i]? = some d → ∃ v, xs[i]? = some v ∧ RV K ρ H v d
  | _, _, _, _, .nil, e => absurd e (by simp)
  | _, _, 0, _, .cons h _, e => by simp at e; subst e; exact ⟨_, rfl, h⟩
  | _, _, i + 1, d, .cons _ r, e => by
    obtain ⟨v, h1, h2⟩ := RVs.get (i := i) (d := d) r (by simpa using e)
    exact ⟨v, by simpa using h1, h2⟩
theorem RVs.take : ∀ {xs : List V} {ds : List D} (n : Nat), RVs K ρ H xs ds → RVs K ρ H (xs.take n) (ds.take n)
  | _, _, 0, _ => .nil
  | _, _, _ + 1, .nil => .nil
  | _, _, n + 1, .cons h r => .cons h (RVs.take n r)
theorem RVs.drop : ∀ {xs : List V} {ds : List D} (n : Nat), RVs K ρ H xs ds → RVs K ρ H (xs.drop n) (ds.drop n)
  | _, _, 0, r => r
  | _, _, _ + 1, .nil => .nil
  | _, _, n + 1, .cons _ r => RVs.drop n r
theorem RVs.set {v : V} {d : D} (h : RV K ρ H v d) : ∀ {xs : List V} {ds : List D} (i : Nat), RVs K ρ H xs ds → RVs K ρ H (xs.set i v) (ds.set i d)
  | _, _, _, .nil => .nil
  | _, _, 0, .cons _ r => .cons h r
  | _, _, i + 1, .cons q r => .cons q (RVs.set h i r)
theorem RVs.reverse {xs : List V} {ds : List D} (h : RVs K ρ H xs ds) : RVs K ρ H xs.reverse ds.reverse := by
  induction xs generalizing ds with
  | nil => cases h; exact .nil
  | cons x xs ih =>
    cases h with
    | cons a b =>
      simp only [List.reverse_cons]
      exact (ih b).append (.cons a .nil)
theorem RVs.dropLast {xs : List V} {ds : List D} (h : RVs K ρ H xs ds) : RVs K ρ H xs.dropLast ds.dropLast := by
  rw [List.dropLast_eq_take, List.dropLast_eq_take, h.length]
  exact h.take _
theorem RVs.rep {xs : List V} {ds : List D} (h : RVs K ρ H xs ds) : ∀ k : Nat, RVs K ρ H (List.replicate k xs).flatten (List.replicate k ds).flatten
  | 0 => .nil
  | k + 1 => by
    simp only [List.replicate_succ, List.flatten_cons]
    exact h.append (RVs.rep h k)
theorem RKs.mono {xs : List (Key × V)} {ds : List (Key × D)} (e : Ext ts ρ ρ' H H') (h : RKs K ρ H xs ds) : RKs K ρ' H' xs ds := Paired.mapP h fun _ _ q => ⟨q.1, q.2.mono e⟩
theorem RFs.mono {xs : List (Str × V)} {ds : List (Str × D)} (e : Ext ts ρ ρ' H H') (h : RFs K ρ H xs ds) : RFs K ρ' H' xs ds := Paired.mapP h fun _ _ q => ⟨q.1, q.2.mono e⟩
end
end Mi

namespace Mi
open L2 PySem PySem.Spec PyProof.Rows

section
variable {K : PySem.W.Frag} {cls ts ρ ρ' : List Addr} {H H' : Hp} {h : AH}
theorem RO.mono {a : Addr} (e : Ext ts ρ ρ' H H') (k : ∀ o, H a = some o → H' a = some o) : ∀ {o : O}, RO K cls ρ H a o → RO K cls ρ' H' a o
  | .lst ds, ⟨xs, h1, r⟩ => ⟨xs, k _ h1, r.mono e⟩
  | .dic kvs, ⟨xs, h1, r⟩ => ⟨xs, k _ h1, r.mono e⟩
  | .ins c fs, ⟨C, dx, xs, h0, h1, r⟩ => ⟨C, dx, xs, h0, k _ h1, r.mono e⟩
theorem RO.there {a : Addr} {o : O} (r : RO K cls ρ H a o) : ∃ u, H a = some u ∧ Mut (some u) := by
  cases o with
  | lst ds =>
    obtain ⟨xs, h1, _⟩ := r
    exact ⟨_, h1, trivial⟩
  | dic kvs =>
    obtain ⟨xs, h1, _⟩ := r
    exact ⟨_, h1, trivial⟩
  | ins c fs =>
    obtain ⟨_, _, xs, _, h1, _⟩ := r
    exact ⟨_, h1, trivial⟩
theorem RH.at (r : RH K cls ts ρ H h) {n : Nat} {o : O} (e : h[n]? = some o) : ∃ a, ρ[n]? = some a ∧ RO K cls ρ H a o := by
  have hn := (List.getElem?_eq_some_iff.mp e).1
  have hn' : n < ρ.length := by rw [r.len]; exact hn
  exact ⟨ρ[n], List.getElem?_eq_getElem hn', r.obj n _ o (List.getElem?_eq_getElem hn') e⟩
theorem RH.ref (r : RH K cls ts ρ H h) {n : Nat} {o : O} {a : Addr} (q : ρ[n]? = some a) (e : h[n]? = some o) : RO K cls ρ H a o := r.obj n a o q e

/-- a new thing is laid that no number stands for -/
theorem ext_other {p : Addr} {u : HO} (hp : H p = none) : Ext ts ρ ρ H (upd H p u) :=
  ⟨List.prefix_refl _, fun _ h n => absurd h n, fun a o e _ _ => by rw [upd_ne (ne_of_none e hp)]; exact e, fun a o e => by rw [upd_ne (ne_of_none e hp)]; exact e,
    fun a o w e => by rw [upd_ne (ne_of_none e hp)]; exact e, fun a e => by
      by_cases z : a = p
      · rw [z]; exact hp
      · rw [upd_ne z] at e; exact e⟩
theorem RH.keepAll (r : RH K cls ts ρ H h) (e : Ext ts ρ ρ H H') (k : ∀ a o, H a = some o → H' a = some o) : RH K cls ts ρ H' h :=
  ⟨r.len, r.nd, fun n a o q1 q2 => (r.obj n a o q1 q2).mono e (k a), fun P hP => let ⟨a, ps, b, c⟩ := r.tab P hP; ⟨a, ps, k _ _ b, c⟩, let ⟨a, φ, b⟩ := r.sm; ⟨a, φ, k _ _ b⟩⟩
theorem RH.other (r : RH K cls ts ρ H h) {p : Addr} {u : HO} (hp : H p = none) : RH K cls ts ρ (upd H p u) h :=
  r.keepAll (ext_other hp) fun a o e => by rw [upd_ne (ne_of_none e hp)]; exact e
theorem RH.fresh_not (r : RH K cls ts ρ H h) {p : Addr} (hp : H p = none) : p ∉ ts := fun hm => by
  obtain ⟨_, ps, b, _⟩ := r.tab p hm
  rw [hp] at b
  cases b
/-- what a number stands for is there, and may change -/
theorem RH.mem (r : RH K cls ts ρ H h) {a : Addr} (hm : a ∈ ρ) : ∃ u, H a = some u ∧ Mut (some u) := by
  obtain ⟨n, hn, e⟩ := List.getElem_of_mem hm
  have hn' : n < h.length := by rw [← r.len]; exact hn
  exact (r.obj n a h[n] (by rw [← e]; exact List.getElem?_eq_getElem hn) (List.getElem?_eq_getElem hn')).there
theorem RH.not_in (r : RH K cls ts ρ H h) {p : Addr} (hp : H p = none) : p ∉ ρ := fun hm => by
  obtain ⟨u, e, _⟩ := r.mem hm
  rw [hp] at e
  cases e
/-- a new thing at a new number -/
theorem ext_new {p : Addr} {u : HO} (hp : H p = none) : Ext ts ρ (ρ ++ [p]) H (upd H p u) := by
  have e := ext_other (ts := ts) (ρ := ρ) (u := u) hp
  refine ⟨List.prefix_append _ _, fun a h n => ?_, e.keep, e.tup, e.frz, e.there⟩
  rcases List.mem_append.mp h with z | z
  · exact absurd z n
  · rw [List.mem_singleton.mp z]; exact hp
theorem RH.new (r : RH K cls ts ρ H h) {p : Addr} {u : HO} {o : O} (hp : H p = none) (ho : RO K cls (ρ ++ [p]) (upd H p u) p o) : RH K cls ts (ρ ++ [p]) (upd H p u) (h ++ [o]) := by
  have e := ext_new (ts := ts) (ρ := ρ) (u := u) hp
  refine ⟨by rw [List.length_append, List.length_append, r.len] <;> rfl, ?_, fun n a o' q1 q2 => ?_, fun P hP => ?_, ?_⟩
  · rw [List.nodup_append]
    refine ⟨r.nd, by simp, fun a ha b hb => ?_⟩
    rw [List.mem_singleton.mp hb]
    intro z
    subst z
    exact r.not_in hp ha
  · by_cases hn : n < h.length
    · rw [List.getElem?_append_left hn] at q2
      rw [List.getElem?_append_left (by rw [r.len]; exact hn)] at q1
      exact (r.obj n a o' q1 q2).mono e fun w z => by rw [upd_ne (ne_of_none z hp)]; exact z
    · have hl : n = h.length := by
        have := (List.getElem?_eq_some_iff.mp q2).1
        rw [List.length_append, List.length_singleton] at this
        omega
      subst hl
      rw [List.getElem?_append_right (Nat.le_refl _)] at q2
      rw [← r.len, List.getElem?_append_right (Nat.le_refl _)] at q1
      simp at q1 q2
      subst q1 q2
      exact ho
  · obtain ⟨a, ps, b, c⟩ := r.tab P hP
    refine ⟨fun hm => ?_, ps, ?_, c⟩
    · rcases List.mem_append.mp hm with z | z
      · exact a z
      · rw [List.mem_singleton.mp z, hp] at b; cases b
    · rw [upd_ne (ne_of_none b hp)]; exact b
  · obtain ⟨a, φ, b⟩ := r.sm
    refine ⟨fun hm => ?_, φ, by rw [upd_ne (ne_of_none b hp)]; exact b⟩
    rcases List.mem_append.mp hm with z | z
    · exact a z
    · rw [List.mem_singleton.mp z, hp] at b; cases b
theorem get_new {p : Addr} : (ρ ++ [p])[ρ.length]? = some p := by
  rw [List.getElem?_append_right (Nat.le_refl _)]
  simp
/-- what stands at a number is put otherwise -/
theorem ext_put {a : Addr} {u : HO} (ha : a ∈ ρ) (r : RH K cls ts ρ H h) : Ext ts ρ ρ H (upd H a u) := by
  obtain ⟨w, e, m⟩ := r.mem ha
  have nt : ∀ b v, H b = some v → ¬ Mut (some v) → b ≠ a := fun b v q nm z => by
    subst z
    rw [e] at q
    cases q
    exact nm m
  refine ⟨List.prefix_refl _, fun _ h n => absurd h n, fun b o q n _ => ?_, fun b xs q => ?_, fun b o w q => ?_, fun b q => ?_⟩
  · have nb : b ≠ a := fun z => n (by rw [z]; exact ha)
    rw [upd_ne nb]; exact q
  · rw [upd_ne (nt b _ q fun z => z)]; exact q
  · rw [upd_ne (nt b _ q fun z => z)]; exact q
  · by_cases z : b = a
    · rw [z, upd_same] at q; cases q
    · rw [upd_ne z] at q; exact q
theorem RH.put (r : RH K cls ts ρ H h) {n : Nat} {a : Addr} {u : HO} {o : O} (hn : ρ[n]? = some a) (ho : RO K cls ρ (upd H a u) a o) : RH K cls ts ρ (upd H a u) (h.set n o) := by
  have ha : a ∈ ρ := List.mem_of_getElem? hn
  have e := ext_put (u := u) ha r
  refine ⟨by rw [List.length_set]; exact r.len, r.nd, fun m b o' q1 q2 => ?_, fun P hP => ?_, ?_⟩
  · by_cases z : n = m
    · subst z
      rw [hn] at q1
      cases q1
      have hl := (List.getElem?_eq_some_iff.mp q2).1
      rw [List.length_set] at hl
      rw [List.getElem?_set_self hl] at q2
      cases q2
      exact ho
    · rw [List.getElem?_set_ne z] at q2
      refine (r.obj m b o' q1 q2).mono e fun w q => ?_
      rw [upd_ne ?_]
      · exact q
      · intro z'
        subst z'
        obtain ⟨l1, e1⟩ := List.getElem?_eq_some_iff.mp hn
        obtain ⟨l2, e2⟩ := List.getElem?_eq_some_iff.mp q1
        exact z ((List.getElem_inj r.nd).mp (e1.trans e2.symm))
  · obtain ⟨x, ps, b, c⟩ := r.tab P hP
    have nb : P ≠ a := fun z => x (by rw [z]; exact ha)
    exact ⟨x, ps, by rw [upd_ne nb]; exact b, c⟩
  · obtain ⟨x, φ, b⟩ := r.sm
    exact ⟨x, φ, by rw [upd_ne fun z => x (by rw [z]; exact ha)]; exact b⟩
end

/-! ### what is told of an exception -/
def RX (K : PySem.W.Frag) (cls : List Addr) (ρ : List Addr) (H : Hp) (c : Value) (dd : Option Addr) (x : Exn) : Prop :=
  (match x.cl with
   | .own k => ∃ C, cls[k]? = some C ∧ c = .ref C
   | .ty n => c = .type n) ∧
  ((x.fs = [] ∧ dd = none) ∨ ∃ d fs, dd = some d ∧ H d = some (.xd fs) ∧ RFs K ρ H fs x.fs)

/-! ### readings by a function over the store -/
section
variable {α β γ δ : Type}
def Post (K : PySem.W.Frag) (cls ts : List Addr) (rel : List Addr → Hp → β → α → Prop) (W : Value → Option Addr → Hp → Prop) (ρ : List Addr) (H : Hp) (r : Res α) (Q : β → Hp → Prop) : Prop :=
  match r with
  | .ok d h' => ∀ ρ' H' v, Ext ts ρ ρ' H H' → RH K cls ts ρ' H' h' → rel ρ' H' v d → Q v H'
  | .exc x h' => ∀ ρ' H' c dd, Ext ts ρ ρ' H H' → RH K cls ts ρ' H' h' → RX K cls ρ' H' c dd x → W c dd H'
  | .stuck => False
theorem Post.ext {K : PySem.W.Frag} {cls ts ρ ρ1 : List Addr} {H H1 : Hp} {rel : List Addr → Hp → β → α → Prop} {W : Value → Option Addr → Hp → Prop} {r : Res α} {Q : β → Hp → Prop} (e : Ext ts ρ ρ1 H H1) (p : Post K cls ts rel W ρ H r Q) : Post K cls ts rel W ρ1 H1 r Q := by
  cases r with
  | ok d h' => exact fun ρ' H' v e' => p ρ' H' v (e.trans e')
  | exc x h' => exact fun ρ' H' c dd e' => p ρ' H' c dd (e.trans e')
  | stuck => exact p
def tG (K : PySem.W.Frag) (cls ts : List Addr) (rel : List Addr → Hp → β → α → Prop) (W : WX) (F : AEnv → AH → Res α) : L2.St → Hp → (β → Hp → Prop) → Prop :=
  fun σ H Q => ∃ ρ ε h, RH K cls ts ρ H h ∧ RE K ρ H σ ε ∧ Post K cls ts rel (fun c dd H' => W c dd σ H') ρ H (F ε h) Q
/-- THE STEP: the first part is gone, then what is behind it -/
theorem tG_bind {K : PySem.W.Frag} {cls ts ρ : List Addr} {H : Hp} {rel : List Addr → Hp → β → α → Prop} {rel2 : List Addr → Hp → δ → γ → Prop} {W : WX} {F : AEnv → AH → Res α} {G : α → AH → Res γ} {σ : L2.St} {ε : AEnv} {h : AH} {Q : δ → Hp → Prop} {Q' : β → Hp → Prop}
    (hH : RH K cls ts ρ H h) (hE : RE K ρ H σ ε) (hp : Post K cls ts rel2 (fun c dd H' => W c dd σ H') ρ H ((F ε h).bind G) Q)
    (k : ∀ ρ1 H1 v h1 a, F ε h = .ok a h1 → Ext ts ρ ρ1 H H1 → RH K cls ts ρ1 H1 h1 → rel ρ1 H1 v a → RE K ρ1 H1 σ ε → Post K cls ts rel2 (fun c dd H' => W c dd σ H') ρ1 H1 (G a h1) Q → Q' v H1) : tG K cls ts rel W F σ H Q' := by
  refine ⟨ρ, ε, h, hH, hE, ?_⟩
  cases q : F ε h with
  | ok a h1 =>
    rw [q] at hp
    exact fun ρ1 H1 v e r rv => k ρ1 H1 v h1 a q e r rv (hE.mono e) (hp.ext e)
  | exc x h1 =>
    rw [q] at hp
    exact hp
  | stuck =>
    rw [q] at hp
    exact hp
theorem tG_imp {K : PySem.W.Frag} {cls ts : List Addr} {rel : List Addr → Hp → β → α → Prop} {W : WX} {F : AEnv → AH → Res α} {σ : L2.St} {H : Hp} {Q Q' : β → Hp → Prop} (h : tG K cls ts rel W F σ H Q) (k : ∀ v H', Q v H' → Q' v H') : tG K cls ts rel W F σ H Q' := by
  obtain ⟨ρ, ε, h, hH, hE, hp⟩ := h
  refine ⟨ρ, ε, h, hH, hE, ?_⟩
  cases q : F ε h with
  | ok a h1 =>
    rw [q] at hp
    exact fun ρ1 H1 v e r rv => k _ _ (hp ρ1 H1 v e r rv)
  | exc x h1 =>
    rw [q] at hp
    exact hp
  | stuck =>
    rw [q] at hp
    exact hp
end
abbrev EF := AEnv → AH → Res D
abbrev TF := AEnv → AH → Res Bool
abbrev AF := AEnv → AH → Res (List D)
abbrev relD (K : PySem.W.Frag) : List Addr → Hp → V → D → Prop := fun ρ H v d => RV K ρ H v d
abbrev relB : List Addr → Hp → Bool → Bool → Prop := fun _ _ b a => b = a
abbrev relL (K : PySem.W.Frag) : List Addr → Hp → List V → List D → Prop := fun ρ H v d => RVs K ρ H v d
abbrev tE (K : PySem.W.Frag) (cls ts : List Addr) (W : WX) (F : EF) : TE := tG K cls ts (relD K) W F
abbrev tT (K : PySem.W.Frag) (cls ts : List Addr) (W : WX) (F : TF) : TT := tG K cls ts relB W F
abbrev tA (K : PySem.W.Frag) (cls ts : List Addr) (W : WX) (F : AF) : TA := tG K cls ts (relL K) W F
end Mi

namespace Mi
open L2 PySem PySem.Spec PyProof.Rows

/-! ### ends -/
section
variable {K : PySem.W.Frag} {cls ts ρ : List Addr} {H : Hp} {h h' : AH} {W : Value → Option Addr → Hp → Prop} {Q : VK} {v : V} {d : D} {xs : List V} {ds : List D}
theorem post_val (r : RH K cls ts ρ H h) (rv : RV K ρ H v d) (p : Post K cls ts (relD K) W ρ H (.ok d h) Q) : Q v H := p ρ H v .refl r rv
theorem post_newL (r : RH K cls ts ρ H h) (rv : RVs K ρ H xs ds) (p : Post K cls ts (relD K) W ρ H (.ok (.ref h.length) (h ++ [.lst ds])) Q) : ∀ a, H a = none → Q (.ref a) (upd H a (.lst xs)) := fun a ha => by
  have e := ext_new (ts := ts) (ρ := ρ) (u := .lst xs) ha
  exact p (ρ ++ [a]) _ _ e (r.new ha ⟨xs, upd_same, rv.mono e⟩) (.ref (by rw [← r.len]; exact get_new))
theorem post_newD {kvs : List (Key × D)} {xs : List (Key × V)} (r : RH K cls ts ρ H h) (rv : RKs K ρ H xs kvs) (p : Post K cls ts (relD K) W ρ H (.ok (.ref h.length) (h ++ [.dic kvs])) Q) : ∀ a, H a = none → Q (.ref a) (upd H a (.dK xs)) := fun a ha => by
  have e := ext_new (ts := ts) (ρ := ρ) (u := .dK xs) ha
  exact p (ρ ++ [a]) _ _ e (r.new ha ⟨xs, upd_same, rv.mono e⟩) (.ref (by rw [← r.len]; exact get_new))
theorem post_newT (r : RH K cls ts ρ H h) (rv : RVs K ρ H xs ds) (p : Post K cls ts (relD K) W ρ H (.ok (.tup ds) h) Q) : ∀ a, H a = none → Q (.ref a) (upd H a (.tup xs)) := fun a ha => by
  have e := ext_other (ts := ts) (ρ := ρ) (u := .tup xs) ha
  exact p ρ _ _ e (r.other ha) (.tup (SqT.of upd_same) (rv.mono e))
/-- a list at a number is put otherwise, something is told -/
theorem post_put {n : Nat} {a : Addr} {us : List V} (r : RH K cls ts ρ H h) (hn : ρ[n]? = some a) (rv : RVs K ρ H xs ds) (rd : RV K ρ H v d) (p : Post K cls ts (relD K) W ρ H (.ok d (h.set n (.lst ds))) Q) : Q v (upd H a (.lst xs)) := by
  have e := ext_put (u := .lst xs) (List.mem_of_getElem? hn) r
  exact p ρ _ _ e (r.put hn ⟨xs, upd_same, rv.mono e⟩) (rd.mono e)
/-- a list at a number -/
theorem RH.lst (r : RH K cls ts ρ H h) {n : Nat} {a : Addr} (q : ρ[n]? = some a) (e : h[n]? = some (.lst ds)) : ∃ xs, H a = some (.lst xs) ∧ RVs K ρ H xs ds := r.obj n a _ q e
theorem RH.dic (r : RH K cls ts ρ H h) {n : Nat} {a : Addr} {ds : List (Key × D)} (q : ρ[n]? = some a) (e : h[n]? = some (.dic ds)) : ∃ xs, H a = some (.dK xs) ∧ RKs K ρ H xs ds := r.obj n a _ q e
end

/-! ### operations on two values -/
abbrev Op2 := D → D → AH → Res D
def OpS (K : PySem.W.Frag) (cls ts : List Addr) (r : R2) (f : Op2) : Prop :=
  ∀ (W : Value → Option Addr → Hp → Prop) (ρ : List Addr) (H : Hp) (h : AH) (x y : V) (dx dy : D) (Q : VK), RH K cls ts ρ H h → RV K ρ H x dx → RV K ρ H y dy → Post K cls ts (relD K) W ρ H (f dx dy h) Q → r x y H Q
def cBin (f : Op2) (a b : EF) : EF := fun ε h => (a ε h).bind fun x h1 => (b ε h1).bind fun y h2 => f x y h2

def opAdd : Op2
  | .int i, .int j, h => .ok (.int (i + j)) h
  | .str a, .str b, h => if a.length + b.length ≤ sizeLine then .ok (.str (a ++ b)) h else .stuck
  | .tup xs, .tup ys, h => if xs.length + ys.length ≤ sizeLine then .ok (.tup (xs ++ ys)) h else .stuck
  | .ref a, .ref b, h => match h[a]?, h[b]? with
    | some (.lst xs), some (.lst ys) => if xs.length + ys.length ≤ sizeLine then .ok (.ref h.length) (h ++ [.lst (xs ++ ys)]) else .stuck
    | _, _ => .stuck
  | _, _, _ => .stuck
def rAddM (K : PySem.W.Frag) : R2 := fun x y H Q => rI0 (fun i j => .int (i + j)) x y H Q ∨ (∃ i j, x = .str i ∧ y = .str j ∧ i.length + j.length ≤ sizeLine ∧ Q (.str (i ++ j)) H) ∨ rCatA K x y H Q ∨ rCat x y H Q
theorem op_addM {X : Cx} : OpR X (binaryOp .Add) (rAddM X.K) := op_add.or (op_add_str.or (op_catA.or op_cat))
theorem opAdd_ok {K : PySem.W.Frag} {cls ts : List Addr} : OpS K cls ts (rAddM K) opAdd := by
  intro W ρ H h x y dx dy Q r rx ry p
  cases rx with
  | int i =>
    cases ry <;> first | exact p.elim | skip
    exact .inl ⟨_, _, rfl, rfl, post_val r (.int _) p⟩
  | str a =>
    cases ry <;> first | exact p.elim | skip
    rename_i b
    by_cases c : a.length + b.length ≤ sizeLine
    · simp only [opAdd, if_pos c] at p
      exact .inr (.inl ⟨_, _, rfl, rfl, c, post_val r (.str _) p⟩)
    · simp only [opAdd, if_neg c] at p
      exact p.elim
  | tup h1 r1 =>
    cases ry <;> first | exact p.elim | skip
    rename_i a xs ds b ys es h2 r2
    by_cases c : ds.length + es.length ≤ sizeLine
    · simp only [opAdd, if_pos c] at p
      refine .inr (.inr (.inl ⟨_, _, _, _, rfl, rfl, h1, h2, by rw [r1.length, r2.length]; exact c, fun z => ?_, fun _ z => ?_, fun _ _ => post_newT r (r1.append r2) p⟩))
      · subst z
        cases r1
        exact post_val r (.tup h2 r2) p
      · subst z
        cases r2
        rw [List.append_nil] at p
        exact post_val r (.tup h1 r1) p
    · simp only [opAdd, if_neg c] at p
      exact p.elim
  | ref q1 =>
    cases ry <;> first | exact p.elim | skip
    rename_i a n b m q2
    simp only [opAdd] at p
    split at p <;> first | exact p.elim | skip
    rename_i xs ys e1 e2
    split at p <;> first | exact p.elim | skip
    rename_i c
    obtain ⟨us, k1, r1⟩ := r.lst q1 e1
    obtain ⟨ws, k2, r2⟩ := r.lst q2 e2
    exact .inr (.inr (.inr ⟨_, _, _, _, rfl, rfl, k1, k2, by rw [r1.length, r2.length]; exact c, post_newL r (r1.append r2) p⟩))
  | _ => exact p.elim

/-- ints alone -/
def opII (C : Int → Int → Bool) (g : Int → Int → Int) : Op2
  | .int i, .int j, h => if C i j then .ok (.int (g i j)) h else .stuck
  | _, _, _ => .stuck
theorem opII_ok {K : PySem.W.Frag} {cls ts : List Addr} {C : Int → Int → Prop} {c : Int → Int → Bool} {g : Int → Int → Int} (hc : ∀ i j, c i j = true → C i j) : OpS K cls ts (rI C fun i j => .int (g i j)) (opII c g) := by
  intro W ρ H h x y dx dy Q r rx ry p
  cases rx <;> first | exact p.elim | skip
  cases ry <;> first | exact p.elim | skip
  rename_i i j
  simp only [opII] at p
  split at p <;> first | exact p.elim | skip
  rename_i q
  exact ⟨_, _, rfl, rfl, hc _ _ q, post_val r (.int _) p⟩
def opSub : Op2 := opII (fun _ _ => true) (· - ·)
theorem op_subM {X : Cx} : OpR X (binaryOp .Sub) (rI (fun _ _ => True) fun i j => .int (i - j)) := opI fun _ _ _ _ _ _ _ _ q => sub_int q
theorem opSub_ok {K : PySem.W.Frag} {cls ts : List Addr} : OpS K cls ts (rI (fun _ _ => True) fun i j => .int (i - j)) opSub := opII_ok fun _ _ _ => trivial
def opFdiv : Op2 := opII (fun _ j => j != 0 && decide (j.natAbs < 1073741824)) Int.fdiv
theorem opFdiv_ok {K : PySem.W.Frag} {cls ts : List Addr} : OpS K cls ts (rI CDivN fun i j => .int (i.fdiv j)) opFdiv := opII_ok fun i j h => by
  simp only [Bool.and_eq_true, bne_iff_ne, decide_eq_true_eq] at h
  exact h
def opMod : Op2 := opII (fun _ j => j != 0) Int.fmod
theorem opMod_ok {K : PySem.W.Frag} {cls ts : List Addr} : OpS K cls ts (rI (fun _ j => j ≠ 0) fun i j => .int (i.fmod j)) opMod := opII_ok fun i j h => by
  simp only [bne_iff_ne] at h
  exact h
def opPow : Op2 := opII (fun i j => decide (0 ≤ j) && decide (j ≤ 1000000) && decide (i.natAbs < 2 ^ 64)) fun i j => i ^ j.toNat
theorem opPow_ok {K : PySem.W.Frag} {cls ts : List Addr} : OpS K cls ts (rI CPow fun i j => .int (i ^ j.toNat)) opPow := opII_ok fun i j hq => by
  simp only [Bool.and_eq_true, decide_eq_true_eq] at hq
  exact ⟨hq.1.1, hq.1.2, hq.2⟩
def small64 (i : Int) : Bool := decide (-(2 ^ 64) < i) && decide (i < 2 ^ 64)
/-- how a text is said again and again -/
def strRep (a : Str) (k : Nat) : Str := ⟨(List.replicate k a.cps.toList).flatten.toArray⟩
theorem foldl_cat (a : Array Nat) : ∀ (k : Nat) (b : Array Nat), ((List.replicate k a).foldl (· ++ ·) b).toList = b.toList ++ (List.replicate k a.toList).flatten
  | 0, b => by simp
  | k + 1, b => by
    rw [show List.replicate (k + 1) a = a :: List.replicate k a from rfl, List.foldl_cons, foldl_cat a k (b ++ a)]
    simp [List.replicate_succ]
theorem strRep_eq (a : Str) (k : Nat) : (⟨(List.replicate k a.cps).foldl (· ++ ·) #[]⟩ : Str) = strRep a k := by
  unfold strRep
  congr 1
  apply Array.toList_inj.mp
  rw [foldl_cat]
  simp
theorem strRep_length (a : Str) (k : Nat) : (strRep a k).length = k * a.length := by
  unfold strRep Str.length
  simp [List.length_flatten]
def rRepS : R2 := fun x y H Q => ∃ (a : Str) (k : Int), x = .str a ∧ y = .int k ∧ 2 ≤ k ∧ k ≤ 10000 ∧ 1 ≤ a.length ∧ a.length ≤ 1000 ∧ Q (.str (strRep a k.toNat)) H
theorem op_repS {X : Cx} : OpR X (binaryOp .Mult) rRepS := by
  rintro pins s σ H x y v u Q I rx ry ⟨a, k, rfl, rfl, h1, h2, h3, h4, q⟩
  obtain ⟨t, rfl⟩ := rx
  obtain ⟨t', rfl⟩ := ry
  have n1 : ¬ k < 1 := by omega
  have nk : (k == 1 || a.length == 0) = false := by
    rw [Bool.or_eq_false_iff]
    exact ⟨beq_eq_false_iff_ne.mpr (by omega), beq_eq_false_iff_ne.mpr (by omega)⟩
  have lm : a.length * k.toNat ≤ 10000000 := Nat.le_trans (Nat.mul_le_mul h4 (show k.toNat ≤ 10000 by omega)) (by omega)
  refine PySem.P.mul_str ?_ (fun _ _ z => ?_) (fun _ _ => ?_) ?_
  · rw [Bool.or_eq_false_iff]
    exact ⟨decide_eq_false (by omega), decide_eq_false (by omega)⟩
  · have : (1000 : Int) ≤ (2 ^ 63 - 1) / k := by
      rw [Int.le_ediv_iff_mul_le (by omega)]
      omega
    omega
  · exact decide_eq_false (by rw [sizeLine_eq]; omega)
  · rw [if_neg n1, nk, if_neg Bool.false_ne_true, strRep_eq]
    refine ⟨?_, .str (strRep a k.toNat), H, I.tok _, ⟨_, rfl⟩, q⟩
    rw [strRep_length, Nat.mul_comm, sizeLine_eq]
    omega
def opMul : Op2
  | .int i, .int j, h => if small64 i || small64 j then .ok (.int (i * j)) h else .stuck
  | .str a, .int k, h => if decide (2 ≤ k) && decide (k ≤ 10000) && decide (1 ≤ a.length) && decide (a.length ≤ 1000) then .ok (.str (strRep a k.toNat)) h else .stuck
  | .tup xs, .int k, h => if !xs.isEmpty && decide (2 ≤ k) && decide (k ≤ 1000) && decide (xs.length ≤ 1000) then .ok (.tup (List.replicate k.toNat xs).flatten) h else .stuck
  | .ref a, .int k, h => match h[a]? with
    | some (.lst xs) => if decide (-(2 ^ 63) ≤ k) && decide (k < 2 ^ 63) && decide (xs.length * k.toNat ≤ sizeLine) then .ok (.ref h.length) (h ++ [.lst (List.replicate k.toNat xs).flatten]) else .stuck
    | _ => .stuck
  | _, _, _ => .stuck
def rMulM (K : PySem.W.Frag) : R2 := fun x y H Q => rI CMul (fun i j => .int (i * j)) x y H Q ∨ rRepT K x y H Q ∨ rRep x y H Q ∨ rRepS x y H Q
theorem op_mulM {X : Cx} : OpR X (binaryOp .Mult) (rMulM X.K) := op_mul.or (op_repT.or (op_rep.or op_repS))
theorem opMul_ok {K : PySem.W.Frag} {cls ts : List Addr} : OpS K cls ts (rMulM K) opMul := by
  intro W ρ H h x y dx dy Q r rx ry p
  cases rx with
  | int i =>
    cases ry <;> first | exact p.elim | skip
    rename_i j
    simp only [opMul] at p
    split at p <;> first | exact p.elim | skip
    rename_i c
    refine .inl ⟨_, _, rfl, rfl, ?_, post_val r (.int _) p⟩
    simp only [small64, Bool.or_eq_true, Bool.and_eq_true, decide_eq_true_eq] at c
    exact c
  | str a =>
    cases ry <;> first | exact p.elim | skip
    rename_i k
    simp only [opMul] at p
    split at p <;> first | exact p.elim | skip
    rename_i c
    simp only [Bool.and_eq_true, decide_eq_true_eq] at c
    exact .inr (.inr (.inr ⟨_, _, rfl, rfl, c.1.1.1, c.1.1.2, c.1.2, c.2, post_val r (.str _) p⟩))
  | tup h1 r1 =>
    cases ry <;> first | exact p.elim | skip
    rename_i a xs ds k
    simp only [opMul] at p
    split at p <;> first | exact p.elim | skip
    rename_i c
    simp only [Bool.and_eq_true, decide_eq_true_eq] at c
    refine .inr (.inl ⟨_, _, _, rfl, rfl, h1, ?_, c.1.1.2, c.1.2, by rw [r1.length]; exact c.2, post_newT r (r1.rep _) p⟩)
    intro z
    subst z
    cases r1
    simp at c
  | ref q1 =>
    cases ry <;> first | exact p.elim | skip
    rename_i a n k
    simp only [opMul] at p
    split at p <;> first | exact p.elim | skip
    rename_i xs e1
    split at p <;> first | exact p.elim | skip
    rename_i c
    simp only [Bool.and_eq_true, decide_eq_true_eq] at c
    obtain ⟨us, k1, r1⟩ := r.lst q1 e1
    exact .inr (.inr (.inl ⟨_, _, _, rfl, rfl, k1, c.1.1, c.1.2, by rw [r1.length]; exact c.2, post_newL r (r1.rep _) p⟩))
  | _ => exact p.elim
end Mi

namespace Mi
open L2 PySem PySem.Spec PyProof.Rows

/-! ### the forms of expressions -/
def cC (d : D) : EF := fun _ h => .ok d h
def cVar (i : Nat) : EF := fun ε h => match ε[i]? with
  | some (some d) => .ok d h
  | _ => .stuck
def aNil : AF := fun _ h => .ok [] h
def aCons (a : EF) (r : AF) : AF := fun ε h => (a ε h).bind fun d h1 => (r ε h1).bind fun ds h2 => .ok (d :: ds) h2
def cTup (A : AF) : EF := fun ε h => (A ε h).bind fun ds h1 => if ds.length ≤ sizeLine then .ok (.tup ds) h1 else .stuck
def cLst (A : AF) : EF := fun ε h => (A ε h).bind fun ds h1 => if ds.length ≤ sizeLine then .ok (.ref h1.length) (h1 ++ [.lst ds]) else .stuck
def truD (d : D) (h : AH) : Option Bool :=
  match d with
  | .non => some false
  | .bl b => some b
  | .int i => some (i != 0)
  | .str x => if x.length ≤ sizeLine then some (x.length != 0) else none
  | .tup xs => some (!xs.isEmpty)
  | .rol xs => some (!xs.isEmpty)
  | .ref n => match h[n]? with
    | some (.lst xs) => some (!xs.isEmpty)
    | some (.dic kvs) => some (!kvs.isEmpty)
    | _ => none
  | _ => none
def tTru (F : EF) : TF := fun ε h => (F ε h).bind fun d h1 => match truD d h1 with
  | some b => .ok b h1
  | none => .stuck
def asBl (d : D) (h : AH) : Res Bool :=
  match d with
  | .bl b => .ok b h
  | _ => .stuck
def tVal (F : EF) : TF := fun ε h => (F ε h).bind asBl
def tAnd' (a b : TF) : TF := fun ε h => (a ε h).bind fun c h1 => if c = true then b ε h1 else .ok false h1
def tOr' (a b : TF) : TF := fun ε h => (a ε h).bind fun c h1 => if c = true then .ok true h1 else b ε h1
def tNot' (a : TF) : TF := fun ε h => (a ε h).bind fun c h1 => .ok (!c) h1
def cIf (t : TF) (a b : EF) : EF := fun ε h => (t ε h).bind fun c h1 => if c = true then a ε h1 else b ε h1
/-- and, or as values -/
def cAnd (a b : EF) : EF := fun ε h => (a ε h).bind fun d h1 => match truD d h1 with
  | some true => b ε h1
  | some false => .ok d h1
  | none => .stuck
def cOr (a b : EF) : EF := fun ε h => (a ε h).bind fun d h1 => match truD d h1 with
  | some true => .ok d h1
  | some false => b ε h1
  | none => .stuck
def cNot (a : EF) : EF := fun ε h => (a ε h).bind fun d h1 => match truD d h1 with
  | some b => .ok (.bl (!b)) h1
  | none => .stuck
/-- a op b op' c, b gone once -/
def cChain (f g : Op2) (a b c : EF) : EF := fun ε h => (a ε h).bind fun x h1 => (b ε h1).bind fun y h2 => (f x y h2).bind fun z h3 => match z with
  | .bl true => (c ε h3).bind fun w h4 => g y w h4
  | .bl false => .ok (.bl false) h3
  | _ => .stuck

section
variable {X : Cx} {W : WX} {cls ts : List Addr} {a b c e : Expr} {Fa Fb Fc F : EF} {Ta Tb : TF} {A : AF} {es : List Expr} {pos : Pos}
abbrev E' (X : Cx) (cls ts : List Addr) (W : WX) (e : Expr) (F : EF) : Prop := PE X e (tE X.K cls ts W F)
abbrev T' (X : Cx) (cls ts : List Addr) (W : WX) (e : Expr) (F : TF) : Prop := PT X e (tT X.K cls ts W F)
abbrev A' (X : Cx) (cls ts : List Addr) (W : WX) (es : List Expr) (F : AF) : Prop := PA X es (tA X.K cls ts W F)
theorem e_c {d : D} {v : V} (hv : ∀ K ρ H, RV K ρ H v d) (h : PE X e (L2.tC v)) : E' X cls ts W e (cC d) :=
  ⟨fun pins s σ H Q I ⟨ρ, ε, hh, hH, hE, p⟩ => h.run pins s σ H Q I (post_val hH (hv _ _ _) p)⟩
theorem e_int {i j pos} : E' X cls ts W (.Constant (.int i) j pos) (cC (.int i)) := e_c (fun _ _ _ => .int i) pe_int
theorem e_str {i j pos} : E' X cls ts W (.Constant (.str i) j pos) (cC (.str i)) := e_c (fun _ _ _ => .str i) pe_str
theorem e_bl {i j pos} : E' X cls ts W (.Constant (.bool i) j pos) (cC (.bl i)) := e_c (fun _ _ _ => .bl i) pe_bl
theorem e_non {j pos} : E' X cls ts W (.Constant .none j pos) (cC .non) := e_c (fun _ _ _ => .non) pe_non
theorem e_glob {x : Str} {d : D} {v : V} {u : Value} (hg : Gl X x) (hm : X.mg x = some u) (r : RelV v u) (hv : ∀ K ρ H, RV K ρ H v d) (hd : (x == ("__debug__" : Str)) = false := by decide) : E' X cls ts W (.Name x pos) (cC d) := e_c hv (pe_glob hg hm r hd)
theorem e_var (i : Nat) {x : Str} (hN : X.N[i]? = some x := by rfl) (hv : Vis X.env.scope x := by first | exact Or.inl rfl | exact Or.inr (Or.inl rfl) | exact Or.inr (Or.inr rfl)) (hd : (x == ("__debug__" : Str)) = false := by decide)
    (hcd : (x == ("__classdict__" : Str)) = false := by decide) : E' X cls ts W (.Name x pos) (cVar i) := by
  refine ⟨fun pins s σ H Q I ⟨ρ, ε, hh, hH, hE, p⟩ => (pe_var hN hv hd hcd).run pins s σ H Q I ?_⟩
  unfold cVar at p
  split at p
  · rename_i d q
    obtain ⟨v, e, r⟩ := hE.2 i d q
    exact ⟨v, e, post_val hH r p⟩
  · exact p.elim
theorem e_bin {op : Operator} {r : R2} {f : Op2} (ho : OpR X (binaryOp op) r) (os : OpS X.K cls ts r f) (ha : E' X cls ts W a Fa) (hb : E' X cls ts W b Fb) : E' X cls ts W (.BinOp a op b pos) (cBin f Fa Fb) :=
  ⟨fun pins s σ H Q I ⟨ρ, ε, h, hH, hE, p⟩ => (pe_op ho ha hb).run pins s σ H Q I (tG_bind hH hE p fun ρ1 H1 x h1 dx _ e1 hH1 rx hE1 p1 =>
    tG_bind hH1 hE1 p1 fun ρ2 H2 y h2 dy _ e2 hH2 ry hE2 p2 => os _ _ _ _ _ _ _ _ _ hH2 (rx.mono e2) ry p2)⟩
theorem e_cmp {op : CmpOp} {r : R2} {f : Op2} (ho : OpR X (compareOp op) r) (os : OpS X.K cls ts r f) (ha : E' X cls ts W a Fa) (hb : E' X cls ts W b Fb) (hm : behindInMarks op b = false) : E' X cls ts W (.Compare a [op] [b] pos) (cBin f Fa Fb) :=
  ⟨fun pins s σ H Q I ⟨ρ, ε, h, hH, hE, p⟩ => (pe_cmpR ho ha hb hm).run pins s σ H Q I (tG_bind hH hE p fun ρ1 H1 x h1 dx _ e1 hH1 rx hE1 p1 =>
    tG_bind hH1 hE1 p1 fun ρ2 H2 y h2 dy _ e2 hH2 ry hE2 p2 => os _ _ _ _ _ _ _ _ _ hH2 (rx.mono e2) ry p2)⟩
theorem bl_of {K : PySem.W.Frag} {cls ts ρ : List Addr} {H : Hp} {h : AH} {W : Value → Option Addr → Hp → Prop} {d : D} {v : V} {Q : Bool → Hp → Prop} (r : RH K cls ts ρ H h) (rv : RV K ρ H v d)
    (p : Post K cls ts relB W ρ H (asBl d h) Q) : ∃ k, v = .bl k ∧ Q k H := by
  cases rv <;> first | exact p.elim | skip
  exact ⟨_, rfl, p _ _ _ .refl r rfl⟩
theorem t_cmp {op : CmpOp} {r : R2} {f : Op2} (ho : OpR X (compareOp op) r) (os : OpS X.K cls ts r f) (ha : E' X cls ts W a Fa) (hb : E' X cls ts W b Fb) (hm : behindInMarks op b = false) : T' X cls ts W (.Compare a [op] [b] pos) (tVal (cBin f Fa Fb)) := by
  refine ⟨fun pins s σ H Q I ⟨ρ, ε, h, hH, hE, p⟩ => (pt_cmpR ho ha hb hm).run pins s σ H Q I ?_⟩
  unfold tVal at p
  have q : tE X.K cls ts W (cBin f Fa Fb) σ H (fun x H' => ∃ k, x = .bl k ∧ Q k H') := tG_bind hH hE p fun ρ1 H1 x h1 dx _ e1 hH1 rx hE1 p1 => bl_of hH1 rx p1
  obtain ⟨ρ', ε', h', hH', hE', p'⟩ := q
  exact tG_bind hH' hE' p' fun ρ1 H1 x h1 dx _ e1 hH1 rx hE1 p1 =>
    tG_bind hH1 hE1 p1 fun ρ2 H2 y h2 dy _ e2 hH2 ry hE2 p2 => os _ _ _ _ _ _ _ _ _ hH2 (rx.mono e2) ry p2
theorem t_val (ha : E' X cls ts W e F) (he : ∀ whole, isTrue e X.env whole = (do let v ← whole; standAt e.pos; holding [v] (truthy v)) := by intro _; rfl) : T' X cls ts W e (tVal F) :=
  ⟨fun pins s σ H Q I ⟨ρ, ε, h, hH, hE, p⟩ => (pt_val ha he).run pins s σ H Q I (tG_bind hH hE p fun ρ1 H1 x h1 dx _ e1 hH1 rx hE1 p1 => bl_of hH1 rx p1)⟩
theorem truD_ok {K : PySem.W.Frag} {ρ : List Addr} {H : Hp} {h : AH} {d : D} {v : V} {b : Bool} (r : RH K cls ts ρ H h) (rv : RV K ρ H v d) (q : truD d h = some b) : TruV K v H b := by
  have emp : ∀ {xs : List V} {ds : List D}, RVs K ρ H xs ds → (!ds.isEmpty) = !xs.isEmpty := fun r => by cases r <;> rfl
  cases rv with
  | non => cases q; rfl
  | bl b => cases q; rfl
  | int i => cases q; rfl
  | str x =>
    simp only [truD] at q
    split at q <;> cases q
    rename_i c
    refine ⟨c, ?_⟩
    rw [Bool.eq_iff_iff, bne_iff_ne, bne_iff_ne]
    omega
  | tup h1 r1 =>
    cases q
    exact .inr (.inl ⟨_, h1, emp r1⟩)
  | rol h1 r1 =>
    cases q
    exact .inl ⟨_, h1.sq, emp r1⟩
  | ref q1 =>
    simp only [truD] at q
    split at q <;> cases q
    · rename_i xs e
      obtain ⟨us, k1, r1⟩ := r.lst q1 e
      exact .inl ⟨_, SqL.of k1, emp r1⟩
    · rename_i xs e
      obtain ⟨us, k1, r1⟩ := r.dic q1 e
      refine .inr (.inr ⟨_, k1, ?_⟩)
      cases r1 <;> rfl
  | _ => cases q
theorem t_tru (ha : E' X cls ts W e F) (he : ∀ whole, isTrue e X.env whole = (do let v ← whole; standAt e.pos; holding [v] (truthy v)) := by intro _; rfl) : T' X cls ts W e (tTru F) := by
  refine ⟨fun pins s σ H Q I ⟨ρ, ε, h, hH, hE, p⟩ => (pt_truth ha he).run pins s σ H Q I (tG_bind hH hE p fun ρ1 H1 x h1 dx _ e1 hH1 rx hE1 p1 => ?_)⟩
  split at p1
  · rename_i b q
    exact ⟨b, truD_ok hH1 rx q, p1 _ _ _ .refl hH1 rfl⟩
  · exact p1.elim
theorem t_not (ha : T' X cls ts W a Ta) : T' X cls ts W (.UnaryOp .Not a pos) (tNot' Ta) :=
  ⟨fun pins s σ H Q I ⟨ρ, ε, h, hH, hE, p⟩ => (pt_not ha).run pins s σ H Q I (tG_bind hH hE p fun ρ1 H1 x h1 dx _ e1 hH1 rx hE1 p1 => p1 _ _ _ .refl hH1 (by rw [rx]))⟩
abbrev W' (X : Cx) (cls ts : List Addr) (W : WX) (e : Expr) (F : TF) : Prop := PW X e (tT X.K cls ts W F)
theorem w_and1 (ha : T' X cls ts W a Ta) : W' X cls ts W (.BoolOp .And [a] pos) Ta := pw_and1 ha
theorem w_or1 (ha : T' X cls ts W a Ta) : W' X cls ts W (.BoolOp .Or [a] pos) Ta := pw_or1 ha
theorem w_and {rest : List Expr} (ha : T' X cls ts W a Ta) (hb : W' X cls ts W (.BoolOp .And (b :: rest) pos) Tb) : W' X cls ts W (.BoolOp .And (a :: b :: rest) pos) (tAnd' Ta Tb) := by
  refine ⟨fun wh pins s σ H Q I ⟨ρ, ε, h, hH, hE, p⟩ => (pw_and ha hb).run wh pins s σ H Q I (tG_bind hH hE p fun ρ1 H1 x h1 dx _ e1 hH1 rx hE1 p1 => ?_)⟩
  cases rx
  cases x with
  | true => exact ⟨_, _, _, hH1, hE1, p1⟩
  | false => exact p1 _ _ _ .refl hH1 rfl
theorem w_or {rest : List Expr} (ha : T' X cls ts W a Ta) (hb : W' X cls ts W (.BoolOp .Or (b :: rest) pos) Tb) : W' X cls ts W (.BoolOp .Or (a :: b :: rest) pos) (tOr' Ta Tb) := by
  refine ⟨fun wh pins s σ H Q I ⟨ρ, ε, h, hH, hE, p⟩ => (pw_or ha hb).run wh pins s σ H Q I (tG_bind hH hE p fun ρ1 H1 x h1 dx _ e1 hH1 rx hE1 p1 => ?_)⟩
  cases rx
  cases x with
  | false => exact ⟨_, _, _, hH1, hE1, p1⟩
  | true => exact p1 _ _ _ .refl hH1 rfl
theorem t_pw (h : W' X cls ts W e Ta) : T' X cls ts W e Ta := h.pt
theorem e_ifExp (hc : T' X cls ts W c Ta) (ha : E' X cls ts W a Fa) (hb : E' X cls ts W b Fb) : E' X cls ts W (.IfExp c a b pos) (cIf Ta Fa Fb) := by
  refine ⟨fun pins s σ H Q I ⟨ρ, ε, h, hH, hE, p⟩ => (pe_ifExp hc ha hb).run pins s σ H Q I (tG_bind hH hE p fun ρ1 H1 x h1 dx _ e1 hH1 rx hE1 p1 => ?_)⟩
  cases rx
  cases x with
  | true => exact ⟨_, _, _, hH1, hE1, p1⟩
  | false => exact ⟨_, _, _, hH1, hE1, p1⟩
theorem e_one {op : BoolOp} (ha : E' X cls ts W a Fa) : E' X cls ts W (.BoolOp op [a] pos) Fa := pe_one ha
theorem e_and {rest : List Expr} (ha : E' X cls ts W a Fa) (hb : E' X cls ts W (.BoolOp .And (b :: rest) pos) Fb) : E' X cls ts W (.BoolOp .And (a :: b :: rest) pos) (cAnd Fa Fb) := by
  refine ⟨fun pins s σ H Q I ⟨ρ, ε, h, hH, hE, p⟩ => (pe_andT ha hb).run pins s σ H Q I (tG_bind hH hE p fun ρ1 H1 x h1 dx _ e1 hH1 rx hE1 p1 => ?_)⟩
  split at p1
  · rename_i q
    exact ⟨true, truD_ok hH1 rx q, iteT ⟨_, _, _, hH1, hE1, p1⟩⟩
  · rename_i q
    exact ⟨false, truD_ok hH1 rx q, iteF (post_val hH1 rx p1)⟩
  · exact p1.elim
theorem e_or {rest : List Expr} (ha : E' X cls ts W a Fa) (hb : E' X cls ts W (.BoolOp .Or (b :: rest) pos) Fb) : E' X cls ts W (.BoolOp .Or (a :: b :: rest) pos) (cOr Fa Fb) := by
  refine ⟨fun pins s σ H Q I ⟨ρ, ε, h, hH, hE, p⟩ => (pe_orT ha hb).run pins s σ H Q I (tG_bind hH hE p fun ρ1 H1 x h1 dx _ e1 hH1 rx hE1 p1 => ?_)⟩
  split at p1
  · rename_i q
    exact ⟨true, truD_ok hH1 rx q, iteT (post_val hH1 rx p1)⟩
  · rename_i q
    exact ⟨false, truD_ok hH1 rx q, iteF ⟨_, _, _, hH1, hE1, p1⟩⟩
  · exact p1.elim
theorem e_not (ha : E' X cls ts W a Fa) : E' X cls ts W (.UnaryOp .Not a pos) (cNot Fa) := by
  refine ⟨fun pins s σ H Q I ⟨ρ, ε, h, hH, hE, p⟩ => (pe_notT ha).run pins s σ H Q I (tG_bind hH hE p fun ρ1 H1 x h1 dx _ e1 hH1 rx hE1 p1 => ?_)⟩
  split at p1
  · rename_i b q
    exact ⟨b, truD_ok hH1 rx q, post_val hH1 (.bl _) p1⟩
  · exact p1.elim
theorem chain_ok {r r' : R2} {f g : Op2} (os : OpS X.K cls ts r f) (os' : OpS X.K cls ts r' g) {σ : L2.St} {H : Hp} {Q : VK} (p : tE X.K cls ts W (cChain f g Fa Fb Fc) σ H Q) :
    tChain r r' (tE X.K cls ts W Fa) (tE X.K cls ts W Fb) (tE X.K cls ts W Fc) σ H Q := by
  obtain ⟨ρ, ε, h, hH, hE, p⟩ := p
  refine tG_bind hH hE p fun ρ1 H1 x h1 dx _ e1 hH1 rx hE1 p1 => tG_bind hH1 hE1 p1 fun ρ2 H2 y h2 dy _ e2 hH2 ry hE2 p2 => ?_
  have p2' : Post X.K cls ts (relD X.K) (fun c dd H' => W c dd σ H') ρ2 H2 ((f dx dy h2).bind fun z h3 => match z with
    | .bl true => (Fc ε h3).bind fun w h4 => g dy w h4
    | .bl false => .ok (.bl false) h3
    | _ => .stuck) Q := p2
  refine os (fun c dd H' => W c dd σ H') ρ2 H2 h2 x y dx dy _ hH2 (rx.mono e2) ry ?_
  cases q : f dx dy h2 with
  | stuck => rw [q] at p2'; exact p2'
  | exc x' h' => rw [q] at p2'; exact p2'
  | ok z h3 =>
    rw [q] at p2'
    intro ρ3 H3 v e3 hH3 rz
    have p3 := p2'.ext e3
    simp only [Res.bind_ok] at p3
    cases rz <;> first | exact p3.elim | skip
    rename_i k
    cases k with
    | true =>
      exact ⟨true, rfl, iteT (tG_bind hH3 (hE2.mono e3) p3 fun ρ4 H4 w h4 dw _ e4 hH4 rw' hE4 p4 => os' _ _ _ _ _ _ _ _ _ hH4 (ry.mono (e3.trans e4)) rw' p4)⟩
    | false => exact ⟨false, rfl, iteF (post_val hH3 (.bl _) p3)⟩
theorem e_chain {op op' : CmpOp} {r r' : R2} {f g : Op2} (ho : OpR X (compareOp op) r) (os : OpS X.K cls ts r f) (ho' : OpR X (compareOp op') r') (os' : OpS X.K cls ts r' g) (ha : E' X cls ts W a Fa) (hb : E' X cls ts W b Fb) (hc : E' X cls ts W c Fc)
    (hm : lastMarks [op, op'] [b, c] = false := by with_unfolding_all rfl) : E' X cls ts W (.Compare a [op, op'] [b, c] pos) (cChain f g Fa Fb Fc) :=
  ⟨fun pins s σ H Q I p => (pe_chain ho ho' ha hb hc hm).run pins s σ H Q I (chain_ok os os' p)⟩
theorem t_chain {op op' : CmpOp} {r r' : R2} {f g : Op2} (ho : OpR X (compareOp op) r) (os : OpS X.K cls ts r f) (ho' : OpR X (compareOp op') r') (os' : OpS X.K cls ts r' g) (ha : E' X cls ts W a Fa) (hb : E' X cls ts W b Fb) (hc : E' X cls ts W c Fc)
    (hm : lastMarks [op, op'] [b, c] = false := by with_unfolding_all rfl) : T' X cls ts W (.Compare a [op, op'] [b, c] pos) (tVal (cChain f g Fa Fb Fc)) := by
  refine ⟨fun pins s σ H Q I ⟨ρ, ε, h, hH, hE, p⟩ => (pt_chain ho ho' ha hb hc hm).run pins s σ H Q I (chain_ok os os' ?_)⟩
  exact tG_bind hH hE p fun ρ1 H1 x h1 dx _ e1 hH1 rx hE1 p1 => bl_of hH1 rx p1
theorem a_nil : A' X cls ts W [] aNil := ⟨fun pos pins s σ H Q I ⟨ρ, ε, h, hH, hE, p⟩ => pa_nil.run pos pins s σ H Q I (p _ _ _ .refl hH .nil)⟩
theorem a_cons (ha : E' X cls ts W e Fa) (hr : A' X cls ts W es A) (hs : starEach (e :: es) X.env = (false, eval e X.env) :: starEach es X.env := by rfl) : A' X cls ts W (e :: es) (aCons Fa A) :=
  ⟨fun pos pins s σ H Q I ⟨ρ, ε, h, hH, hE, p⟩ => (pa_cons ha hr hs).run pos pins s σ H Q I (tG_bind hH hE p fun ρ1 H1 x h1 dx _ e1 hH1 rx hE1 p1 =>
    tG_bind hH1 hE1 p1 fun ρ2 H2 y h2 dy _ e2 hH2 ry hE2 p2 => p2 _ _ _ .refl hH2 (.cons (rx.mono e2) ry))⟩
theorem e_tup {x1} (h : A' X cls ts W es A) : E' X cls ts W (.Tuple es x1 pos) (cTup A) := by
  refine ⟨fun pins s σ H Q I ⟨ρ, ε, hh, hH, hE, p⟩ => (pe_tup h).run pins s σ H Q I (tG_bind hH hE p fun ρ1 H1 x h1 dx _ e1 hH1 rx hE1 p1 => ?_)⟩
  split at p1
  · rename_i c
    exact ⟨by rw [rx.length]; exact c, post_newT hH1 rx p1⟩
  · exact p1.elim
theorem e_lst (h : A' X cls ts W es A) : E' X cls ts W (.List es pos) (cLst A) := by
  refine ⟨fun pins s σ H Q I ⟨ρ, ε, hh, hH, hE, p⟩ => (pe_lst h).run pins s σ H Q I (tG_bind hH hE p fun ρ1 H1 x h1 dx _ e1 hH1 rx hE1 p1 => ?_)⟩
  split at p1
  · rename_i c
    exact ⟨by rw [rx.length]; exact c, post_newL hH1 rx p1⟩
  · exact p1.elim
end
end Mi

namespace Mi
open L2 PySem PySem.Spec PyProof.Rows

/-! ### data as a whole -/
def omap {α β : Type} (f : α → Option β) : List α → Option (List β)
  | [] => some []
  | x :: xs => match f x, omap f xs with
    | some y, some ys => some (y :: ys)
    | _, _ => none
def pd : Nat → AH → D → Option PyData
  | _, _, .non => some .none
  | _, _, .bl b => some (.bool b)
  | _, _, .int i => some (.int i)
  | _, _, .str x => some (.str x)
  | 0, _, _ => none
  | n + 1, h, .tup xs => (omap (pd n h) xs).map .tuple
  | n + 1, h, .rol xs => (omap (pd n h) xs).map .list
  | n + 1, h, .ref r => match h[r]? with
    | some (.lst xs) => (omap (pd n h) xs).map .list
    | _ => none
  | _, _, _ => none
section
variable {K : PySem.W.Frag} {cls ts ρ : List Addr} {H : Hp} {h : AH}
theorem dpAll_of {f : D → Option PyData} (ih : ∀ v d p, RV K ρ H v d → f d = some p → Dp K H v p) : ∀ {xs : List V} {ds : List D} {ps : List PyData}, RVs K ρ H xs ds → omap f ds = some ps → DpAll K H xs ps
  | _, _, _, .nil, e => by cases e; exact .nil
  | x :: xs, d :: ds, ps, .cons r rs, e => by
    unfold omap at e
    split at e <;> cases e
    rename_i y ys q1 q2
    exact .cons (ih _ _ _ r q1) (dpAll_of ih rs q2)
theorem dp_of (r : RH K cls ts ρ H h) : ∀ (n : Nat) (v : V) (d : D) (p : PyData), RV K ρ H v d → pd n h d = some p → Dp K H v p := by
  intro n
  induction n with
  | zero =>
    intro v d p rv e
    cases rv <;> simp only [pd] at e <;> cases e
    · exact .non
    · exact .bl _
    · exact .int _
    · exact .str _
  | succ n ih =>
    intro v d p rv e
    cases rv with
    | non => cases e; exact .non
    | bl b => cases e; exact .bl b
    | int i => cases e; exact .int i
    | str x => cases e; exact .str x
    | tup h1 r1 =>
      simp only [pd, Option.map_eq_some_iff] at e
      obtain ⟨ps, q, rfl⟩ := e
      exact .tup h1 (dpAll_of ih r1 q)
    | rol h1 r1 =>
      simp only [pd, Option.map_eq_some_iff] at e
      obtain ⟨ps, q, rfl⟩ := e
      exact .lst h1.sq (dpAll_of ih r1 q)
    | ref q1 =>
      simp only [pd] at e
      split at e <;> first | (cases e; done) | skip
      rename_i xs e1
      obtain ⟨ps, q, rfl⟩ := Option.map_eq_some_iff.mp e
      obtain ⟨us, k1, r1⟩ := r.lst q1 e1
      exact .lst (SqL.of k1) (dpAll_of ih r1 q)
    | _ => cases e
end
/-- flat values -/
def flat : D → Option V
  | .non => some .non
  | .bl b => some (.bl b)
  | .int i => some (.int i)
  | .str x => some (.str x)
  | _ => none
section
variable {K : PySem.W.Frag} {cls ts ρ : List Addr} {H : Hp} {h : AH}
theorem flat_of {v w : V} {d : D} (r : RV K ρ H v d) (e : flat d = some w) : v = w ∧ flatV w = true := by
  cases r <;> cases e <;> exact ⟨rfl, rfl⟩
theorem flats_of : ∀ {xs ws : List V} {ds : List D}, RVs K ρ H xs ds → omap flat ds = some ws → xs = ws ∧ ws.all flatV = true
  | _, _, _, .nil, e => by cases e; exact ⟨rfl, rfl⟩
  | x :: xs, ws, d :: ds, .cons r rs, e => by
    unfold omap at e
    split at e <;> cases e
    rename_i y ys q1 q2
    obtain ⟨rfl, f1⟩ := flat_of r q1
    obtain ⟨rfl, f2⟩ := flats_of rs q2
    exact ⟨rfl, by rw [List.all_cons, f1, f2] <;> rfl⟩
end
/-- scalars compared: as == does it -/
def scalEq : D → D → Option Bool
  | .int i, .int j => some (decide (i = j))
  | .str a, .str b => some (decide (a = b))
  | .bl a, .bl b => some (decide (a = b))
  | .non, .non => some true
  | .int _, .str _ => some false
  | .str _, .int _ => some false
  | .non, .int _ => some false
  | .non, .str _ => some false
  | .non, .bl _ => some false
  | .int _, .non => some false
  | .str _, .non => some false
  | .bl _, .non => some false
  | .bl _, .str _ => some false
  | .str _, .bl _ => some false
  | _, _ => none
def opEq : Op2 := fun x y h => match scalEq x y with
  | some b => .ok (.bl b) h
  | none => match pd 66 h x, pd 66 h y with
    | some p, some q => if SeqAt.shaped p = true ∧ SeqAt.shaped q = true then .ok (.bl (PyData.eqv p q)) h else .stuck
    | _, _ => .stuck
def opNe : Op2 := fun x y h => match scalEq x y with
  | some b => .ok (.bl (!b)) h
  | none => match pd 66 h x, pd 66 h y with
    | some p, some q => if SeqAt.shaped p = true ∧ SeqAt.shaped q = true then .ok (.bl (!PyData.eqv p q)) h else .stuck
    | _, _ => .stuck
def rEqM (K : PySem.W.Frag) : R2 := fun x y H Q => rEq x y H Q ∨ rEqD K x y H Q
def rNeM (K : PySem.W.Frag) : R2 := fun x y H Q => rNe x y H Q ∨ rNeD K x y H Q
theorem op_eqM {X : Cx} (hu : X.A.units + 64 < cLine) : OpR X (compareOp .Eq) (rEqM X.K) := op_eq.or (op_eqD hu)
theorem op_neM {X : Cx} (hu : X.A.units + 64 < cLine) : OpR X (compareOp .NotEq) (rNeM X.K) := op_ne.or (op_neD hu)
section
variable {K : PySem.W.Frag} {cls ts ρ : List Addr} {H : Hp} {h : AH}
theorem scal_of {x y : V} {dx dy : D} {b : Bool} (rx : RV K ρ H x dx) (ry : RV K ρ H y dy) (e : scalEq dx dy = some b) : scal x y = true ∧ b = decide (x = y) := by
  cases rx <;> cases ry <;> simp only [scalEq, Option.some.injEq, reduceCtorEq] at e <;> first | (subst e; refine ⟨rfl, ?_⟩; simp)
theorem opEq_ok : OpS K cls ts (rEqM K) opEq := by
  intro W ρ H h x y dx dy Q r rx ry p
  unfold opEq at p
  split at p
  · rename_i b e
    obtain ⟨s1, rfl⟩ := scal_of rx ry e
    exact .inl ⟨s1, post_val r (.bl _) p⟩
  · split at p <;> first | exact p.elim | skip
    rename_i p1 p2 q1 q2
    split at p <;> first | exact p.elim | skip
    rename_i c
    exact .inr ⟨p1, p2, dp_of r _ _ _ _ rx q1, dp_of r _ _ _ _ ry q2, c.1, c.2, post_val r (.bl _) p⟩
theorem opNe_ok : OpS K cls ts (rNeM K) opNe := by
  intro W ρ H h x y dx dy Q r rx ry p
  unfold opNe at p
  split at p
  · rename_i b e
    obtain ⟨s1, rfl⟩ := scal_of rx ry e
    exact .inl ⟨s1, post_val r (.bl _) p⟩
  · split at p <;> first | exact p.elim | skip
    rename_i p1 p2 q1 q2
    split at p <;> first | exact p.elim | skip
    rename_i c
    exact .inr ⟨p1, p2, dp_of r _ _ _ _ rx q1, dp_of r _ _ _ _ ry q2, c.1, c.2, post_val r (.bl _) p⟩
end
def ltS (a b : Str) : Bool := decide (a.cps.toList < b.cps.toList)
def opLt : Op2
  | .int i, .int j, h => .ok (.bl (decide (i < j))) h
  | .str a, .str b, h => .ok (.bl (ltS a b)) h
  | _, _, _ => .stuck
def opLe : Op2
  | .int i, .int j, h => .ok (.bl (decide (i ≤ j))) h
  | .str a, .str b, h => .ok (.bl (!ltS b a)) h
  | _, _, _ => .stuck
def opGt : Op2
  | .int i, .int j, h => .ok (.bl (decide (j < i))) h
  | .str a, .str b, h => .ok (.bl (ltS b a)) h
  | _, _, _ => .stuck
def opGe : Op2
  | .int i, .int j, h => .ok (.bl (decide (j ≤ i))) h
  | .str a, .str b, h => .ok (.bl (!ltS a b)) h
  | _, _, _ => .stuck
def rOrd (f : Int → Int → Bool) (g : Str → Str → Bool) : R2 := fun x y H Q => rI0 (fun i j => .bl (f i j)) x y H Q ∨ ∃ i j, x = .str i ∧ y = .str j ∧ Q (.bl (g i j)) H
theorem op_ltM {X : Cx} : OpR X (compareOp .Lt) (rOrd (fun i j => decide (i < j)) ltS) := op_lt.or op_lt_str
theorem op_leM {X : Cx} : OpR X (compareOp .LtE) (rOrd (fun i j => decide (i ≤ j)) fun a b => !ltS b a) := op_le.or op_le_str
theorem op_gtM {X : Cx} : OpR X (compareOp .Gt) (rOrd (fun i j => decide (j < i)) fun a b => ltS b a) := op_gt.or op_gt_str
theorem op_geM {X : Cx} : OpR X (compareOp .GtE) (rOrd (fun i j => decide (j ≤ i)) fun a b => !ltS a b) := op_ge.or op_ge_str
section
variable {K : PySem.W.Frag} {cls ts : List Addr}
theorem ord_ok {f : Int → Int → Bool} {g : Str → Str → Bool} {op : Op2} (h1 : ∀ i j h, op (.int i) (.int j) h = .ok (.bl (f i j)) h) (h2 : ∀ i j h, op (.str i) (.str j) h = .ok (.bl (g i j)) h)
    (h3 : ∀ x y h, (∀ i j, ¬ (x = .int i ∧ y = .int j)) → (∀ i j, ¬ (x = .str i ∧ y = .str j)) → op x y h = .stuck) : OpS K cls ts (rOrd f g) op := by
  intro W ρ H h x y dx dy Q r rx ry p
  cases rx with
  | int i =>
    cases ry with
    | int j =>
      rw [h1] at p
      exact .inl ⟨_, _, rfl, rfl, post_val r (.bl _) p⟩
    | _ =>
      rw [h3 _ _ _ (by intro i j ⟨_, z⟩; cases z) (by intro i j ⟨z, _⟩; cases z)] at p
      exact p.elim
  | str i =>
    cases ry with
    | str j =>
      rw [h2] at p
      exact .inr ⟨_, _, rfl, rfl, post_val r (.bl _) p⟩
    | _ =>
      rw [h3 _ _ _ (by intro i j ⟨z, _⟩; cases z) (by intro i j ⟨_, z⟩; cases z)] at p
      exact p.elim
  | _ =>
    rw [h3 _ _ _ (by intro i j ⟨z, _⟩; cases z) (by intro i j ⟨z, _⟩; cases z)] at p
    exact p.elim
theorem opLt_ok : OpS K cls ts (rOrd (fun i j => decide (i < j)) ltS) opLt := ord_ok (fun _ _ _ => rfl) (fun _ _ _ => rfl) fun x y h a b => by
  cases x <;> cases y <;> first | rfl | exact absurd ⟨rfl, rfl⟩ (a _ _) | exact absurd ⟨rfl, rfl⟩ (b _ _)
theorem opLe_ok : OpS K cls ts (rOrd (fun i j => decide (i ≤ j)) fun a b => !ltS b a) opLe := ord_ok (fun _ _ _ => rfl) (fun _ _ _ => rfl) fun x y h a b => by
  cases x <;> cases y <;> first | rfl | exact absurd ⟨rfl, rfl⟩ (a _ _) | exact absurd ⟨rfl, rfl⟩ (b _ _)
theorem opGt_ok : OpS K cls ts (rOrd (fun i j => decide (j < i)) fun a b => ltS b a) opGt := ord_ok (fun _ _ _ => rfl) (fun _ _ _ => rfl) fun x y h a b => by
  cases x <;> cases y <;> first | rfl | exact absurd ⟨rfl, rfl⟩ (a _ _) | exact absurd ⟨rfl, rfl⟩ (b _ _)
theorem opGe_ok : OpS K cls ts (rOrd (fun i j => decide (j ≤ i)) fun a b => !ltS a b) opGe := ord_ok (fun _ _ _ => rfl) (fun _ _ _ => rfl) fun x y h a b => by
  cases x <;> cases y <;> first | rfl | exact absurd ⟨rfl, rfl⟩ (a _ _) | exact absurd ⟨rfl, rfl⟩ (b _ _)
end
/-- is, is not: with None; of truths; of two things of the store -/
def isD : D → D → AH → Option Bool
  | .non, .non, _ => some true
  | .bl _, .non, _ => some false
  | .int _, .non, _ => some false
  | .str _, .non, _ => some false
  | .tup _, .non, _ => some false
  | .rol _, .non, _ => some false
  | .ref _, .non, _ => some false
  | .bl a, .bl b, _ => some (decide (a = b))
  | .ref a, .ref b, h => match h[a]?, h[b]? with
    | some (.lst _), some (.lst _) => some (decide (a = b))
    | some (.lst _), some (.ins _ _) => some (decide (a = b))
    | some (.ins _ _), some (.lst _) => some (decide (a = b))
    | some (.ins _ _), some (.ins _ _) => some (decide (a = b))
    | _, _ => none
  | _, _, _ => none
def opIs : Op2 := fun x y h => match isD x y h with
  | some b => .ok (.bl b) h
  | none => .stuck
def opIsNot : Op2 := fun x y h => match isD x y h with
  | some b => .ok (.bl (!b)) h
  | none => .stuck
def rIsA (n : Bool) : R2 := fun x y H Q => (y = .non ∧ Q (.bl (if n then !decide (x = .non) else decide (x = .non))) H) ∨ (∃ a b : Bool, x = .bl a ∧ y = .bl b ∧ Q (.bl (if n then !decide (a = b) else decide (a = b))) H) ∨
  ∃ a b oa ob, x = .ref a ∧ y = .ref b ∧ H a = some oa ∧ isObj oa = true ∧ H b = some ob ∧ isObj ob = true ∧ Q (.bl (if n then !decide (a = b) else decide (a = b))) H
theorem op_isM {X : Cx} : OpR X (compareOp .Is) (rIsA false) := op_isN.or (op_isBl.or op_is_ref)
theorem op_isNotM {X : Cx} : OpR X (compareOp .IsNot) (rIsA true) := op_notN.or (op_notBl.or op_isnot_ref)
section
variable {K : PySem.W.Frag} {cls ts ρ : List Addr} {H : Hp} {h : AH}
theorem isObj_of {a : Addr} {o : O} (r : RO K cls ρ H a o) (ho : (∃ ds, o = .lst ds) ∨ ∃ c fs, o = .ins c fs) : ∃ u, H a = some u ∧ isObj u = true := by
  rcases ho with ⟨ds, rfl⟩ | ⟨c, fs, rfl⟩
  · obtain ⟨xs, k, _⟩ := r
    exact ⟨_, k, rfl⟩
  · obtain ⟨_, _, _, _, k, _⟩ := r
    exact ⟨_, k, rfl⟩
theorem isD_ok {n : Bool} {x y : V} {dx dy : D} {b : Bool} {Q : VK} (r : RH K cls ts ρ H h) (rx : RV K ρ H x dx) (ry : RV K ρ H y dy) (e : isD dx dy h = some b) (q : Q (.bl (if n then !b else b)) H) : rIsA n x y H Q := by
  cases ry with
  | non =>
    refine .inl ⟨rfl, ?_⟩
    have : b = decide (x = .non) := by
      cases rx <;> cases e <;> simp
    rw [this] at q
    exact q
  | bl b2 =>
    cases rx <;> cases e
    exact .inr (.inl ⟨_, _, rfl, rfl, q⟩)
  | ref q2 =>
    cases rx with
    | ref q1 =>
      rename_i a2 n2 a1 n1
      have key : ∀ {o1 o2 : O}, h[n1]? = some o1 → h[n2]? = some o2 → ((∃ ds, o1 = .lst ds) ∨ ∃ c fs, o1 = .ins c fs) → ((∃ ds, o2 = .lst ds) ∨ ∃ c fs, o2 = .ins c fs) → b = decide (n1 = n2) → rIsA n (.ref a1) (.ref a2) H Q := fun {o1 o2} e1 e2 k1 k2 eb => by
        obtain ⟨u1, w1, i1⟩ := isObj_of (r.ref q1 e1) k1
        obtain ⟨u2, w2, i2⟩ := isObj_of (r.ref q2 e2) k2
        refine .inr (.inr ⟨a1, a2, u1, u2, rfl, rfl, w1, i1, w2, i2, ?_⟩)
        have : b = decide (a1 = a2) := by
          rw [eb, Bool.eq_iff_iff, decide_eq_true_iff, decide_eq_true_iff]
          constructor
          · intro z
            subst z
            rw [q1] at q2
            exact Option.some.inj q2
          · intro z
            subst z
            obtain ⟨l1, z1⟩ := List.getElem?_eq_some_iff.mp q1
            obtain ⟨l2, z2⟩ := List.getElem?_eq_some_iff.mp q2
            exact (List.getElem_inj r.nd).mp (z1.trans z2.symm)
        rw [← this]
        exact q
      simp only [isD] at e
      split at e <;> cases e
      · rename_i e1 e2; exact key e1 e2 (.inl ⟨_, rfl⟩) (.inl ⟨_, rfl⟩) rfl
      · rename_i e1 e2; exact key e1 e2 (.inl ⟨_, rfl⟩) (.inr ⟨_, _, rfl⟩) rfl
      · rename_i e1 e2; exact key e1 e2 (.inr ⟨_, _, rfl⟩) (.inl ⟨_, rfl⟩) rfl
      · rename_i e1 e2; exact key e1 e2 (.inr ⟨_, _, rfl⟩) (.inr ⟨_, _, rfl⟩) rfl
    | _ => cases e
  | _ => cases rx <;> cases e
theorem opIs_ok : OpS K cls ts (rIsA false) opIs := by
  intro W ρ H h x y dx dy Q r rx ry p
  unfold opIs at p
  split at p <;> first | exact p.elim | skip
  rename_i b e
  exact isD_ok r rx ry e (post_val r (.bl _) p)
theorem opIsNot_ok : OpS K cls ts (rIsA true) opIsNot := by
  intro W ρ H h x y dx dy Q r rx ry p
  unfold opIsNot at p
  split at p <;> first | exact p.elim | skip
  rename_i b e
  exact isD_ok r rx ry e (post_val r (.bl _) p)
end
/-- what a list, a tuple holds -/
def seqD : D → AH → Option (List D)
  | .tup xs, _ => some xs
  | .rol xs, _ => some xs
  | .ref n, h => match h[n]? with
    | some (.lst xs) => some xs
    | _ => none
  | _, _ => none
theorem seq_of {K : PySem.W.Frag} {cls ts ρ : List Addr} {H : Hp} {h : AH} {v : V} {d : D} {ds : List D} (r : RH K cls ts ρ H h) (rv : RV K ρ H v d) (e : seqD d h = some ds) : ∃ a xs, v = .ref a ∧ (SqL K H a xs ∨ SqT K H a xs) ∧ RVs K ρ H xs ds := by
  cases rv with
  | tup h1 r1 => cases e; exact ⟨_, _, rfl, .inr h1, r1⟩
  | rol h1 r1 => cases e; exact ⟨_, _, rfl, .inl h1.sq, r1⟩
  | ref q1 =>
    simp only [seqD] at e
    split at e <;> cases e
    rename_i e1
    obtain ⟨us, k1, r1⟩ := r.lst q1 e1
    exact ⟨_, _, rfl, .inl (SqL.of k1), r1⟩
  | _ => cases e
/-- in, not in: flat things in a row of flat ones; data in a list; a text in a text -/
def inD (x y : D) (h : AH) : Option Bool :=
  match y with
  | .str z => match x with
    | .str i => some (!(Builtin.Str.occurrences z i 0 z.length 1).isEmpty)
    | _ => none
  | _ => match seqD y h with
    | none => none
    | some ds => match flat x, omap flat ds with
      | some v, some vs => some (inV v vs)
      | _, _ => match pd 66 h x, pd 66 h y with
        | some p, some (.list ps) => if SeqAt.shaped p = true ∧ SeqAt.shaped (.list ps) = true then some (ps.any fun z => PyData.eqv z p) else none
        | _, _ => none
def opIn : Op2 := fun x y h => match inD x y h with
  | some b => .ok (.bl b) h
  | none => .stuck
def opNotIn : Op2 := fun x y h => match inD x y h with
  | some b => .ok (.bl (!b)) h
  | none => .stuck
def rInM (K : PySem.W.Frag) : R2 := fun x y H Q => rIn K false x y H Q ∨ (∃ i j, x = .str i ∧ y = .str j ∧ Q (.bl (!(Builtin.Str.occurrences j i 0 j.length 1).isEmpty)) H) ∨ rInD K x y H Q
def rNotInM (K : PySem.W.Frag) : R2 := fun x y H Q => rIn K true x y H Q ∨ (∃ i j, x = .str i ∧ y = .str j ∧ Q (.bl (!(!(Builtin.Str.occurrences j i 0 j.length 1).isEmpty))) H) ∨ rNotInD K x y H Q
theorem op_inM {X : Cx} (hu : X.A.units + 65 < cLine) : OpR X (compareOp .In) (rInM X.K) := op_in_seq.or (op_in_str.or (op_inD hu))
theorem op_notInM {X : Cx} (hu : X.A.units + 65 < cLine) : OpR X (compareOp .NotIn) (rNotInM X.K) := op_notIn_seq.or (op_notin_str.or (op_notInD hu))
section
variable {K : PySem.W.Frag} {cls ts ρ : List Addr} {H : Hp} {h : AH}
theorem inD_ok {x y : V} {dx dy : D} {b : Bool} {Q : VK} (r : RH K cls ts ρ H h) (rx : RV K ρ H x dx) (ry : RV K ρ H y dy) (e : inD dx dy h = some b) : (Q (.bl b) H → rInM K x y H Q) ∧ (Q (.bl (!b)) H → rNotInM K x y H Q) := by
  unfold inD at e
  split at e
  · split at e <;> cases e
    cases rx
    cases ry
    exact ⟨fun q => .inr (.inl ⟨_, _, rfl, rfl, q⟩), fun q => .inr (.inl ⟨_, _, rfl, rfl, q⟩)⟩
  · split at e <;> first | (cases e; done) | skip
    rename_i ds es
    obtain ⟨a, xs, rfl, hs, rs⟩ := seq_of r ry es
    split at e
    · rename_i w ws q1 q2
      cases e
      obtain ⟨rfl, f1⟩ := flat_of rx q1
      obtain ⟨rfl, f2⟩ := flats_of rs q2
      exact ⟨fun q => .inl ⟨_, _, rfl, hs, f1, f2, q⟩, fun q => .inl ⟨_, _, rfl, hs, f1, f2, q⟩⟩
    · split at e <;> first | (cases e; done) | skip
      rename_i p ps q1 q2
      split at e <;> cases e
      rename_i c
      exact ⟨fun q => .inr (.inr ⟨_, _, dp_of r _ _ _ _ rx q1, dp_of r _ _ _ _ ry q2, c.1, c.2, q⟩), fun q => .inr (.inr ⟨_, _, dp_of r _ _ _ _ rx q1, dp_of r _ _ _ _ ry q2, c.1, c.2, q⟩)⟩
theorem opIn_ok : OpS K cls ts (rInM K) opIn := by
  intro W ρ H h x y dx dy Q r rx ry p
  unfold opIn at p
  split at p <;> first | exact p.elim | skip
  rename_i b e
  exact (inD_ok r rx ry e).1 (post_val r (.bl _) p)
theorem opNotIn_ok : OpS K cls ts (rNotInM K) opNotIn := by
  intro W ρ H h x y dx dy Q r rx ry p
  unfold opNotIn at p
  split at p <;> first | exact p.elim | skip
  rename_i b e
  exact (inD_ok r rx ry e).2 (post_val r (.bl _) p)
end
end Mi

namespace Mi
open L2 PySem PySem.Spec PyProof.Rows

/-! ### items and cuts -/
def opIx : Op2
  | .str z, .int i, h => if z.length ≤ sizeLine then match atI z.cps.toList i with
      | some c => .ok (.str ⟨#[c]⟩) h
      | none => .stuck
    else .stuck
  | c, .int i, h => match seqD c h with
    | some ds => match atI ds i with
      | some d => .ok d h
      | none => .stuck
    | none => .stuck
  | _, _, _ => .stuck
theorem RVs.at {K : PySem.W.Frag} {ρ : List Addr} {H : Hp} {xs : List V} {ds : List D} {i : Int} {d : D} (r : RVs K ρ H xs ds) (e : atI ds i = some d) : ∃ v, atI xs i = some v ∧ RV K ρ H v d := by
  unfold atI at e ⊢
  rw [r.length]
  obtain ⟨j, hj, e⟩ := Option.bind_eq_some_iff.mp e
  rw [hj]
  exact r.get e
theorem opIx_ok {K : PySem.W.Frag} {cls ts : List Addr} : OpS K cls ts (rIx K) opIx := by
  intro W ρ H h x y dx dy Q r rx ry p
  cases ry with
  | int i =>
    have seq : ∀ {c : D}, RV K ρ H x c → Post K cls ts (relD K) W ρ H (match seqD c h with
        | some ds => match atI ds i with
          | some d => .ok d h
          | none => .stuck
        | none => .stuck) Q → rIx K x (.int i) H Q := fun {c} rc p => by
      split at p <;> first | exact p.elim | skip
      rename_i ds e
      split at p <;> first | exact p.elim | skip
      rename_i d e2
      obtain ⟨a, xs, rfl, hs, rs⟩ := seq_of r rc e
      obtain ⟨v, hv, rv⟩ := rs.at e2
      rcases hs with hs | hs
      · exact .inl ⟨_, _, _, _, rfl, rfl, hs, hv, post_val r rv p⟩
      · exact .inr (.inl ⟨_, _, _, _, rfl, rfl, hs, hv, post_val r rv p⟩)
    cases rx with
    | str z =>
      simp only [opIx] at p
      split at p <;> first | exact p.elim | skip
      rename_i c
      split at p <;> first | exact p.elim | skip
      rename_i k e
      exact .inr (.inr ⟨_, _, _, rfl, rfl, c, e, post_val r (.str _) p⟩)
    | tup h1 r1 => exact seq (.tup h1 r1) p
    | rol h1 r1 => exact seq (.rol h1 r1) p
    | ref q1 => exact seq (.ref q1) p
    | _ => exact p.elim
  | _ => cases rx <;> exact p.elim
abbrev OF := AEnv → AH → Res (Option Int)
def oNone : OF := fun _ h => .ok none h
def oSome (F : EF) : OF := fun ε h => (F ε h).bind fun d h1 => match d with
  | .int i => .ok (some i) h1
  | _ => .stuck
def cutL {α : Type} (xs : List α) (lo hi : Option Int) : List α := (xs.drop (HT.sIx xs.length 0 lo)).take (HT.sIx xs.length xs.length hi - HT.sIx xs.length 0 lo)
def cutD (c : D) (lo hi : Option Int) (h : AH) : Res D :=
  match c with
  | .str z => if z.length ≤ sizeLine then .ok (.str (cutS z lo hi)) h else .stuck
  | .tup xs => .ok (.tup (cutL xs lo hi)) h
  | .rol xs => .ok (.ref h.length) (h ++ [.lst (cutL xs lo hi)])
  | .ref n => match h[n]? with
    | some (.lst xs) => .ok (.ref h.length) (h ++ [.lst (cutL xs lo hi)])
    | _ => .stuck
  | _ => .stuck
def cCut (F : EF) (lo hi : OF) : EF := fun ε h => (F ε h).bind fun c h1 => (lo ε h1).bind fun l h2 => (hi ε h2).bind fun u h3 => cutD c l u h3
def revD (c : D) (h : AH) : Res D :=
  match c with
  | .rol xs => .ok (.ref h.length) (h ++ [.lst xs.reverse])
  | .ref n => match h[n]? with
    | some (.lst xs) => .ok (.ref h.length) (h ++ [.lst xs.reverse])
    | _ => .stuck
  | _ => .stuck
def cRev (F : EF) : EF := fun ε h => (F ε h).bind revD
def rSlM (K : PySem.W.Frag) : V → Option Int → Option Int → Hp → VK → Prop := fun x lo hi H Q => rSlS x lo hi H Q ∨ rSlA K x lo hi H Q ∨ rSlL K x lo hi H Q
theorem cut_rel {K : PySem.W.Frag} {ρ : List Addr} {H : Hp} {xs : List V} {ds : List D} (r : RVs K ρ H xs ds) (lo hi : Option Int) : RVs K ρ H (cutV xs lo hi) (cutL ds lo hi) := by
  unfold cutV cutL
  rw [r.length]
  exact (r.drop _).take _
section
variable {X : Cx} {W : WX} {cls ts : List Addr} {a b c e : Expr} {Fa Fb Fc F : EF} {A : AF} {es : List Expr} {pos : Pos} {lo hi : OF}
theorem e_ix (ha : E' X cls ts W a Fa) (hb : E' X cls ts W b Fb) (hs : PlainIx b := by exact fun _ _ => rfl) : E' X cls ts W (.Subscript a b pos) (cBin opIx Fa Fb) :=
  ⟨fun pins s σ H Q I ⟨ρ, ε, h, hH, hE, p⟩ => (pe_ix ix_seq ha hb hs).run pins s σ H Q I (tG_bind hH hE p fun ρ1 H1 x h1 dx _ e1 hH1 rx hE1 p1 =>
    tG_bind hH1 hE1 p1 fun ρ2 H2 y h2 dy _ e2 hH2 ry hE2 p2 => opIx_ok _ _ _ _ _ _ _ _ _ hH2 (rx.mono e2) ry p2)⟩
abbrev relO : List Addr → Hp → Option Int → Option Int → Prop := fun _ _ b a => b = a
abbrev O' (X : Cx) (cls ts : List Addr) (W : WX) (e : Option Expr) (F : OF) : Prop := PO X e (tG X.K cls ts relO W F)
theorem o_none : O' X cls ts W none oNone := ⟨fun pins s σ H Q I ⟨ρ, ε, h, hH, hE, p⟩ => po_none.run pins s σ H Q I (p _ _ _ .refl hH rfl)⟩
theorem o_some (h : E' X cls ts W e F) : O' X cls ts W (some e) (oSome F) := by
  refine ⟨fun pins s σ H Q I ⟨ρ, ε, hh, hH, hE, p⟩ => (po_some h).run pins s σ H Q I (tG_bind hH hE p fun ρ1 H1 x h1 dx _ e1 hH1 rx hE1 p1 => ?_)⟩
  cases rx <;> first | exact p1.elim | skip
  exact ⟨_, rfl, p1 _ _ _ .refl hH1 rfl⟩
theorem cut_ok {K : PySem.W.Frag} {W : Value → Option Addr → Hp → Prop} {ρ : List Addr} {H : Hp} {h : AH} {x : V} {d : D} {l u : Option Int} {Q : VK} (r : RH K cls ts ρ H h) (rx : RV K ρ H x d) (p : Post K cls ts (relD K) W ρ H (cutD d l u h) Q) : rSlM K x l u H Q := by
  cases rx with
  | str z =>
    simp only [cutD] at p
    split at p <;> first | exact p.elim | skip
    rename_i c
    exact .inl ⟨_, rfl, c, post_val r (.str _) p⟩
  | tup h1 r1 =>
    refine .inr (.inl ⟨_, _, rfl, h1, fun z => ?_, fun _ => post_newT r (cut_rel r1 l u) p⟩)
    have e : cutL (‹List D› : List D) l u = ‹List D› := by
      unfold cutL
      rw [← r1.length, z.1, z.2, List.drop_zero, Nat.sub_zero, r1.length]
      exact List.take_length
    simp only [cutD] at p
    rw [e] at p
    exact post_val r (.tup h1 r1) p
  | rol h1 r1 => exact .inr (.inr ⟨_, _, rfl, h1.sq, post_newL r (cut_rel r1 l u) p⟩)
  | ref q1 =>
    simp only [cutD] at p
    split at p <;> first | exact p.elim | skip
    rename_i xs e1
    obtain ⟨us, k1, r1⟩ := r.lst q1 e1
    exact .inr (.inr ⟨_, _, rfl, SqL.of k1, post_newL r (cut_rel r1 l u) p⟩)
  | _ => exact p.elim
theorem e_cut {lo' hi' : Option Expr} {p2 : Pos} (he : E' X cls ts W e F) (hl : O' X cls ts W lo' lo) (hu : O' X cls ts W hi' hi) : E' X cls ts W (.Subscript e (.Slice lo' hi' none p2) pos) (cCut F lo hi) :=
  ⟨fun pins s σ H Q I ⟨ρ, ε, h, hH, hE, p⟩ => (pe_slice (sl_str.or (sl_tupA.or sl_list)) he hl hu).run pins s σ H Q I (tG_bind hH hE p fun ρ1 H1 x h1 dx _ e1 hH1 rx hE1 p1 =>
    tG_bind hH1 hE1 p1 fun ρ2 H2 y h2 dy _ e2 hH2 ry hE2 p2 => tG_bind hH2 hE2 p2 fun ρ3 H3 z h3 dz _ e3 hH3 rz hE3 p3 => by
      cases ry
      cases rz
      exact cut_ok hH3 (rx.mono (e2.trans e3)) p3)⟩
theorem e_rev {k : Nat} {p1 p2 p3 : Pos} (he : E' X cls ts W e F) : E' X cls ts W (.Subscript e (.Slice none none (some (.UnaryOp .USub (.Constant (.int 1) k p1) p2)) p3) pos) (cRev F) := by
  refine ⟨fun pins s σ H Q I ⟨ρ, ε, h, hH, hE, p⟩ => (pe_revL he).run pins s σ H Q I (tG_bind hH hE p fun ρ1 H1 x h1 dx _ e1 hH1 rx hE1 p1 => ?_)⟩
  cases rx with
  | rol h1 r1 => exact ⟨_, _, rfl, h1.sq, post_newL hH1 r1.reverse p1⟩
  | ref q1 =>
    simp only [revD] at p1
    split at p1 <;> first | exact p1.elim | skip
    rename_i xs e1
    obtain ⟨us, k1, r1⟩ := hH1.lst q1 e1
    exact ⟨_, _, rfl, SqL.of k1, post_newL hH1 r1.reverse p1⟩
  | _ => exact p1.elim
end

/-! ### built-ins called by their names -/
abbrev OpN := List D → AH → Res D
def CallS (K : PySem.W.Frag) (cls ts : List Addr) (r : List V → Hp → VK → Prop) (f : OpN) : Prop :=
  ∀ (W : Value → Option Addr → Hp → Prop) (ρ : List Addr) (H : Hp) (h : AH) (xs : List V) (ds : List D) (Q : VK), RH K cls ts ρ H h → RVs K ρ H xs ds → Post K cls ts (relD K) W ρ H (f ds h) Q → r xs H Q
def cCall (f : OpN) (A : AF) : EF := fun ε h => (A ε h).bind f
section
variable {X : Cx} {W : WX} {cls ts : List Addr} {e : Expr} {A : AF} {es : List Expr} {p pos : Pos} {x : Str} {id T : String} {r : List V → Hp → VK → Prop} {f : OpN}
theorem e_callB (hc : CallR X (.builtin id) r) (os : CallS X.K cls ts r f) (hg : Gl X x) (hm : X.mg x = none) (hv : bootBuiltins x = some (.builtin id)) (ha : A' X cls ts W (e :: es) A) (hn : x ≠ "__name__" := by decide) (hdb : (x == ("__debug__" : Str)) = false := by decide)
    (he : starEach (e :: es) X.env = (false, eval e X.env) :: starEach es X.env := by rfl) (hpl : (backTo pos (starEach es X.env)).any (·.1) = false := by rfl) : E' X cls ts W (.Call (.Name x p) (e :: es) [] pos) (cCall f A) :=
  ⟨fun pins s σ H Q I ⟨ρ, ε, h, hH, hE, q⟩ => (pe_callB hc hg hm hv ha hn hdb he hpl).run pins s σ H Q I (tG_bind hH hE q fun ρ1 H1 x h1 dx _ e1 hH1 rx hE1 p1 => os _ _ _ _ _ _ _ hH1 rx p1)⟩
theorem e_callTy (hc : CallR X (.type T) r) (os : CallS X.K cls ts r f) (hg : Gl X x) (hm : X.mg x = none) (hv : bootBuiltins x = some (.type T)) (ha : A' X cls ts W (e :: es) A) (hn : x ≠ "__name__" := by decide) (hdb : (x == ("__debug__" : Str)) = false := by decide)
    (he : starEach (e :: es) X.env = (false, eval e X.env) :: starEach es X.env := by rfl) (hpl : (backTo pos (starEach es X.env)).any (·.1) = false := by rfl) : E' X cls ts W (.Call (.Name x p) (e :: es) [] pos) (cCall f A) :=
  ⟨fun pins s σ H Q I ⟨ρ, ε, h, hH, hE, q⟩ => (pe_callTy hc hg hm hv ha hn hdb he hpl).run pins s σ H Q I (tG_bind hH hE q fun ρ1 H1 x h1 dx _ e1 hH1 rx hE1 p1 => os _ _ _ _ _ _ _ hH1 rx p1)⟩
end
theorem RVs.one {K : PySem.W.Frag} {ρ : List Addr} {H : Hp} {xs : List V} {d : D} (r : RVs K ρ H xs [d]) : ∃ v, xs = [v] ∧ RV K ρ H v d := by
  cases r with
  | cons a b => cases b; exact ⟨_, rfl, a⟩
theorem RVs.two {K : PySem.W.Frag} {ρ : List Addr} {H : Hp} {xs : List V} {d e : D} (r : RVs K ρ H xs [d, e]) : ∃ v w, xs = [v, w] ∧ RV K ρ H v d ∧ RV K ρ H w e := by
  cases r with
  | cons a b => obtain ⟨w, rfl, c⟩ := RVs.one b; exact ⟨_, w, rfl, a, c⟩
/-- len -/
def fLen : OpN
  | [.str x], h => if x.length ≤ sizeLine then .ok (.int x.length) h else .stuck
  | [.ref n], h => match h[n]? with
    | some (.lst xs) => .ok (.int xs.length) h
    | some (.dic kvs) => .ok (.int kvs.length) h
    | _ => .stuck
  | [.tup xs], h => .ok (.int xs.length) h
  | [.rol xs], h => .ok (.int xs.length) h
  | _, _ => .stuck
def rLenM (K : PySem.W.Frag) : List V → Hp → VK → Prop := fun xs H Q => (∃ x n, xs = [x] ∧ LenV K x H n ∧ Q (.int n) H) ∨ ∃ p kvs, xs = [.ref p] ∧ H p = some (.dK kvs) ∧ Q (.int kvs.length) H
theorem call_lenM {X : Cx} : CallR X (.builtin "len") (rLenM X.K) := CallR.or call_len fun pins s σ H xs us Q I r h => by
  obtain ⟨p, kvs, rfl, e, q⟩ := h
  exact call_lenD pins s σ H [.ref p] us Q I r ⟨p, kvs, rfl, e, q⟩
theorem len_ok {K : PySem.W.Frag} {cls ts : List Addr} : CallS K cls ts (rLenM K) fLen := by
  intro W ρ H h xs ds Q r rs p
  unfold fLen at p
  split at p
  · obtain ⟨v, rfl, rv⟩ := rs.one
    cases rv
    split at p <;> first | exact p.elim | skip
    rename_i c
    exact .inl ⟨_, _, rfl, ⟨c, rfl⟩, post_val r (.int _) p⟩
  · obtain ⟨v, rfl, rv⟩ := rs.one
    cases rv with
    | ref q1 =>
      split at p <;> first | exact p.elim | skip
      · rename_i xs e
        obtain ⟨us, k1, r1⟩ := r.lst q1 e
        exact .inl ⟨_, us.length, rfl, .inl ⟨_, SqL.of k1, rfl⟩, by rw [r1.length]; exact post_val r (.int _) p⟩
      · rename_i xs e
        obtain ⟨us, k1, r1⟩ := r.dic q1 e
        exact .inr ⟨_, us, rfl, k1, by rw [Paired.length r1]; exact post_val r (.int _) p⟩
  · obtain ⟨v, rfl, rv⟩ := rs.one
    cases rv with
    | tup h1 r1 => exact .inl ⟨_, _, rfl, .inr ⟨_, h1, rfl⟩, by rw [r1.length]; exact post_val r (.int _) p⟩
  · obtain ⟨v, rfl, rv⟩ := rs.one
    cases rv with
    | rol h1 r1 => exact .inl ⟨_, _, rfl, .inl ⟨_, h1.sq, rfl⟩, by rw [r1.length]; exact post_val r (.int _) p⟩
  · exact p.elim
end Mi

namespace Mi
open L2 PySem PySem.Spec PyProof.Rows

/-! ### repr -/
def keyP : Key → PyData
  | .inl i => .int i
  | .inr x => .str x
/-- a dict of flat things that stands alone -/
def pdDict (h : AH) : D → Option PyData
  | .ref n => match h[n]? with
    | some (.dic kvs) => match omap (fun p : Key × D => match pd 0 h p.2 with
        | some v => some (keyP p.1, v)
        | none => none) kvs with
      | some ps => some (.dict ps)
      | none => none
    | _ => none
  | _ => none
def reprD (d : D) (h : AH) : Option Str :=
  match pd 60 h d with
  | some p => if p.showable = true ∧ p.shown.length ≤ sizeLine then some p.shown else none
  | none => match pdDict h d with
    | some p => if p.showable = true ∧ p.shown.length ≤ sizeLine then some p.shown else none
    | none => none
def fRepr : OpN
  | [d], h => match reprD d h with
    | some x => .ok (.str x) h
    | none => .stuck
  | _, _ => .stuck
theorem pd_depth {f : D → Option PyData} {n : Nat} (ih : ∀ d p, f d = some p → p.depth ≤ n) : ∀ {ds : List D} {ps : List PyData}, omap f ds = some ps → PyData.depthAll ps ≤ n
  | [], _, e => by cases e; exact Nat.zero_le _
  | d :: ds, _, e => by
    unfold omap at e
    split at e <;> first | (cases e; done) | skip
    rename_i y ys q1 q2
    cases e
    simp only [PyData.depthAll]
    exact Nat.max_le.mpr ⟨ih _ _ q1, pd_depth ih q2⟩
theorem depth_of {h : AH} : ∀ (n : Nat) (d : D) (p : PyData), pd n h d = some p → p.depth ≤ n := by
  intro n
  induction n with
  | zero =>
    intro d p e
    cases d <;> simp only [pd] at e <;> cases e <;> exact Nat.zero_le _
  | succ n ih =>
    intro d p e
    cases d with
    | tup xs =>
      simp only [pd, Option.map_eq_some_iff] at e
      obtain ⟨ps, q, rfl⟩ := e
      simp only [PyData.depth]
      exact Nat.succ_le_succ (pd_depth ih q)
    | rol xs =>
      simp only [pd, Option.map_eq_some_iff] at e
      obtain ⟨ps, q, rfl⟩ := e
      simp only [PyData.depth]
      exact Nat.succ_le_succ (pd_depth ih q)
    | ref r =>
      simp only [pd] at e
      split at e <;> first | (cases e; done) | skip
      obtain ⟨ps, q, rfl⟩ := Option.map_eq_some_iff.mp e
      simp only [PyData.depth]
      exact Nat.succ_le_succ (pd_depth ih q)
    | _ => first | (cases e; done) | (cases e; exact Nat.zero_le _)
theorem pd_noDicts {f : D → Option PyData} (ih : ∀ d p, f d = some p → p.hasDict = false) : ∀ {ds : List D} {ps : List PyData}, omap f ds = some ps → PyData.hasDictAll ps = false
  | [], _, e => by cases e; simp only [PyData.hasDictAll]
  | d :: ds, _, e => by
    unfold omap at e
    split at e <;> first | (cases e; done) | skip
    rename_i y ys q1 q2
    cases e
    simp only [PyData.hasDictAll, ih _ _ q1, pd_noDicts ih q2, Bool.or_false]
theorem pd_noDict {h : AH} : ∀ (n : Nat) (d : D) (p : PyData), pd n h d = some p → p.hasDict = false := by
  intro n
  induction n with
  | zero =>
    intro d p e
    cases d <;> simp only [pd] at e <;> cases e <;> simp only [PyData.hasDict]
  | succ n ih =>
    intro d p e
    cases d with
    | tup xs =>
      simp only [pd, Option.map_eq_some_iff] at e
      obtain ⟨ps, q, rfl⟩ := e
      simp only [PyData.hasDict]
      exact pd_noDicts ih q
    | rol xs =>
      simp only [pd, Option.map_eq_some_iff] at e
      obtain ⟨ps, q, rfl⟩ := e
      simp only [PyData.hasDict]
      exact pd_noDicts ih q
    | ref r =>
      simp only [pd] at e
      split at e <;> first | (cases e; done) | skip
      obtain ⟨ps, q, rfl⟩ := Option.map_eq_some_iff.mp e
      simp only [PyData.hasDict]
      exact pd_noDicts ih q
    | _ => first | (cases e; done) | (cases e; simp only [PyData.hasDict])
theorem repr_scalar {M : Program} {w : World} {A : Around} {E : Value → Shared → Prop} {s : Shared} {K : PySem.W.Frag} {ρ : List Addr} {H : Hp} {v : V} {u : Value} {d : D} {p : PyData} {h : AH} {Q : Value → Shared → Prop} (rv : RV K ρ H v d) (ru : RelV v u) (e : pd 0 h d = some p) (hs : p.showable = true) (hz : p.shown.length ≤ sizeLine)
    (q : ∀ t k, Q (.str p.shown t) { s with toks := k }) : wpAny (model M w) A (call (.builtin "repr") [u]) Q E s := by
  cases rv <;> simp only [pd] at e <;> cases e
  · cases ru
    simp only [PyData.shown] at q
    exact PySem.P.repr_of_none (q _ _)
  · cases ru
    simp only [PyData.shown] at q
    exact PySem.P.repr_of_bool (q _ _)
  · obtain ⟨t, rfl⟩ := ru
    simp only [PyData.shown] at q
    exact PySem.P.repr_of_int (by simpa [PyData.showable] using hs) (q _ _)
  · obtain ⟨t, rfl⟩ := ru
    simp only [PyData.shown] at q hz
    exact PySem.P.repr_of_str (q _ _) hz
/-- the reading of repr: any data by what it is -/
def rReprM (K : PySem.W.Frag) : List V → Hp → VK → Prop := fun xs H Q => ∃ (cls ts ρ : List Addr) (h : AH) (v : V) (d : D) (x : Str), xs = [v] ∧ RH K cls ts ρ H h ∧ RV K ρ H v d ∧ reprD d h = some x ∧ Q (.str x) H
theorem reads_scalar {K : PySem.W.Frag} {ρ : List Addr} {H : Hp} {hh : Heap} {h : AH} {v : V} {u : Value} {d : D} {p : PyData} (rv : RV K ρ H v d) (ru : RelV v u) (e : pd 0 h d = some p) : Reads hh u p [] := by
  cases rv <;> simp only [pd] at e <;> cases e
  · cases ru; exact .none
  · cases ru; exact .bool _
  · obtain ⟨t, rfl⟩ := ru; exact .int _ _
  · obtain ⟨t, rfl⟩ := ru; exact .str _ _
theorem keys_read {P : Program} {w : World} {H : Hp} {K : PySem.W.Frag} {ρ : List Addr} {hh : Heap} {h : AH} : ∀ {es : List DictEntry} {vs : List (Key × Value)} {xs : List (Key × V)} {kvs : List (Key × D)} {ps : List (PyData × PyData)},
    PySem.Pairs (mixKind P w) es vs → KV xs vs → RKs K ρ H xs kvs → omap (fun p : Key × D => match pd 0 h p.2 with
        | some v => some (keyP p.1, v)
        | none => none) kvs = some ps →
    ReadsAll hh (es.map (·.key)) (ps.map (·.1)) [] ∧ ReadsAll hh (es.map (·.val)) (ps.map (·.2)) []
  | _, _, _, _, _, .nil, a, b, c => by
    cases a
    cases b
    cases c
    exact ⟨.nil, .nil⟩
  | _, _, _, _, _, .cons (e := en) (kv := kv) k1 k2 rest, a, b, c => by
    cases a with
    | cons a1 a2 =>
      cases b with
      | cons b1 b2 =>
        unfold omap at c
        split at c <;> first | (cases c; done) | skip
        rename_i y ys q1 q2
        cases c
        split at q1 <;> cases q1
        rename_i v e
        obtain ⟨i1, i2⟩ := keys_read (hh := hh) rest a2 b2 q2
        refine ⟨.cons (as := []) ?_ i1, .cons (as := []) ?_ i2⟩
        · show Reads hh en.key (keyP _) []
          rw [← b1.1, a1.1]
          rcases keyIs_shape k1 with ⟨i, t, ek, ev⟩ | ⟨x, t, ek, ev⟩
          · rw [ek, ev]; exact .int _ _
          · rw [ek, ev]; exact .str _ _
        · show Reads hh en.val v []
          rw [k2]
          exact reads_scalar b1.2 a1.2 e
section
variable {X : Cx}
theorem call_reprM (hg : X.A.guards = some []) (hu : X.A.units + 64 < cLine) : CallR X (.builtin "repr") (rReprM X.K) := by
  rintro pins s σ H xs us Q I r ⟨cls, ts, ρ, hh, v, d, x, rfl, rH, rv, e, q⟩
  obtain ⟨w, rfl, ru⟩ := vals1 r
  unfold reprD at e
  split at e
  · rename_i p ep
    split at e <;> cases e
    rename_i c
    have dp := dp_of rH _ _ _ _ rv ep
    obtain ⟨as, rd⟩ := Dp.reads I _ _ _ dp ru
    have end_ : ∀ h' u tk, (∀ b o, s.heap.get? b = some o → h'.get? b = some o) → EP X pins σ Q (.str p.shown u) { s with heap := h', toks := tk } := fun h' u tk hk => ⟨.str p.shown, H, I.kept hk, ⟨_, rfl⟩, q⟩
    cases ru' : v with
    | ref a =>
      subst ru'
      obtain rfl : w = Value.ref a := ru
      exact repr_of_reads' rd c.1 (PyData.noDict_hsm (pd_noDict _ _ _ ep)) hg (by have := depth_of _ _ _ ep; omega) (fun _ _ e => e) (fun h' u tk hk => end_ h' u tk hk) c.2
    | _ =>
      subst ru'
      have e0 : pd 0 hh d = some p := by cases rv <;> simpa [pd] using ep
      exact repr_scalar rv ru e0 c.1 c.2 fun t k => end_ s.heap t k fun _ _ e => e
  · split at e <;> first | (cases e; done) | skip
    rename_i p ep
    split at e <;> cases e
    rename_i c
    cases d <;> simp only [pdDict] at ep <;> first | (cases ep; done) | skip
    rename_i n
    split at ep <;> first | (cases ep; done) | skip
    rename_i kvs e1
    split at ep <;> cases ep
    rename_i ps e2
    cases rv with
    | ref q1 =>
      rename_i a
      obtain ⟨xs, k1, r1⟩ := rH.dic q1 e1
      obtain ⟨_, nS, vs, kv, o, es, ep', ho, ex, hd, hk, hp, _⟩ := I.hok _ _ k1
      obtain ⟨i1, i2⟩ := keys_read (hh := s.heap) hp kv r1 e2
      have rd : Reads s.heap (.ref a) (.dict ps) [a] := .dict (as := []) (bs := []) ho ex.1 hd i1 i2
      obtain rfl : w = Value.ref a := ru
      refine repr_of_reads' rd c.1 (fun _ hm => ?_) hg ?_ (fun _ _ e => e) (fun h' u tk hk => ⟨.str _, H, I.kept hk, ⟨_, rfl⟩, q⟩) c.2
      · rw [List.mem_singleton.mp hm] at nS
        simp at nS
      · have dep : ∀ {kvs : List (Key × D)} {ps : List (PyData × PyData)}, omap (fun p : Key × D => match pd 0 hh p.2 with
            | some v => some (keyP p.1, v)
            | none => none) kvs = some ps → PyData.depthKv ps = 0 := by
          intro kvs
          induction kvs with
          | nil => intro ps e; cases e; simp only [PyData.depthKv]
          | cons kv kvs ih =>
            intro ps e
            unfold omap at e
            split at e <;> first | (cases e; done) | skip
            rename_i y ys q1 q2
            cases e
            split at q1 <;> cases q1
            rename_i v ev
            have z := depth_of _ _ _ ev
            obtain ⟨k, d⟩ := kv
            cases k <;> simp only [PyData.depthKv, ih q2, keyP, PyData.depth] <;> omega
        simp only [PyData.depth, dep e2]
        omega
end
theorem repr_ok {K : PySem.W.Frag} {cls ts : List Addr} : CallS K cls ts (rReprM K) fRepr := by
  intro W ρ H h xs ds Q r rs p
  unfold fRepr at p
  split at p <;> first | exact p.elim | skip
  obtain ⟨v, rfl, rv⟩ := rs.one
  split at p <;> first | exact p.elim | skip
  rename_i d _ x e
  exact ⟨cls, ts, ρ, h, v, d, x, rfl, r, rv, e, post_val r (.str _) p⟩
end Mi

namespace Mi
open L2 PySem PySem.Spec PyProof.Rows

/-! ### isinstance of a built-in type -/
def tyD : D → AH → Option String
  | .non, _ => some "NoneType"
  | .bl _, _ => some "bool"
  | .int _, _ => some "int"
  | .str _, _ => some "str"
  | .tup _, _ => some "tuple"
  | .rol _, _ => some "list"
  | .ref n, h => match h[n]? with
    | some (.lst _xs) => some "list"
    | some (.dic _) => some "dict"
    | _ => none
  | _, _ => none
def fIsi : OpN
  | [d, .ty n], h => match tyD d h with
    | some t => match kitB t n with
      | some b => .ok (.bl b) h
      | none => .stuck
    | none => .stuck
  | _, _ => .stuck
section
variable {K : PySem.W.Frag} {cls ts ρ : List Addr} {H : Hp} {h : AH}
theorem tyX_of {v : V} {d : D} {t : String} (r : RH K cls ts ρ H h) (rv : RV K ρ H v d) (e : tyD d h = some t) : TyX K H v (.type t) := by
  cases rv with
  | non => cases e; exact .base .non
  | bl b => cases e; exact .base (.bl b)
  | int i => cases e; exact .base (.int i)
  | str x => cases e; exact .base (.str x)
  | tup h1 r1 =>
    cases e
    rcases h1 with (h1 | ⟨o, h1⟩) | ⟨o, its, n, k, c, _⟩
    · exact .base (.tup h1)
    · exact .fTuple h1
    · exact .kTuple k c
  | rol h1 r1 =>
    cases e
    rcases h1 with ⟨o, h1⟩ | ⟨o, its, n, k, c, _⟩
    · exact .base (.frz h1)
    · exact .kList k c
  | ref q1 =>
    simp only [tyD] at e
    split at e <;> first | (cases e; done) | skip
    · rename_i xs e1
      cases e
      obtain ⟨us, k1, _⟩ := r.lst q1 e1
      exact .base (.lst k1)
    · rename_i xs e1
      cases e
      obtain ⟨us, k1, _⟩ := r.dic q1 e1
      exact .base (.dK k1)
  | _ => cases e
theorem isi_ok : CallS K cls ts (rIsi K) fIsi := by
  intro W ρ H h xs ds Q r rs p
  unfold fIsi at p
  split at p <;> first | exact p.elim | skip
  obtain ⟨v, w, rfl, rv, rw'⟩ := rs.two
  cases rw'
  split at p <;> first | exact p.elim | skip
  rename_i t e1
  split at p <;> first | exact p.elim | skip
  rename_i b e2
  exact ⟨_, _, _, _, _, rfl, .ty _, tyX_of r rv e1, kit_ty e2, post_val r (.bl _) p⟩

/-! ### list(x), tuple(x) -/
def fList : OpN
  | [d], h => match seqD d h with
    | some ds => .ok (.ref h.length) (h ++ [.lst ds])
    | none => .stuck
  | _, _ => .stuck
theorem list_ok : CallS K cls ts (fun xs H Q => ∃ p ys, xs = [.ref p] ∧ (SqL K H p ys ∨ SqT K H p ys) ∧ ∀ l, H l = none → Q (.ref l) (upd H l (.lst ys))) fList := by
  intro W ρ H h xs ds Q r rs p
  unfold fList at p
  split at p <;> first | exact p.elim | skip
  obtain ⟨v, rfl, rv⟩ := rs.one
  split at p <;> first | exact p.elim | skip
  rename_i ds e
  obtain ⟨a, us, rfl, hs, ru⟩ := seq_of r rv e
  exact ⟨_, _, rfl, hs, post_newL r ru p⟩
def fTuple : OpN
  | [.tup xs], h => .ok (.tup xs) h
  | [.rol xs], h => .ok (.tup xs) h
  | [.ref n], h => match h[n]? with
    | some (.lst xs) => .ok (.tup xs) h
    | _ => .stuck
  | _, _ => .stuck
theorem tuple_ok : CallS K cls ts (fun xs H Q => ∃ p ys, xs = [.ref p] ∧ ((SqL K H p ys ∧ ∀ l, H l = none → Q (.ref l) (upd H l (.tup ys))) ∨ (SqT K H p ys ∧ Q (.ref p) H))) fTuple := by
  intro W ρ H h xs ds Q r rs p
  unfold fTuple at p
  split at p <;> first | exact p.elim | skip
  · obtain ⟨v, rfl, rv⟩ := rs.one
    cases rv with
    | tup h1 r1 => exact ⟨_, _, rfl, .inr ⟨h1, post_val r (.tup h1 r1) p⟩⟩
  · obtain ⟨v, rfl, rv⟩ := rs.one
    cases rv with
    | rol h1 r1 => exact ⟨_, _, rfl, .inl ⟨h1.sq, post_newT r r1 p⟩⟩
  · obtain ⟨v, rfl, rv⟩ := rs.one
    cases rv with
    | ref q1 =>
      split at p <;> first | exact p.elim | skip
      rename_i xs e1
      obtain ⟨us, k1, r1⟩ := r.lst q1 e1
      exact ⟨_, _, rfl, .inl ⟨SqL.of k1, post_newT r r1 p⟩⟩
end

/-! ### methods of built-in types -/
abbrev OpM := D → List D → AH → Res D
def MtS (K : PySem.W.Frag) (cls ts : List Addr) (T : String) (r : V → List V → Hp → VK → Prop) (f : OpM) : Prop :=
  ∀ (W : Value → Option Addr → Hp → Prop) (ρ : List Addr) (H : Hp) (h : AH) (x : V) (dx : D) (xs : List V) (ds : List D) (Q : VK), RH K cls ts ρ H h → RV K ρ H x dx → RVs K ρ H xs ds → Post K cls ts (relD K) W ρ H (f dx ds h) Q → r x xs H Q
/-- the thing whose method is called is of the type T when it is met -/
def isTy (T : String) (d : D) (h : AH) : Bool := tyD d h == some T
def cMeth (T : String) (f : OpM) (F : EF) (A : AF) : EF := fun ε h => (F ε h).bind fun d h1 => if isTy T d h1 = true then (A ε h1).bind fun ds h2 => f d ds h2 else .stuck
theorem tyV_of {K : PySem.W.Frag} {cls ts ρ : List Addr} {H : Hp} {h : AH} {v : V} {d : D} {T : String} (r : RH K cls ts ρ H h) (rv : RV K ρ H v d) (hT : T = "list" ∨ T = "str" ∨ T = "dict") (e : isTy T d h = true) : tyV K T v H := by
  have e := beq_iff_eq.mp e
  cases rv with
  | str x => cases e; rfl
  | rol h1 r1 => cases e; exact .inl ⟨rfl, _, h1.sq⟩
  | ref q1 =>
    simp only [tyD] at e
    split at e <;> first | (cases e; done) | skip
    · rename_i xs e1
      cases e
      obtain ⟨us, k1, _⟩ := r.lst q1 e1
      exact .inl ⟨rfl, _, SqL.of k1⟩
    · rename_i xs e1
      cases e
      obtain ⟨us, k1, _⟩ := r.dic q1 e1
      exact .inr (.inr (.inl ⟨rfl, .inl ⟨_, k1⟩⟩))
  | _ => first | (cases e; done) | (cases e; rcases hT with h | h | h <;> exact absurd h (by decide))
section
variable {X : Cx} {W : WX} {cls ts : List Addr} {o e : Expr} {F : EF} {A : AF} {es : List Expr} {name : Str} {apos cpos : Pos} {T id : String} {r : V → List V → Hp → VK → Prop} {f : OpM}
theorem e_meth0 (hT : T = "list" ∨ T = "str" ∨ T = "dict") (pa : PlainAttrs T) (slot : Slot T name id) (hty : typeOf (.builtin id) = pure (.type "method_descriptor")) (hm : MtR X id r) (os : MtS X.K cls ts T r f) (ho : E' X cls ts W o F)
    (hbase : attributeBase o name X.env (eval o X.env) = eval o X.env := by rfl) (hline : (apos.endLine == cpos.line) = true := by rfl) : E' X cls ts W (.Call (.Attribute o name apos) [] [] cpos) (cMeth T f F aNil) := by
  refine ⟨fun pins s σ H Q I ⟨ρ, ε, h, hH, hE, p⟩ => (pe_bm0 pa slot hty hm ho hbase hline).run pins s σ H Q I (tG_bind hH hE p fun ρ1 H1 x h1 dx _ e1 hH1 rx hE1 p1 => ?_)⟩
  split at p1 <;> first | exact p1.elim | skip
  rename_i c
  exact ⟨tyV_of hH1 rx hT c, os _ _ _ _ _ _ _ _ _ hH1 rx .nil p1⟩
theorem e_meth (hT : T = "list" ∨ T = "str" ∨ T = "dict") (pa : PlainAttrs T) (slot : Slot T name id) (hty : typeOf (.builtin id) = pure (.type "method_descriptor")) (hm : MtR X id r) (os : MtS X.K cls ts T r f) (ho : E' X cls ts W o F) (ha : A' X cls ts W (e :: es) A)
    (hbase : attributeBase o name X.env (eval o X.env) = eval o X.env := by rfl) (hfew : ((backTo cpos (starEach (e :: es) X.env)).all (fun x => !x.1) && (backToKw cpos (keywordEach [] X.env)).all (fun x => x.1.isSome) && decide ((e :: es).length + ([] : List Keyword).length + (if ([] : List Keyword).isEmpty then 0 else 1) < 30)) = true := by rfl)
    (hs : starEach (e :: es) X.env = (false, eval e X.env) :: starEach es X.env := by rfl) (hplain : (backTo cpos (starEach es X.env)).any (·.1) = false := by rfl) (hline : (apos.endLine == cpos.line) = true := by rfl) :
    E' X cls ts W (.Call (.Attribute o name apos) (e :: es) [] cpos) (cMeth T f F A) := by
  refine ⟨fun pins s σ H Q I ⟨ρ, ε, h, hH, hE, p⟩ => (pe_bm pa slot hty hm ho ha hbase hfew hline hs hplain).run pins s σ H Q I (tG_bind hH hE p fun ρ1 H1 x h1 dx _ e1 hH1 rx hE1 p1 => ?_)⟩
  split at p1 <;> first | exact p1.elim | skip
  rename_i c
  exact ⟨tyV_of hH1 rx hT c, tG_bind hH1 hE1 p1 fun ρ2 H2 y h2 dy _ e2 hH2 ry hE2 p2 => os _ _ _ _ _ _ _ _ _ hH2 (rx.mono e2) ry p2⟩
end
section
variable {K : PySem.W.Frag} {cls ts : List Addr}
def mAppend : OpM
  | .ref n, [d], h => match h[n]? with
    | some (.lst xs) => if xs.length < sizeLine then .ok .non (h.set n (.lst (xs ++ [d]))) else .stuck
    | _ => .stuck
  | _, _, _ => .stuck
theorem append_ok : MtS K cls ts "list" rAppend mAppend := by
  intro W ρ H h x dx xs ds Q r rx rs p
  unfold mAppend at p
  split at p <;> first | exact p.elim | skip
  split at p <;> first | exact p.elim | skip
  rename_i e1
  split at p <;> first | exact p.elim | skip
  rename_i c
  obtain ⟨v, rfl, rv⟩ := rs.one
  cases rx with
  | ref q1 =>
    obtain ⟨us, k1, r1⟩ := r.lst q1 e1
    exact ⟨_, _, _, rfl, rfl, k1, by rw [r1.length]; exact c, post_put (us := us) r q1 (r1.append (.cons rv .nil)) .non p⟩
def mPop : OpM
  | .ref n, [], h => match h[n]? with
    | some (.lst xs) => match xs[xs.length - 1]? with
      | some d => .ok d (h.set n (.lst xs.dropLast))
      | none => .stuck
    | _ => .stuck
  | _, _, _ => .stuck
theorem pop_ok : MtS K cls ts "list" rPop mPop := by
  intro W ρ H h x dx xs ds Q r rx rs p
  unfold mPop at p
  split at p <;> first | exact p.elim | skip
  split at p <;> first | exact p.elim | skip
  rename_i e1
  split at p <;> first | exact p.elim | skip
  rename_i d e2
  cases rs
  cases rx with
  | ref q1 =>
    obtain ⟨us, k1, r1⟩ := r.lst q1 e1
    rw [← r1.length] at e2
    obtain ⟨v, hv, rv⟩ := r1.get e2
    exact ⟨_, _, _, rfl, rfl, k1, hv, post_put (us := us) r q1 r1.dropLast rv p⟩
def asStr : D → Option Str
  | .str x => some x
  | _ => none
theorem strs_of {ρ : List Addr} {H : Hp} : ∀ {xs : List V} {ds : List D} {ys : List Str}, RVs K ρ H xs ds → omap asStr ds = some ys → xs = ys.map V.str
  | _, _, _, .nil, e => by cases e; rfl
  | _, _, _, .cons r rs, e => by
    unfold omap at e
    split at e <;> first | (cases e; done) | skip
    rename_i y ys q1 q2
    cases e
    cases r <;> cases q1
    rw [strs_of rs q2] <;> rfl
def mJoin : OpM
  | .str a, [d], h => match seqD d h with
    | some ds => match omap asStr ds with
      | some ys => if (ys.map (·.length)).sum + ys.length * a.length ≤ 16777216 then .ok (.str (Txt.join a ys)) h else .stuck
      | none => .stuck
    | none => .stuck
  | _, _, _ => .stuck
theorem join_ok : MtS K cls ts "str" (fun x xs H Q => ∃ a p, ∃ ys : List Str, x = .str a ∧ xs = [.ref p] ∧ (SqL K H p (ys.map V.str) ∨ SqT K H p (ys.map V.str)) ∧ (ys.map (·.length)).sum + ys.length * a.length ≤ 16777216 ∧ Q (.str (Txt.join a ys)) H) mJoin := by
  intro W ρ H h x dx xs ds Q r rx rs p
  unfold mJoin at p
  split at p <;> first | exact p.elim | skip
  split at p <;> first | exact p.elim | skip
  rename_i ds' e1
  split at p <;> first | exact p.elim | skip
  rename_i ys e2
  split at p <;> first | exact p.elim | skip
  rename_i c
  obtain ⟨v, rfl, rv⟩ := rs.one
  cases rx
  obtain ⟨a, us, rfl, hs, ru⟩ := seq_of r rv e1
  rw [strs_of ru e2] at hs
  exact ⟨_, _, ys, rfl, rfl, hs, c, post_val r (.str _) p⟩
def mFind : OpM
  | .str a, [.str b], h => .ok (.int (Txt.find a b)) h
  | _, _, _ => .stuck
theorem find_ok : MtS K cls ts "str" (fun x xs H Q => ∃ a b, x = .str a ∧ xs = [.str b] ∧ Q (.int (Txt.find a b)) H) mFind := by
  intro W ρ H h x dx xs ds Q r rx rs p
  unfold mFind at p
  split at p <;> first | exact p.elim | skip
  obtain ⟨v, rfl, rv⟩ := rs.one
  cases rx
  cases rv
  exact ⟨_, _, rfl, rfl, post_val r (.int _) p⟩
end
end Mi

namespace Mi
open L2 PySem PySem.Spec PyProof.Rows

/-! ### what is walked -/
inductive AIt where
  | fix (ds : List D)
  | live (n len : Nat)
  | enu (n len : Nat)
def AIt.len : AIt → Nat
  | .fix ds => ds.length
  | .live _ len => len
  | .enu _ len => len
def AIt.item (i : Nat) (h : AH) : AIt → Option D
  | .fix ds => ds[i]?
  | .live n len => match h[n]? with
    | some (.lst xs) => if xs.length = len then xs[i]? else none
    | _ => none
  | .enu n len => match h[n]? with
    | some (.lst xs) => if xs.length = len then (xs[i]?).map fun d => .tup [.int (i : Nat), d] else none
    | _ => none
def AIt.fin (h : AH) : AIt → Bool
  | .fix _ => true
  | .live n len => match h[n]? with
    | some (.lst xs) => decide (xs.length = len)
    | _ => false
  | .enu n len => match h[n]? with
    | some (.lst xs) => decide (xs.length = len)
    | _ => false
structure RIt (K : PySem.W.Frag) (cls ts ρ : List Addr) (H : Hp) (J : It) (it : AIt) : Prop where
  go : ∀ ρ' H' h' i d, Ext ts ρ ρ' H H' → RH K cls ts ρ' H' h' → i < it.len → it.item i h' = some d → J.go i H' ∧ ∀ x H'', J.yld i H' x H'' → Ext ts ρ' ρ' H' H'' ∧ RH K cls ts ρ' H'' h' ∧ RV K ρ' H'' x d
  stop : ∀ ρ' H' h', Ext ts ρ ρ' H H' → RH K cls ts ρ' H' h' → it.fin h' = true → J.stop it.len H'
theorem RIt.ext {K : PySem.W.Frag} {cls ts ρ ρ1 : List Addr} {H H1 : Hp} {J : It} {it : AIt} (e : Ext ts ρ ρ1 H H1) (r : RIt K cls ts ρ H J it) : RIt K cls ts ρ1 H1 J it :=
  ⟨fun ρ' H' h' i d e' => r.go ρ' H' h' i d (e.trans e'), fun ρ' H' h' e' => r.stop ρ' H' h' (e.trans e')⟩
abbrev IF := AEnv → AH → Res AIt
abbrev relI (K : PySem.W.Frag) (cls ts : List Addr) : List Addr → Hp → It → AIt → Prop := fun ρ H J it => RIt K cls ts ρ H J it
abbrev tI (K : PySem.W.Frag) (cls ts : List Addr) (W : WX) (F : IF) : TI := tG K cls ts (relI K cls ts) W F
abbrev I' (X : Cx) (cls ts : List Addr) (W : WX) (tg e : Expr) (F : IF) : Prop := PI X tg e (tI X.K cls ts W F)
def itOf (d : D) (h : AH) : Res AIt :=
  match d with
  | .tup xs => .ok (.fix xs) h
  | .rol xs => .ok (.fix xs) h
  | .str z => .ok (.fix (z.cps.toList.map fun c => .str ⟨#[c]⟩)) h
  | .ref n => match h[n]? with
    | some (.lst xs) => .ok (.live n xs.length) h
    | _ => .stuck
  | _ => .stuck
def iAny (F : EF) : IF := fun ε h => (F ε h).bind itOf
section
variable {K : PySem.W.Frag} {cls ts ρ : List Addr} {H : Hp} {h : AH}
theorem rit_tup {a : Addr} {xs : List V} {ds : List D} (h1 : SqT K H a xs) (r1 : RVs K ρ H xs ds) : RIt K cls ts ρ H (Itt K a) (.fix ds) := by
  refine ⟨fun ρ' H' h' i d e r hi q => ?_, fun ρ' H' h' e r _ => ⟨xs, e.sqT h1, by rw [r1.length]; exact Nat.le_refl _⟩⟩
  obtain ⟨v, hv, rv⟩ := (r1.mono e).get q
  refine ⟨⟨xs, v, e.sqT h1, hv⟩, fun x H'' y => ?_⟩
  obtain ⟨rfl, y⟩ := y
  have z := y xs (e.sqT h1)
  rw [hv] at z
  cases z
  exact ⟨.refl, r, rv⟩
theorem rit_rol {a : Addr} {xs : List V} {ds : List D} (h1 : SqR K H a xs) (r1 : RVs K ρ H xs ds) : RIt K cls ts ρ H (Itl K a) (.fix ds) := by
  refine ⟨fun ρ' H' h' i d e r hi q => ?_, fun ρ' H' h' e r _ => ⟨xs, (e.sqR h1).sq, by rw [r1.length]; exact Nat.le_refl _⟩⟩
  obtain ⟨v, hv, rv⟩ := (r1.mono e).get q
  refine ⟨⟨xs, v, (e.sqR h1).sq, hv⟩, fun x H'' y => ?_⟩
  obtain ⟨rfl, y⟩ := y
  have z := y xs (e.sqR h1).sq
  rw [hv] at z
  cases z
  exact ⟨.refl, r, rv⟩
theorem rit_live {a : Addr} {n len : Nat} (q1 : ρ[n]? = some a) : RIt K cls ts ρ H (Itl K a) (.live n len) := by
  refine ⟨fun ρ' H' h' i d e r hi q => ?_, fun ρ' H' h' e r q => ?_⟩
  · simp only [AIt.item] at q
    split at q <;> first | (cases q; done) | skip
    rename_i xs e1
    split at q <;> first | (cases q; done) | skip
    obtain ⟨us, k1, r1⟩ := r.lst (e.get q1) e1
    obtain ⟨v, hv, rv⟩ := r1.get q
    refine ⟨⟨us, v, SqL.of k1, hv⟩, fun x H'' y => ?_⟩
    obtain ⟨rfl, y⟩ := y
    have z := y us (SqL.of k1)
    rw [hv] at z
    cases z
    exact ⟨.refl, r, rv⟩
  · simp only [AIt.fin] at q
    split at q <;> first | (cases q; done) | skip
    rename_i xs e1
    obtain ⟨us, k1, r1⟩ := r.lst (e.get q1) e1
    refine ⟨us, SqL.of k1, ?_⟩
    rw [r1.length, of_decide_eq_true q]
    exact Nat.le_refl _
theorem rit_str {z : Str} : RIt K cls ts ρ H (Its z) (.fix (z.cps.toList.map fun c => .str ⟨#[c]⟩)) := by
  have hz : (z.cps.toList.map fun c => D.str ⟨#[c]⟩).length = z.cps.size := by simp
  refine ⟨fun ρ' H' h' i d e r hi q => ?_, fun ρ' H' h' e r _ => Nat.le_of_eq hz.symm⟩
  have hi' : i < z.cps.size := by
    have hi2 : i < (z.cps.toList.map fun c => D.str ⟨#[c]⟩).length := hi
    omega
  refine ⟨hi', fun x H'' y => ?_⟩
  obtain ⟨rfl, c, hc, rfl⟩ := y
  have q : (z.cps.toList.map fun c => D.str ⟨#[c]⟩)[i]? = some d := q
  rw [List.getElem?_map, Array.getElem?_toList, hc] at q
  cases q
  exact ⟨.refl, r, .str _⟩
theorem rit_range {lo : Int} {n : Nat} : RIt K cls ts ρ H (Itr lo n) (.fix ((List.range n).map fun (i : Nat) => .int (lo + i))) := by
  have hz : ((List.range n).map fun (i : Nat) => D.int (lo + i)).length = n := by simp
  refine ⟨fun ρ' H' h' i d e r hi q => ?_, fun ρ' H' h' e r _ => Nat.le_of_eq hz.symm⟩
  have hi' : i < n := by
    have hi2 : i < ((List.range n).map fun (i : Nat) => D.int (lo + i)).length := hi
    omega
  refine ⟨hi', fun x H'' y => ?_⟩
  obtain ⟨rfl, rfl⟩ := y
  have q : ((List.range n).map fun (i : Nat) => D.int (lo + i))[i]? = some d := q
  rw [List.getElem?_map, List.getElem?_range hi'] at q
  cases q
  exact ⟨.refl, r, .int _⟩
end
def iRange1 (F : EF) : IF := fun ε h => (F ε h).bind fun d h1 => match d with
  | .int j => if decide (-(2 ^ 62) ≤ j) && decide (j < 2 ^ 62) then .ok (.fix ((List.range j.toNat).map fun (i : Nat) => .int (0 + i))) h1 else .stuck
  | _ => .stuck
def iRange2 (F G : EF) : IF := fun ε h => (F ε h).bind fun a h1 => (G ε h1).bind fun b h2 => match a, b with
  | .int i, .int j => if decide (-(2 ^ 62) ≤ i) && decide (i < 2 ^ 62) && decide (-(2 ^ 62) ≤ j) && decide (j < 2 ^ 62) then .ok (.fix ((List.range (j - i).toNat).map fun (k : Nat) => .int (i + k))) h2 else .stuck
  | _, _ => .stuck
section
variable {X : Cx} {W : WX} {cls ts : List Addr} {tg e e2 : Expr} {F F2 : EF} {p pos : Pos}
theorem i_any (he : E' X cls ts W e F) : I' X cls ts W tg e (iAny F) := by
  refine ⟨fun pins s σ H R I ⟨ρ, ε, h, hH, hE, q⟩ => ?_⟩
  have go : tE X.K cls ts W F σ H fun x H1 => ∃ ρ1 h1 d, RH X.K cls ts ρ1 H1 h1 ∧ RV X.K ρ1 H1 x d ∧ Post X.K cls ts (relI X.K cls ts) (fun c dd H' => W c dd σ H') ρ1 H1 (itOf d h1) R :=
    tG_bind hH hE q fun ρ1 H1 x h1 dx _ e1 hH1 rx hE1 p1 => ⟨ρ1, h1, dx, hH1, rx, p1⟩
  refine thn (he.run pins s σ H _ I go) fun v s1 ⟨x, H1, I1, rv, ρ1, h1, d, hH1, rx, q⟩ => ?_
  have el : ∀ {a : Addr} {xs : List V}, SqL X.K H1 a xs → R (Itl X.K a) H1 → wpAny (model X.prog X.w) X.A (pyIter (.ref a)) (PIE X pins σ tg R) X.xe s1 := fun {a xs} k q => by
    obtain ⟨its, rv, pl, hz⟩ := I1.list k
    exact wpAny_pyIter_list pl.isList (pi_one (tk := s1.toks) I1 _ (turn_list a _) ⟨_, Heap.get?_push_size _ rfl, rfl, rfl⟩ q)
  cases rx with
  | tup k1 r1 =>
    rename_i a xs ds
    cases rv
    obtain ⟨its, rv, pl, hz⟩ := I1.tuple k1
    exact wpAny_pyIter_tuple (show s1.heap.IsTuple a its.toArray from pl) (pi_one (tk := s1.toks) I1 _ (turn_tuple a _) ⟨_, Heap.get?_push_size _ rfl, rfl, rfl⟩ (q ρ1 H1 (Itt X.K a) .refl hH1 (rit_tup k1 r1)))
  | rol k1 r1 =>
    cases rv
    exact el k1.sq (q ρ1 H1 _ .refl hH1 (rit_rol k1 r1))
  | str z =>
    obtain ⟨t, rfl⟩ := rv
    have q' := q ρ1 H1 _ .refl hH1 rit_str
    cases ha : z.cps.all (· < 128)
    · exact wpAny_pyIter_wide ha (pi_one (tk := s1.toks) I1 _ (turn_str _ z t "str_iterator" (.inr rfl)) ⟨_, Heap.get?_push_size _ rfl, rfl, rfl⟩ q')
    · exact wpAny_pyIter_ascii ha (pi_one (tk := s1.toks) I1 _ (turn_str _ z t "str_ascii_iterator" (.inl rfl)) ⟨_, Heap.get?_push_size _ rfl, rfl, rfl⟩ q')
  | ref q1 =>
    simp only [itOf] at q
    split at q <;> first | exact q.elim | skip
    rename_i xs e1
    obtain ⟨us, k1, r1⟩ := hH1.lst q1 e1
    cases rv
    exact el (SqL.of k1) (q ρ1 H1 _ .refl hH1 (rit_live q1))
  | _ => exact q.elim
theorem i_range1 (hg : Gl X "range") (hm : X.mg "range" = none) (ha : E' X cls ts W e F) (hs : starEach [e] X.env = [(false, eval e X.env)] := by rfl) : I' X cls ts W tg (.Call (.Name "range" p) [e] [] pos) (iRange1 F) := by
  have hs' : starEach [e] X.env = (false, eval e X.env) :: starEach [] X.env := hs
  refine ⟨fun pins s σ H R I ⟨ρ, ε, h, hH, hE, q⟩ => (pi_range1 hg hm (pa_cons ha pa_nil hs') hs).run pins s σ H R I (tG_bind hH hE q fun ρ1 H1 x h1 dx _ e1 hH1 rx hE1 p1 => ?_)⟩
  cases rx <;> first | exact p1.elim | skip
  rename_i j _
  simp only at p1
  split at p1 <;> first | exact p1.elim | skip
  rename_i c
  simp only [Bool.and_eq_true, decide_eq_true_eq] at c
  exact ⟨j, rfl, c.1, c.2, p1 ρ1 H1 _ .refl hH1 rit_range⟩
theorem i_range2 (hg : Gl X "range") (hm : X.mg "range" = none) (ha : E' X cls ts W e F) (hb : E' X cls ts W e2 F2) (hs : starEach [e, e2] X.env = [(false, eval e X.env), (false, eval e2 X.env)] := by rfl) (hs2 : starEach [e2] X.env = [(false, eval e2 X.env)] := by rfl) :
    I' X cls ts W tg (.Call (.Name "range" p) [e, e2] [] pos) (iRange2 F F2) := by
  have hs2' : starEach [e2] X.env = (false, eval e2 X.env) :: starEach [] X.env := hs2
  have hs' : starEach [e, e2] X.env = (false, eval e X.env) :: starEach [e2] X.env := by rw [hs, hs2]
  refine ⟨fun pins s σ H R I ⟨ρ, ε, h, hH, hE, q⟩ => (pi_range2 hg hm (pa_cons ha (pa_cons hb pa_nil hs2') hs') hs hs2).run pins s σ H R I (tG_bind hH hE q fun ρ1 H1 x h1 dx _ e1 hH1 rx hE1 p1 => tG_bind hH1 hE1 p1 fun ρ2 H2 y h2 dy _ e2 hH2 ry hE2 p2 => ?_)⟩
  cases rx <;> first | exact p2.elim | skip
  cases ry <;> first | exact p2.elim | skip
  rename_i i _ j _
  simp only at p2
  split at p2 <;> first | exact p2.elim | skip
  rename_i c
  simp only [Bool.and_eq_true, decide_eq_true_eq] at c
  exact ⟨i, j, rfl, ⟨c.1.1.1, c.1.1.2, c.1.2, c.2⟩, p2 ρ2 H2 _ .refl hH2 rit_range⟩
end

/-! ### targets -/
abbrev TF' := D → AEnv → AH → Option AEnv
abbrev TFs := List D → AEnv → AH → Option AEnv
def gN (i : Nat) : TF' := fun d ε _ => if i < ε.length then some (ε.set i (some d)) else none
def gNil' : TFs := fun ds ε _ => match ds with
  | [] => some ε
  | _ => none
def gCons' (g : TF') (gs : TFs) : TFs := fun ds ε h => match ds with
  | d :: ds => match g d ε h with
    | some ε1 => gs ds ε1 h
    | none => none
  | [] => none
def gT (n : Nat) (gs : TFs) : TF' := fun d ε h => match d with
  | .tup ds => if ds.length = n then gs ds ε h else none
  | _ => none
/-- a target whose names stand at the slots sl -/
def tTg (K : PySem.W.Frag) (cls ts : List Addr) (sl : List Nat) (g : TF') : TG := fun v σ H Q => ∃ ρ ε h d ε', RH K cls ts ρ H h ∧ RE K ρ H σ ε ∧ RV K ρ H v d ∧ g d ε h = some ε' ∧
  ∀ σ', RE K ρ H σ' ε' → (∀ vs : List Nat, (∀ i ∈ sl, i ∈ vs) → wipe σ' vs = wipe σ vs) → Q σ' H
def tTgs (K : PySem.W.Frag) (cls ts : List Addr) (sl : List Nat) (g : TFs) : TGs := fun v σ H Q => ∃ ρ ε h d ε', RH K cls ts ρ H h ∧ RE K ρ H σ ε ∧ RVs K ρ H v d ∧ g d ε h = some ε' ∧
  ∀ σ', RE K ρ H σ' ε' → (∀ vs : List Nat, (∀ i ∈ sl, i ∈ vs) → wipe σ' vs = wipe σ vs) → Q σ' H
abbrev G' (X : Cx) (cls ts : List Addr) (tg : Expr) (sl : List Nat) (g : TF') : Prop := PG X tg (tTg X.K cls ts sl g)
abbrev Gs' (X : Cx) (cls ts : List Addr) (tg : List Expr) (sl : List Nat) (g : TFs) : Prop := PGs X tg (tTgs X.K cls ts sl g)
theorem RE.set {K : PySem.W.Frag} {ρ : List Addr} {H : Hp} {σ : L2.St} {ε : AEnv} {i : Nat} {v : V} {d : D} (r : RE K ρ H σ ε) (rv : RV K ρ H v d) : RE K ρ H (σ.set i (some v)) (ε.set i (some d)) := by
  refine ⟨by rw [List.length_set, List.length_set]; exact r.1, fun j e q => ?_⟩
  by_cases hj : i = j
  · subst hj
    have hl : i < ε.length := by
      have := (List.getElem?_eq_some_iff.mp q).1
      rw [List.length_set] at this
      exact this
    rw [List.getElem?_set_self hl] at q
    cases q
    exact ⟨v, List.getElem?_set_self (by rw [← r.1]; exact hl), rv⟩
  · rw [List.getElem?_set_ne hj] at q
    obtain ⟨w, h1, h2⟩ := r.2 j e q
    exact ⟨w, by rw [List.getElem?_set_ne hj]; exact h1, h2⟩
theorem wipe_set {σ : L2.St} {i : Nat} {x : Option V} : ∀ {vs : List Nat}, i ∈ vs → wipe (σ.set i x) vs = wipe σ vs
  | v :: vs, h => by
    unfold wipe
    by_cases hm : i ∈ vs
    · rw [wipe_set hm]
    · have e : i = v := by
        rcases List.mem_cons.mp h with one | more
        · exact one
        · exact absurd more hm
      subst e
      have z : ∀ vs : List Nat, i ∉ vs → wipe (σ.set i x) vs = (wipe σ vs).set i x := by
        intro vs
        induction vs with
        | nil => intro _; rfl
        | cons w ws ih =>
          intro hn
          unfold wipe
          rw [ih fun q => hn (List.mem_cons_of_mem _ q), List.set_comm _ _ (fun q => hn (by rw [q]; exact List.mem_cons_self))]
      rw [z vs hm, List.set_set]
section
variable {X : Cx} {cls ts : List Addr} {tg : Expr} {es : List Expr} {sl sl2 : List Nat} {g : TF'} {gs : TFs} {pos : Pos}
theorem g_name {i : Nat} {x : Str} (hN : X.N.Nodup) (hi : X.N[i]? = some x) (hx : Loc X.env.scope x) (hf : X.fn x = true ∨ X.env.scope.names.lookup x = some .local := by first | exact .inl rfl | exact .inr rfl | assumption) : G' X cls ts (.Name x pos) [i] (gN i) := by
  refine ⟨fun pins s σ H v u Q I r h => (pg_name hN hi hx hf).run pins s σ H v u Q I r ?_⟩
  obtain ⟨ρ, ε, hh, d, ε', hH, hE, rv, q, k⟩ := h
  unfold gN at q
  split at q <;> cases q
  exact k _ (hE.set rv) fun vs hv => wipe_set (hv i List.mem_cons_self)
theorem gs_nil : Gs' X cls ts [] [] gNil' := by
  refine ⟨fun pins s σ H vs us Q I r h => pgs_nil.run pins s σ H vs us Q I r ?_⟩
  obtain ⟨ρ, ε, hh, d, ε', hH, hE, rv, q, k⟩ := h
  unfold gNil' at q
  split at q <;> cases q
  cases rv
  exact ⟨rfl, k _ hE fun _ _ => rfl⟩
theorem gs_cons (h1 : G' X cls ts tg sl g) (h2 : Gs' X cls ts es sl2 gs) (hs : (assignEach (tg :: es) X.env).map (·.2) = assign tg X.env :: (assignEach es X.env).map (·.2) := by rfl) : Gs' X cls ts (tg :: es) (sl ++ sl2) (gCons' g gs) := by
  refine ⟨fun pins s σ H vs us Q I r h => (pgs_cons h1 h2 hs).run pins s σ H vs us Q I r ?_⟩
  obtain ⟨ρ, ε, hh, d, ε', hH, hE, rv, q, k⟩ := h
  unfold gCons' at q
  split at q <;> first | (cases q; done) | skip
  split at q <;> first | (cases q; done) | skip
  rename_i ε1 q1
  cases rv with
  | cons ra rb =>
    exact ⟨_, _, rfl, ρ, ε, hh, _, ε1, hH, hE, ra, q1, fun σ' hE' w1 => ⟨ρ, ε1, hh, _, ε', hH, hE', rb, q, fun σ2 hE2 w2 => k σ2 hE2 fun vs hv =>
      (w2 vs fun i hi => hv i (List.mem_append_right _ hi)).trans (w1 vs fun i hi => hv i (List.mem_append_left _ hi))⟩⟩
theorem g_tup {k : Nat} {n : Nat} (hc : X.calm = true) (h : Gs' X cls ts es sl gs) (hn : (assignEach es X.env).length = n := by rfl) (hst : (assignEach es X.env).findIdx? (·.1) = none := by rfl) : G' X cls ts (.Tuple es k pos) sl (gT n gs) := by
  refine ⟨fun pins s σ H v u Q I r hq => (pg_tup hc h hn hst).run pins s σ H v u Q I r ?_⟩
  obtain ⟨ρ, ε, hh, d, ε', hH, hE, rv, q, k⟩ := hq
  unfold gT at q
  split at q <;> first | (cases q; done) | skip
  split at q <;> first | (cases q; done) | skip
  rename_i c
  cases rv with
  | tup h1 r1 => exact ⟨_, _, rfl, h1, by rw [r1.length]; exact c, ρ, ε, hh, _, ε', hH, hE, r1, q, k⟩
end

/-! ### comprehensions -/
def wipeA (ε : AEnv) : List Nat → AEnv
  | [] => ε
  | v :: vs => (wipeA ε vs).set v none
def noExc {α : Type} : Res α → Res α
  | .exc _ _ => .stuck
  | r => r
def tYes' : TF := fun _ h => .ok true h
def compGo (it : AIt) (g : TF') (t : TF) (F : EF) (nD : Nat) (ε0 : AEnv) : Nat → Nat → AH → Res Unit
  | 0, _, h => if it.fin h = true then .ok () h else .stuck
  | m + 1, i, h => match it.item i h with
    | some d => match g d ε0 h with
      | some ε1 => (noExc (t ε1 h)).bind fun b h1 => if b = true then (noExc (F ε1 h1)).bind fun y h2 => match h2[nD]? with
          | some (.lst acc) => if acc.length < sizeLine then compGo it g t F nD ε0 m (i + 1) (h2.set nD (.lst (acc ++ [y]))) else .stuck
          | _ => .stuck
        else compGo it g t F nD ε0 m (i + 1) h1
      | none => .stuck
    | none => .stuck
def cComp (iF : IF) (g : TF') (t : TF) (F : EF) (own : List Nat) : EF := fun ε h => (iF ε h).bind fun it h1 => (compGo it g t F h1.length (wipeA ε own) it.len 0 (h1 ++ [.lst []])).bind fun _ h2 => .ok (.ref h1.length) h2
theorem RE.wipe {K : PySem.W.Frag} {ρ : List Addr} {H : Hp} {σ : L2.St} {ε : AEnv} (r : RE K ρ H σ ε) : ∀ vs : List Nat, RE K ρ H (L2.wipe σ vs) (wipeA ε vs)
  | [] => r
  | v :: vs => by
    have ih := RE.wipe r vs
    unfold L2.wipe wipeA
    refine ⟨by rw [List.length_set, List.length_set]; exact ih.1, fun j e q => ?_⟩
    by_cases hj : v = j
    · subst hj
      have hl := (List.getElem?_eq_some_iff.mp q).1
      rw [List.length_set] at hl
      rw [List.getElem?_set_self hl] at q
      cases q
    · rw [List.getElem?_set_ne hj] at q
      obtain ⟨w, h1, h2⟩ := ih.2 j e q
      exact ⟨w, by rw [List.getElem?_set_ne hj]; exact h1, h2⟩
abbrev Ts' (X : Cx) (cls ts : List Addr) (W : WX) (es : List Expr) (F : TF) : Prop := PTs X es (tT X.K cls ts W F)
abbrev W0 : WX := fun _ _ _ _ => False
theorem ts_nil {X : Cx} {cls ts : List Addr} {W : WX} : Ts' X cls ts W [] tYes' := ⟨fun pins s σ H Q I ⟨ρ, ε, h, hH, hE, p⟩ => pts_nil.run pins s σ H Q I (p _ _ _ .refl hH rfl)⟩
theorem ts_one {X : Cx} {cls ts : List Addr} {W : WX} {c : Expr} {T : TF} (h : T' X cls ts W c T) : Ts' X cls ts W [c] T := pts_one h
section
variable {K : PySem.W.Frag} {cls ts : List Addr} {W : WX} {iF : IF} {g : TF'} {t : TF} {F : EF} {sl own : List Nat} {σ : L2.St} {H : Hp} {Q : VK}
theorem noExc_W {α β : Type} {rel : List Addr → Hp → β → α → Prop} {γ δ : Type} {rel2 : List Addr → Hp → δ → γ → Prop} {ρ : List Addr} {H : Hp} {ε : AEnv} {h : AH} {F : AEnv → AH → Res α} {G : α → AH → Res γ} {V2 : Value → Option Addr → Hp → Prop} {Qx : δ → Hp → Prop} {σ : L2.St} {Q' : β → Hp → Prop}
    (hH : RH K cls ts ρ H h) (hE : RE K ρ H σ ε) (hp : Post K cls ts rel2 V2 ρ H ((noExc (F ε h)).bind G) Qx)
    (k : ∀ ρ1 H1 v h1 a, Ext ts ρ ρ1 H H1 → RH K cls ts ρ1 H1 h1 → rel ρ1 H1 v a → RE K ρ1 H1 σ ε → Post K cls ts rel2 V2 ρ1 H1 (G a h1) Qx → Q' v H1) : tG K cls ts rel W0 F σ H Q' := by
  refine ⟨ρ, ε, h, hH, hE, ?_⟩
  cases q : F ε h with
  | ok a h1 =>
    rw [q] at hp
    exact fun ρ1 H1 v e r rv => k ρ1 H1 v h1 a e r rv (hE.mono e) (hp.ext e)
  | exc x h1 =>
    rw [q] at hp
    exact hp.elim
  | stuck =>
    rw [q] at hp
    exact hp
theorem comp_ok (hsl : ∀ i ∈ sl, i ∈ own) (p : tE K cls ts W (cComp iF g t F own) σ H Q) : tLc (tI K cls ts W iF) (tTg K cls ts sl g) (tT K cls ts W0 t) (tE K cls ts W0 F) own σ H Q := by
  obtain ⟨ρ, ε, h, hH, hE, p⟩ := p
  refine tG_bind hH hE p fun ρ1 H1 J h1 it _ e1 hH1 rit hE1 p1 => fun Da hD => ?_
  have eD := ext_new (ts := ts) (ρ := ρ1) (u := .lst []) hD
  have hHD : RH K cls ts (ρ1 ++ [Da]) (upd H1 Da (.lst [])) (h1 ++ [.lst []]) := hH1.new hD ⟨[], upd_same, .nil⟩
  refine ⟨fun i m H' => m = it.len - i ∧ i ≤ it.len ∧ ∃ ρ2 h2, Ext ts (ρ1 ++ [Da]) ρ2 (upd H1 Da (.lst [])) H' ∧ RH K cls ts ρ2 H' h2 ∧
    Post K cls ts (relD K) (fun c dd H' => W c dd σ H') ρ2 H' ((compGo it g t F h1.length (wipeA ε own) m i h2).bind fun _ h3 => .ok (.ref h1.length) h3) Q,
    ⟨it.len, by simp, Nat.zero_le _, _, _, .refl, hHD, p1.ext eD⟩, ?_⟩
  rintro i m H' ⟨em, hi, ρ2, h2, e2, hH2, q⟩
  have ritD := rit.ext eD
  have gD : ρ2[h1.length]? = some Da := e2.get (by rw [← hH1.len]; exact get_new)
  by_cases hlt : i < it.len
  · obtain ⟨k, rfl⟩ : ∃ k, m = k + 1 := ⟨m - 1, by omega⟩
    simp only [compGo] at q
    split at q <;> first | exact q.elim | skip
    rename_i d qi
    obtain ⟨go, yl⟩ := ritD.go ρ2 H' h2 i d e2 hH2 hlt qi
    refine .inr ⟨go, fun H3 => ∃ ρ3 h3, Ext ts (ρ1 ++ [Da]) ρ3 (upd H1 Da (.lst [])) H3 ∧ RH K cls ts ρ3 H3 h3 ∧
      Post K cls ts (relD K) (fun c dd H' => W c dd σ H') ρ3 H3 ((compGo it g t F h1.length (wipeA ε own) k (i + 1) h3).bind fun _ h3 => .ok (.ref h1.length) h3) Q, fun H3 z => ⟨k, by omega, by omega, by omega, z⟩, fun x H'' y => ?_⟩
    obtain ⟨e3, hH3, rx⟩ := yl x H'' y
    have q := q.ext e3
    split at q <;> first | exact q.elim | skip
    rename_i ε1 qg
    have hE3 : RE K ρ2 H'' (L2.wipe σ own) (wipeA ε own) := (hE1.mono (eD.trans (e2.trans e3))).wipe own
    refine ⟨ρ2, _, h2, d, ε1, hH3, hE3, rx, qg, fun σ' hE' hw => ⟨?_, ?_⟩⟩
    · have w1 := hw own hsl
      rw [w1]
      have idem : ∀ vs : List Nat, (∀ i ∈ vs, i ∈ own) → L2.wipe (L2.wipe σ own) vs = L2.wipe σ own := by
        intro vs
        induction vs with
        | nil => intro _; rfl
        | cons v vs ih =>
          intro hv
          show (L2.wipe (L2.wipe σ own) vs).set v none = _
          rw [ih fun i hi => hv i (List.mem_cons_of_mem _ hi)]
          have wn : ∀ us : List Nat, v ∈ us → (L2.wipe σ us).set v none = L2.wipe σ us := by
            intro us
            induction us with
            | nil => intro h; cases h
            | cons u us ih2 =>
              intro h
              show ((L2.wipe σ us).set u none).set v none = (L2.wipe σ us).set u none
              by_cases e : u = v
              · subst e; rw [List.set_set]
              · rcases List.mem_cons.mp h with z | z
                · exact absurd z.symm e
                · rw [List.set_comm _ _ e, ih2 z]
          exact wn own (hv v List.mem_cons_self)
      exact idem own fun _ h => h
    · have q0 : Post K cls ts (relD K) (fun c dd H' => W c dd σ H') ρ2 H'' ((noExc (t ε1 h2)).bind fun b h1' => (if b = true then (noExc (F ε1 h1')).bind fun y h2 => match h2[h1.length]? with
          | some (.lst acc) => if acc.length < sizeLine then compGo it g t F h1.length (wipeA ε own) k (i + 1) (h2.set h1.length (.lst (acc ++ [y]))) else .stuck
          | _ => .stuck
        else compGo it g t F h1.length (wipeA ε own) k (i + 1) h1').bind fun _ h3 => .ok (.ref h1.length) h3) Q := by
        cases z : noExc (t ε1 h2) with
        | ok b h' => rw [z] at q; exact q
        | exc _ _ => rw [z] at q; exact q
        | stuck => rw [z] at q; exact q
      refine noExc_W hH3 hE' q0 fun ρ4 H4 b h4 b' e4 hH4 rb hE4 q4 => ?_
      cases rb
      cases b with
      | false => exact iteF ⟨ρ4, h4, e2.trans (e3.trans e4), hH4, q4⟩
      | true =>
        refine iteT ?_
        have q5 : Post K cls ts (relD K) (fun c dd H' => W c dd σ H') ρ4 H4 ((noExc (F ε1 h4)).bind fun y h2 => (match h2[h1.length]? with
          | some (.lst acc) => if acc.length < sizeLine then compGo it g t F h1.length (wipeA ε own) k (i + 1) (h2.set h1.length (.lst (acc ++ [y]))) else .stuck
          | _ => .stuck).bind fun _ h3 => .ok (.ref h1.length) h3) Q := by
          rw [if_pos rfl] at q4
          cases z : noExc (F ε1 h4) with
          | ok b h' => rw [z] at q4; exact q4
          | exc _ _ => rw [z] at q4; exact q4
          | stuck => rw [z] at q4; exact q4
        refine noExc_W hH4 hE4 q5 fun ρ5 H5 y h5 dy e5 hH5 ry hE5 q6 => ?_
        have e25 := e2.trans (e3.trans (e4.trans e5))
        have gD5 : ρ5[h1.length]? = some Da := e25.get (by rw [← hH1.len]; exact get_new)
        split at q6 <;> first | exact q6.elim | skip
        rename_i acc ea
        split at q6 <;> first | exact q6.elim | skip
        rename_i c
        obtain ⟨us, k1, r1⟩ := hH5.lst gD5 ea
        have eP := ext_put (u := .lst (us ++ [y])) (List.mem_of_getElem? gD5) hH5
        have hP : RH K cls ts ρ5 (upd H5 Da (.lst (us ++ [y]))) (h5.set h1.length (.lst (acc ++ [dy]))) := hH5.put gD5 ⟨_, upd_same, (r1.append (.cons ry .nil)).mono eP⟩
        exact ⟨us, k1, by rw [r1.length]; exact c, ρ5, _, e25.trans eP, hP, q6.ext eP⟩
  · have ei : i = it.len := by omega
    subst ei
    have em0 : m = 0 := by omega
    subst em0
    simp only [compGo] at q
    split at q <;> first | exact q.elim | skip
    rename_i c
    exact .inl ⟨ritD.stop ρ2 H' h2 e2 hH2 c, post_val hH2 (.ref gD) q⟩
end
section
variable {X : Cx} {W : WX} {cls ts : List Addr} {elt tg iter : Expr} {ifs : List Expr} {scope : Scope} {own : List (Str × Nat)} {pos : Pos} {iF : IF} {g : TF'} {t : TF} {F : EF} {sl : List Nat}
theorem e_comp (hc : X.calm = true) (hN : X.N.Nodup) (hi : I' X cls ts W tg iter iF) (ok : BlkOk X.N X.env.scope scope own) (hsl : ∀ i ∈ sl, i ∈ own.map (·.2))
    (hg : ∀ (s : Shared) (H : Hp) (C : Addr) (cl : List (Str × Addr)) (fp : List Addr), G' (X.blk s H scope (compEnvC scope cl C X.env) fp) cls ts tg sl g)
    (ht : ∀ (s : Shared) (H : Hp) (C : Addr) (cl : List (Str × Addr)) (fp : List Addr), Ts' (X.blk s H scope (compEnvC scope cl C X.env) fp) cls ts W0 ifs t)
    (he : ∀ (s : Shared) (H : Hp) (C : Addr) (cl : List (Str × Addr)) (fp : List Addr), E' (X.blk s H scope (compEnvC scope cl C X.env) fp) cls ts W0 elt F) (hs : ∀ x, foldedSetIterable iter X.env x = pure x := by intro _; rfl) :
    E' X cls ts W (.ListComp elt [⟨tg, iter, ifs, 0⟩] scope pos) (cComp iF g t F (own.map (·.2))) :=
  ⟨fun pins s σ H Q I p => (pe_lc hc hN hi ok hg ht he hs).run pins s σ H Q I (comp_ok hsl p)⟩
end
end Mi

namespace Mi
open L2 PySem PySem.Spec PyProof.Rows

/-! ### statements -/
inductive SR where
  | nx (ε : AEnv) (h : AH) | ret (d : D) (h : AH) | brk (ε : AEnv) (h : AH) | cnt (ε : AEnv) (h : AH) | exc (x : Exn) (ε : AEnv) (h : AH) | stuck
abbrev SF := AEnv → AH → SR
/-- an expression's end in a statement -/
def Res.st {α : Type} (r : Res α) (ε : AEnv) (f : α → AH → SR) : SR :=
  match r with
  | .ok a h => f a h
  | .exc x h => .exc x ε h
  | .stuck => .stuck
@[simp] theorem Res.st_ok {α : Type} (a : α) (h : AH) (ε : AEnv) (f : α → AH → SR) : (Res.ok a h).st ε f = f a h := rfl
@[simp] theorem Res.st_exc {α : Type} (x : Exn) (h : AH) (ε : AEnv) (f : α → AH → SR) : (Res.exc (α := α) x h).st ε f = .exc x ε h := rfl
@[simp] theorem Res.st_stuck {α : Type} (ε : AEnv) (f : α → AH → SR) : (Res.stuck (α := α)).st ε f = .stuck := rfl
def SR.seq (r : SR) (f : SF) : SR :=
  match r with
  | .nx ε h => f ε h
  | r => r
@[simp] theorem SR.seq_nx (ε : AEnv) (h : AH) (f : SF) : (SR.nx ε h).seq f = f ε h := rfl
@[simp] theorem SR.seq_ret (d : D) (h : AH) (f : SF) : (SR.ret d h).seq f = .ret d h := rfl
@[simp] theorem SR.seq_exc (x : Exn) (ε : AEnv) (h : AH) (f : SF) : (SR.exc x ε h).seq f = .exc x ε h := rfl
@[simp] theorem SR.seq_stuck (f : SF) : SR.stuck.seq f = .stuck := rfl
@[simp] theorem SR.seq_brk (ε : AEnv) (h : AH) (f : SF) : (SR.brk ε h).seq f = .brk ε h := rfl
@[simp] theorem SR.seq_cnt (ε : AEnv) (h : AH) (f : SF) : (SR.cnt ε h).seq f = .cnt ε h := rfl
def PostS (K : PySem.W.Frag) (cls ts : List Addr) (W : WX) (ρ : List Addr) (H : Hp) (r : SR) (E : Ends) : Prop :=
  match r with
  | .nx ε' h' => ∀ ρ' H' σ', Ext ts ρ ρ' H H' → RH K cls ts ρ' H' h' → RE K ρ' H' σ' ε' → E.nx σ' H'
  | .ret d h' => ∀ ρ' H' v, Ext ts ρ ρ' H H' → RH K cls ts ρ' H' h' → RV K ρ' H' v d → E.rt v H'
  | .brk ε' h' => ∀ ρ' H' σ', Ext ts ρ ρ' H H' → RH K cls ts ρ' H' h' → RE K ρ' H' σ' ε' → E.bk σ' H'
  | .cnt ε' h' => ∀ ρ' H' σ', Ext ts ρ ρ' H H' → RH K cls ts ρ' H' h' → RE K ρ' H' σ' ε' → E.ct σ' H'
  | .exc x ε' h' => ∀ ρ' H' σ' c dd, Ext ts ρ ρ' H H' → RH K cls ts ρ' H' h' → RE K ρ' H' σ' ε' → RX K cls ρ' H' c dd x → W c dd σ' H'
  | .stuck => False
theorem PostS.ext {K : PySem.W.Frag} {cls ts ρ ρ1 : List Addr} {H H1 : Hp} {W : WX} {r : SR} {E : Ends} (e : Ext ts ρ ρ1 H H1) (p : PostS K cls ts W ρ H r E) : PostS K cls ts W ρ1 H1 r E := by
  cases r with
  | nx ε' h' => exact fun ρ' H' σ' e' => p ρ' H' σ' (e.trans e')
  | ret d h' => exact fun ρ' H' v e' => p ρ' H' v (e.trans e')
  | brk ε' h' => exact fun ρ' H' σ' e' => p ρ' H' σ' (e.trans e')
  | cnt ε' h' => exact fun ρ' H' σ' e' => p ρ' H' σ' (e.trans e')
  | exc x ε' h' => exact fun ρ' H' σ' c dd e' => p ρ' H' σ' c dd (e.trans e')
  | stuck => exact p
def tS (K : PySem.W.Frag) (cls ts : List Addr) (W : WX) (F : SF) : TS := fun E σ H => ∃ ρ ε h, RH K cls ts ρ H h ∧ RE K ρ H σ ε ∧ PostS K cls ts W ρ H (F ε h) E
/-- an expression ahead of what a statement does -/
theorem tS_bind {α β : Type} {K : PySem.W.Frag} {cls ts ρ : List Addr} {H : Hp} {rel : List Addr → Hp → β → α → Prop} {W : WX} {F : AEnv → AH → Res α} {G : α → AH → SR} {σ : L2.St} {ε : AEnv} {h : AH} {E : Ends} {Q' : β → Hp → Prop}
    (hH : RH K cls ts ρ H h) (hE : RE K ρ H σ ε) (hp : PostS K cls ts W ρ H ((F ε h).st ε G) E)
    (k : ∀ ρ1 H1 v h1 a, F ε h = .ok a h1 → Ext ts ρ ρ1 H H1 → RH K cls ts ρ1 H1 h1 → rel ρ1 H1 v a → RE K ρ1 H1 σ ε → PostS K cls ts W ρ1 H1 (G a h1) E → Q' v H1) : tG K cls ts rel W F σ H Q' := by
  refine ⟨ρ, ε, h, hH, hE, ?_⟩
  cases q : F ε h with
  | ok a h1 =>
    rw [q] at hp
    exact fun ρ1 H1 v e r rv => k ρ1 H1 v h1 a q e r rv (hE.mono e) (hp.ext e)
  | exc x h1 =>
    rw [q] at hp
    exact fun ρ1 H1 c dd e r rx => hp ρ1 H1 σ c dd e r (hE.mono e) rx
  | stuck =>
    rw [q] at hp
    exact hp
def sPass : SF := fun ε h => .nx ε h
def sBrk : SF := fun ε h => .brk ε h
def sCnt : SF := fun ε h => .cnt ε h
def sSeq (a b : SF) : SF := fun ε h => (a ε h).seq b
def sExpr (F : EF) : SF := fun ε h => (F ε h).st ε fun _ h1 => .nx ε h1
def sRet (F : EF) : SF := fun ε h => (F ε h).st ε fun d h1 => .ret d h1
def sRetN : SF := fun ε h => .ret .non h
def sSet (i : Nat) (F : EF) : SF := fun ε h => (F ε h).st ε fun d h1 => if i < ε.length then .nx (ε.set i (some d)) h1 else .stuck
def sAsg (F : EF) (g : TF') : SF := fun ε h => (F ε h).st ε fun d h1 => match g d ε h1 with
  | some ε1 => .nx ε1 h1
  | none => .stuck
def sIf (t : TF) (a b : SF) : SF := fun ε h => (t ε h).st ε fun c h1 => if c = true then a ε h1 else b ε h1
/-- xs[i] = e -/
def putL (c i d : D) (h : AH) : Option AH :=
  match c, i with
  | .ref n, .int k => match h[n]? with
    | some (.lst xs) => match ixN xs.length k with
      | some j => some (h.set n (.lst (xs.set j d)))
      | none => none
    | _ => none
  | _, _ => none
def sPut (F G I : EF) : SF := fun ε h => (F ε h).st ε fun d h1 => (G ε h1).st ε fun c h2 => (I ε h2).st ε fun i h3 => match putL c i d h3 with
  | some h4 => .nx ε h4
  | none => .stuck
def sPar2 (i j : Nat) (F G : EF) : SF := fun ε h => (F ε h).st ε fun a h1 => (G ε h1).st ε fun b h2 => if i < ε.length ∧ j < ε.length then .nx ((ε.set i (some a)).set j (some b)) h2 else .stuck
def sPar3 (i j k : Nat) (F G I : EF) : SF := fun ε h => (F ε h).st ε fun a h1 => (G ε h1).st ε fun b h2 => (I ε h2).st ε fun c h3 => if i < ε.length ∧ j < ε.length ∧ k < ε.length then .nx (((ε.set i (some a)).set j (some b)).set k (some c)) h3 else .stuck
/-- for: turn by turn -/
def forGo (it : AIt) (g : TF') (B : SF) : Nat → Nat → AEnv → AH → SR
  | 0, _, ε, h => if it.fin h = true then .nx ε h else .stuck
  | m + 1, i, ε, h => match it.item i h with
    | some d => match g d ε h with
      | some ε1 => match B ε1 h with
        | .nx ε2 h2 => forGo it g B m (i + 1) ε2 h2
        | .cnt ε2 h2 => forGo it g B m (i + 1) ε2 h2
        | .brk ε2 h2 => .nx ε2 h2
        | r => r
      | none => .stuck
    | none => .stuck
def sFor (iF : IF) (g : TF') (B : SF) : SF := fun ε h => (iF ε h).st ε fun it h1 => forGo it g B it.len 0 ε h1
/-- while: as many turns as fuel has -/
def whileGo (t : TF) (B : SF) : Nat → AEnv → AH → SR
  | 0, _, _ => .stuck
  | m + 1, ε, h => (t ε h).st ε fun c h1 => if c = true then match B ε h1 with
      | .nx ε2 h2 => whileGo t B m ε2 h2
      | .cnt ε2 h2 => whileGo t B m ε2 h2
      | .brk ε2 h2 => .nx ε2 h2
      | r => r
    else .nx ε h1
def sWhile (fuel : Nat) (t : TF) (B : SF) : SF := fun ε h => whileGo t B fuel ε h

section
variable {X : Cx} {W : WX} {cls ts : List Addr} {a b c e : Expr} {Fa Fb Fc F : EF} {Ta : TF} {A : AF} {es : List Expr} {pos : Pos} {st : Stmt} {rest body orelse : List Stmt} {S1 S2 B : SF}
abbrev S' (X : Cx) (cls ts : List Addr) (W : WX) (s : Stmt) (F : SF) : Prop := PS X s (tS X.K cls ts W F)
abbrev Ss' (X : Cx) (cls ts : List Addr) (W : WX) (s : List Stmt) (F : SF) : Prop := PSs X s (tS X.K cls ts W F)
theorem ss_nil : Ss' X cls ts W [] sPass := ⟨fun pins s σ H E I ⟨ρ, ε, h, hH, hE, p⟩ => pss_nil.run pins s σ H E I (p _ _ _ .refl hH hE)⟩
theorem ss_cons (h1 : S' X cls ts W st S1) (h2 : Ss' X cls ts W rest S2) : Ss' X cls ts W (st :: rest) (sSeq S1 S2) := by
  refine ⟨fun pins s σ H E I ⟨ρ, ε, h, hH, hE, p⟩ => (pss_cons h1 h2).run pins s σ H E I ⟨ρ, ε, h, hH, hE, ?_⟩⟩
  unfold sSeq at p
  cases q : S1 ε h with
  | nx ε' h' =>
    rw [q] at p
    exact fun ρ' H' σ' e' hH' hE' => ⟨ρ', ε', h', hH', hE', p.ext e'⟩
  | _ => rw [q] at p; exact p
theorem ss_one (h1 : S' X cls ts W st S1) : Ss' X cls ts W [st] S1 := pss_one h1
theorem s_pass : S' X cls ts W (.Pass pos) sPass := ⟨fun pins s σ H E I ⟨ρ, ε, h, hH, hE, p⟩ => ps_pass.run pins s σ H E I (p _ _ _ .refl hH hE)⟩
theorem s_doc {x j pos pos'} : S' X cls ts W (.Expr (.Constant (.str x) j pos) pos') sPass := ⟨fun pins s σ H E I ⟨ρ, ε, h, hH, hE, p⟩ => ps_doc.run pins s σ H E I (p _ _ _ .refl hH hE)⟩
theorem s_brk : S' X cls ts W (.Break pos) sBrk := ⟨fun pins s σ H E I ⟨ρ, ε, h, hH, hE, p⟩ => ps_break.run pins s σ H E I (p _ _ _ .refl hH hE)⟩
theorem s_cnt : S' X cls ts W (.Continue pos) sCnt := ⟨fun pins s σ H E I ⟨ρ, ε, h, hH, hE, p⟩ => ps_continue.run pins s σ H E I (p _ _ _ .refl hH hE)⟩
theorem s_expr (he : E' X cls ts W e F) (hs : swapsWith e none pos.line X.env = pure false := by rfl) : S' X cls ts W (.Expr e pos) (sExpr F) :=
  ⟨fun pins s σ H E I ⟨ρ, ε, h, hH, hE, p⟩ => (ps_expr he hs).run pins s σ H E I (tS_bind hH hE p fun ρ1 H1 x h1 dx _ e1 hH1 rx hE1 p1 => p1 _ _ _ .refl hH1 hE1)⟩
theorem s_ret (he : E' X cls ts W e F) : S' X cls ts W (.Return (some e) pos) (sRet F) :=
  ⟨fun pins s σ H E I ⟨ρ, ε, h, hH, hE, p⟩ => (ps_ret he).run pins s σ H E I (tS_bind hH hE p fun ρ1 H1 x h1 dx _ e1 hH1 rx hE1 p1 => p1 _ _ _ .refl hH1 rx)⟩
theorem s_retN : S' X cls ts W (.Return none pos) sRetN := ⟨fun pins s σ H E I ⟨ρ, ε, h, hH, hE, p⟩ => ps_retN.run pins s σ H E I (p _ _ _ .refl hH .non)⟩
theorem s_set {i : Nat} {x : Str} {pos' : Pos} (hN : X.N.Nodup) (hi : X.N[i]? = some x) (hx : Loc X.env.scope x) (he : E' X cls ts W e F) (hs : swapsWith e (some (.Name x pos')) pos.line X.env = pure false := by rfl)
    (hf : X.fn x = true ∨ X.env.scope.names.lookup x = some .local := by first | exact .inl rfl | exact .inr rfl | assumption) : S' X cls ts W (.Assign [.Name x pos'] e pos) (sSet i F) := by
  refine ⟨fun pins s σ H E I ⟨ρ, ε, h, hH, hE, p⟩ => (ps_set hN hi hx he hs hf).run pins s σ H E I (tS_bind hH hE p fun ρ1 H1 x h1 dx _ e1 hH1 rx hE1 p1 => ?_)⟩
  split at p1 <;> first | exact p1.elim | skip
  exact p1 _ _ _ .refl hH1 (hE1.set rx)
theorem s_asg {tg : Expr} {sl : List Nat} {g : TF'} (he : E' X cls ts W e F) (hg : G' X cls ts tg sl g) (hs : swapsWithSole [tg] e pos.line X.env = pure false := by rfl) (hw : swappedStores [tg] e X.env = pure none := by rfl)
    (h1 : (assignEach [tg] X.env).map (·.2) = [assign tg X.env] := by rfl) : S' X cls ts W (.Assign [tg] e pos) (sAsg F g) := by
  refine ⟨fun pins s σ H E I ⟨ρ, ε, h, hH, hE, p⟩ => (ps_asg he hg hs hw h1).run pins s σ H E I (tS_bind hH hE p fun ρ1 H1 x h1 dx _ e1 hH1 rx hE1 p1 => ?_)⟩
  split at p1 <;> first | exact p1.elim | skip
  rename_i ε1 q
  exact ⟨ρ1, ε, h1, dx, ε1, hH1, hE1, rx, q, fun σ' hE' _ => p1 _ _ _ .refl hH1 hE'⟩
theorem s_if (hc : T' X cls ts W c Ta) (ha : Ss' X cls ts W body S1) (hb : Ss' X cls ts W orelse S2) : S' X cls ts W (.If c body orelse pos) (sIf Ta S1 S2) := by
  refine ⟨fun pins s σ H E I ⟨ρ, ε, h, hH, hE, p⟩ => (ps_if hc ha hb).run pins s σ H E I (tS_bind hH hE p fun ρ1 H1 x h1 dx _ e1 hH1 rx hE1 p1 => ?_)⟩
  cases rx
  cases x with
  | true => exact ⟨_, _, _, hH1, hE1, p1⟩
  | false => exact ⟨_, _, _, hH1, hE1, p1⟩
theorem s_put {o i : Expr} {tpos : Pos} {Fo Fi : EF} (he : E' X cls ts W e F) (ho : E' X cls ts W o Fo) (hi : E' X cls ts W i Fi)
    (ha : ∀ v, assign (.Subscript o i tpos) X.env v = (do let a ← holding [v] (eval o X.env); let b ← holding [v, a] (eval i X.env); standAt tpos; holding [v, a, b] (setItem a b v); release [v, a, b] []) := by intro _; rfl)
    (hs : swapsWithSole [.Subscript o i tpos] e pos.line X.env = pure false := by rfl) (hw : swappedStores [.Subscript o i tpos] e X.env = pure none := by rfl)
    (h1 : (assignEach [.Subscript o i tpos] X.env).map (·.2) = [assign (.Subscript o i tpos) X.env] := by rfl) : S' X cls ts W (.Assign [.Subscript o i tpos] e pos) (sPut F Fo Fi) := by
  refine ⟨fun pins s σ H E I ⟨ρ, ε, h, hH, hE, p⟩ => (ps_asg he (pg_sub ho hi set_list ha) hs hw h1).run pins s σ H E I (tS_bind hH hE p fun ρ1 H1 x h1 dx _ e1 hH1 rx hE1 p1 =>
    tS_bind hH1 hE1 p1 fun ρ2 H2 y h2 dy _ e2 hH2 ry hE2 p2 => tS_bind hH2 hE2 p2 fun ρ3 H3 z h3 dz _ e3 hH3 rz hE3 p3 => ?_)⟩
  split at p3 <;> first | exact p3.elim | skip
  rename_i h4 q
  unfold putL at q
  split at q <;> first | (cases q; done) | skip
  split at q <;> first | (cases q; done) | skip
  rename_i xs e4
  split at q <;> cases q
  rename_i j ej
  cases rz
  cases ry with
  | ref q1 =>
    have q1 := e3.get q1
    obtain ⟨us, k1, r1⟩ := hH3.lst q1 e4
    have rx := rx.mono (e2.trans e3)
    have eP := ext_put (u := .lst (us.set j x)) (List.mem_of_getElem? q1) hH3
    refine ⟨_, us, _, j, rfl, rfl, k1, by rw [r1.length]; exact ej, p3 _ _ _ eP (hH3.put q1 ⟨_, upd_same, (RVs.set rx j r1).mono eP⟩) (hE3.mono eP)⟩
theorem s_par2 {i j : Nat} {x y : Str} {px py pt : Pos} {kt k2 pt2} (hc : X.calm = true) (hN : X.N.Nodup) (hi : X.N[i]? = some x) (hj : X.N[j]? = some y) (hij : i ≠ j)
    (hx : X.env.scope.names.lookup x = some .local) (hy : X.env.scope.names.lookup y = some .local) (ha : E' X cls ts W a Fa) (hb : E' X cls ts W b Fb)
    (hw : swappedStores [.Tuple [.Name x px, .Name y py] kt pt] (.Tuple [a, b] k2 pt2) X.env = pure (some [x, y])) (hs : swapsWithSole [.Tuple [.Name x px, .Name y py] kt pt] (.Tuple [a, b] k2 pt2) pos.line X.env = pure false := by rfl)
    (h1 : starEach [a, b] X.env = (false, eval a X.env) :: starEach [b] X.env := by rfl) (h2 : starEach [b] X.env = (false, eval b X.env) :: starEach [] X.env := by rfl) :
    S' X cls ts W (.Assign [.Tuple [.Name x px, .Name y py] kt pt] (.Tuple [a, b] k2 pt2) pos) (sPar2 i j Fa Fb) := by
  refine ⟨fun pins s σ H E I ⟨ρ, ε, h, hH, hE, p⟩ => (ps_par hc hN hi hj hij hx hy (pa_cons ha (pa_cons hb pa_nil h2) h1) hw hs).run pins s σ H E I (tS_bind hH hE p fun ρ1 H1 x h1 dx _ e1 hH1 rx hE1 p1 =>
    tS_bind hH1 hE1 p1 fun ρ2 H2 y h2 dy _ e2 hH2 ry hE2 p2 => ?_)⟩
  split at p2 <;> first | exact p2.elim | skip
  exact ⟨x, y, rfl, p2 _ _ _ .refl hH2 ((hE2.set (rx.mono e2)).set ry)⟩
theorem s_par3 {i j k : Nat} {x y z : Str} {px py pz pt : Pos} {kt k2 pt2} (hc : X.calm = true) (hN : X.N.Nodup) (hi : X.N[i]? = some x) (hj : X.N[j]? = some y) (hk : X.N[k]? = some z) (hij : i ≠ j) (hik : i ≠ k) (hjk : j ≠ k)
    (hx : X.env.scope.names.lookup x = some .local) (hy : X.env.scope.names.lookup y = some .local) (hz : X.env.scope.names.lookup z = some .local) (ha : E' X cls ts W a Fa) (hb : E' X cls ts W b Fb) (hcc : E' X cls ts W c Fc)
    (hw : swappedStores [.Tuple [.Name x px, .Name y py, .Name z pz] kt pt] (.Tuple [a, b, c] k2 pt2) X.env = pure (some [x, y, z])) (hs : swapsWithSole [.Tuple [.Name x px, .Name y py, .Name z pz] kt pt] (.Tuple [a, b, c] k2 pt2) pos.line X.env = pure false := by rfl)
    (h1 : starEach [a, b, c] X.env = (false, eval a X.env) :: starEach [b, c] X.env := by rfl) (h2 : starEach [b, c] X.env = (false, eval b X.env) :: starEach [c] X.env := by rfl) (h3 : starEach [c] X.env = (false, eval c X.env) :: starEach [] X.env := by rfl) :
    S' X cls ts W (.Assign [.Tuple [.Name x px, .Name y py, .Name z pz] kt pt] (.Tuple [a, b, c] k2 pt2) pos) (sPar3 i j k Fa Fb Fc) := by
  refine ⟨fun pins s σ H E I ⟨ρ, ε, h, hH, hE, p⟩ => (ps_par3 hc hN hi hj hk hij hik hjk hx hy hz (pa_cons ha (pa_cons hb (pa_cons hcc pa_nil h3) h2) h1) hw hs).run pins s σ H E I (tS_bind hH hE p fun ρ1 H1 x h1 dx _ e1 hH1 rx hE1 p1 =>
    tS_bind hH1 hE1 p1 fun ρ2 H2 y h2 dy _ e2 hH2 ry hE2 p2 => tS_bind hH2 hE2 p2 fun ρ3 H3 z h3 dz _ e3 hH3 rz hE3 p3 => ?_)⟩
  split at p3 <;> first | exact p3.elim | skip
  exact ⟨x, y, z, rfl, p3 _ _ _ .refl hH3 (((hE3.set (rx.mono (e2.trans e3))).set (ry.mono e3)).set rz)⟩
theorem s_for {iter tg : Expr} {iF : IF} {sl : List Nat} {g : TF'} (hp : PassesOwn (model X.prog X.w) X.A X.env X.xe) (hc : X.calm = true) (hi : I' X cls ts W tg iter iF) (hg : G' X cls ts tg sl g) (hb : Ss' X cls ts W body B)
    (hs : ∀ x, foldedSetIterable iter X.env x = pure x := by intro _; rfl) : S' X cls ts W (.For tg iter body [] pos) (sFor iF g B) := by
  refine ⟨fun pins s σ H E I ⟨ρ, ε, h, hH, hE, p⟩ => (ps_for hp hc hi hg hb hs).run pins s σ H E I (tS_bind hH hE p fun ρ1 H1 J h1 it _ e1 hH1 rit hE1 p1 => ?_)⟩
  refine ⟨fun i m σ' H' => m = it.len - i ∧ i ≤ it.len ∧ ∃ ρ2 ε2 h2, Ext ts ρ1 ρ2 H1 H' ∧ RH X.K cls ts ρ2 H' h2 ∧ RE X.K ρ2 H' σ' ε2 ∧ PostS X.K cls ts W ρ2 H' (forGo it g B m i ε2 h2) E,
    ⟨it.len, by simp, Nat.zero_le _, _, _, _, .refl, hH1, hE1, p1⟩, ?_⟩
  rintro i m σ' H' ⟨em, hi', ρ2, ε2, h2, e2, hH2, hE2, q⟩
  by_cases hlt : i < it.len
  · obtain ⟨k, rfl⟩ : ∃ k, m = k + 1 := ⟨m - 1, by omega⟩
    simp only [forGo] at q
    split at q <;> first | exact q.elim | skip
    rename_i d qi
    obtain ⟨go, yl⟩ := rit.go ρ2 H' h2 i d e2 hH2 hlt qi
    refine .inr ⟨go, fun σ3 H3 => ∃ ρ3 ε3 h3, Ext ts ρ1 ρ3 H1 H3 ∧ RH X.K cls ts ρ3 H3 h3 ∧ RE X.K ρ3 H3 σ3 ε3 ∧ PostS X.K cls ts W ρ3 H3 (forGo it g B k (i + 1) ε3 h3) E, fun σ3 H3 z => ⟨k, by omega, by omega, by omega, z⟩, fun x H'' y => ?_⟩
    obtain ⟨e3, hH3, rx⟩ := yl x H'' y
    have q := q.ext e3
    split at q <;> first | exact q.elim | skip
    rename_i ε1 qg
    refine ⟨ρ2, ε2, h2, d, ε1, hH3, hE2.mono e3, rx, qg, fun σ4 hE4 _ => ⟨ρ2, ε1, h2, hH3, hE4, ?_⟩⟩
    cases z : B ε1 h2 with
    | nx ε5 h5 =>
      rw [z] at q
      exact fun ρ' H5 σ5 e5 hH5 hE5 => ⟨ρ', ε5, h5, e2.trans (e3.trans e5), hH5, hE5, q.ext e5⟩
    | cnt ε5 h5 =>
      rw [z] at q
      exact fun ρ' H5 σ5 e5 hH5 hE5 => ⟨ρ', ε5, h5, e2.trans (e3.trans e5), hH5, hE5, q.ext e5⟩
    | _ =>
      rw [z] at q
      exact q
  · have ei : i = it.len := by omega
    subst ei
    have em0 : m = 0 := by omega
    subst em0
    simp only [forGo] at q
    split at q <;> first | exact q.elim | skip
    rename_i c
    exact .inl ⟨rit.stop ρ2 H' h2 e2 hH2 c, q _ _ _ .refl hH2 hE2⟩
theorem s_while {fuel : Nat} (hp : PassesOwn (model X.prog X.w) X.A X.env X.xe) (hc : T' X cls ts W c Ta) (hb : Ss' X cls ts W body B) : S' X cls ts W (.While c body [] pos) (sWhile fuel Ta B) := by
  refine ⟨fun pins s σ H E I ⟨ρ, ε, h, hH, hE, p⟩ => (ps_while hp hc hb).run pins s σ H E I ?_⟩
  refine ⟨fun m σ' H' => ∃ ρ2 ε2 h2, RH X.K cls ts ρ2 H' h2 ∧ RE X.K ρ2 H' σ' ε2 ∧ PostS X.K cls ts W ρ2 H' (whileGo Ta B m ε2 h2) E, ⟨fuel, ρ, ε, h, hH, hE, p⟩, ?_⟩
  rintro m σ' H' ⟨ρ2, ε2, h2, hH2, hE2, q⟩
  cases m with
  | zero => exact q.elim
  | succ m =>
    simp only [whileGo] at q
    refine tS_bind hH2 hE2 q fun ρ3 H3 b h3 b' _ e3 hH3 rb hE3 q3 => ?_
    cases rb
    cases b with
    | false => exact iteF (q3 _ _ _ .refl hH3 hE3)
    | true =>
      rw [if_pos rfl] at q3
      refine iteT ⟨fun σ4 H4 => ∃ ρ4 ε4 h4, RH X.K cls ts ρ4 H4 h4 ∧ RE X.K ρ4 H4 σ4 ε4 ∧ PostS X.K cls ts W ρ4 H4 (whileGo Ta B m ε4 h4) E, fun σ4 H4 z => ⟨m, Nat.lt_succ_self _, z⟩, ρ3, ε2, h3, hH3, hE3, ?_⟩
      cases z : B ε2 h3 with
      | nx ε5 h5 =>
        rw [z] at q3
        exact fun ρ' H5 σ5 e5 hH5 hE5 => ⟨ρ', ε5, h5, hH5, hE5, q3.ext e5⟩
      | cnt ε5 h5 =>
        rw [z] at q3
        exact fun ρ' H5 σ5 e5 hH5 hE5 => ⟨ρ', ε5, h5, hH5, hE5, q3.ext e5⟩
      | _ =>
        rw [z] at q3
        exact q3
theorem s_setLc {i : Nat} {y : Str} {py : Pos} {elt tg iter : Expr} {ifs : List Expr} {scope : Scope} {own : List (Str × Nat)} {pos spos : Pos} {iF : IF} {g : TF'} {t : TF} {F : EF} {sl : List Nat}
    (hc : X.calm = true) (hN : X.N.Nodup) (hy : X.N[i]? = some y) (hyl : X.env.scope.names.lookup y = some .local)
    (hsw : swapsWith (.ListComp elt [⟨tg, iter, ifs, 0⟩] scope pos) (some (.Name y py)) spos.line X.env = pure true) (hi : I' X cls ts W tg iter iF) (ok : BlkOk X.N X.env.scope scope own) (hsl : ∀ i ∈ sl, i ∈ own.map (·.2))
    (hg : ∀ (s : Shared) (H : Hp) (C : Addr) (cl : List (Str × Addr)) (fp : List Addr), G' (X.blk s H scope (compEnvC scope cl C X.env) fp) cls ts tg sl g)
    (ht : ∀ (s : Shared) (H : Hp) (C : Addr) (cl : List (Str × Addr)) (fp : List Addr), Ts' (X.blk s H scope (compEnvC scope cl C X.env) fp) cls ts W0 ifs t)
    (he : ∀ (s : Shared) (H : Hp) (C : Addr) (cl : List (Str × Addr)) (fp : List Addr), E' (X.blk s H scope (compEnvC scope cl C X.env) fp) cls ts W0 elt F) (hs : ∀ x, foldedSetIterable iter X.env x = pure x := by intro _; rfl) :
    S' X cls ts W (.Assign [.Name y py] (.ListComp elt [⟨tg, iter, ifs, 0⟩] scope pos) spos) (sSet i (cComp iF g t F (own.map (·.2)))) := by
  refine ⟨fun pins s σ H E I ⟨ρ, ε, h, hH, hE, p⟩ => (ps_setLc (g := tTg X.K cls ts sl g) (tt := tT X.K cls ts W0 t) (te := tE X.K cls ts W0 F) hc hN hy hyl hsw hi ok hg ht he hs).run pins s σ H E I ?_⟩
  show tLc _ _ _ _ _ σ H (fun x H1 => gName i x σ H1 E.nx)
  refine comp_ok hsl (tS_bind hH hE p fun ρ1 H1 x h1 dx _ e1 hH1 rx hE1 p1 => ?_)
  split at p1 <;> first | exact p1.elim | skip
  exact p1 _ _ _ .refl hH1 (hE1.set rx)
end
end Mi

namespace Mi
open L2 PySem PySem.Spec PyProof.Rows

/-! ### defs -/
/-- what a def does with its arguments -/
abbrev FN := List D → AH → Res D
def cFn (c : FN) (A : AF) : EF := fun ε h => (A ε h).bind c
def cFnK (c : FN) (g : List D → List D → List D) (A B : AF) : EF := fun ε h => (A ε h).bind fun ds h1 => (B ε h1).bind fun es h2 => c (g ds es) h2
/-- a def, run where no guard is on -/
structure FnG (P : Program) (w : World) (K : PySem.W.Frag) (mg : Str → Option Value) (base : Heap) (cls ts : List Addr) (k : Nat) (f : Addr) (fd : FuncData) (ps : List Str) (c : FN) : Prop where
  len : ∀ ds h, c ds h ≠ .stuck → ds.length = ps.length
  run : ∀ (A : Around) (outer : List Env) (s : Shared) (H : Hp) (args : Args) (us : List Value) (vs : List V) (Q : VK) (E : XK), A.guards = some [] → Room k A → Env0 P w K mg base A outer s H → BindsTo s fd args (ps.zip us) → Vals vs us →
    (∃ ρ h ds, RH K cls ts ρ H h ∧ RVs K ρ H vs ds ∧ Post K cls ts (relD K) E ρ H (c ds h) Q) → codeAny (model P w) A (.call (.ref f) args) (CR (L2.CX P w) outer P w H s Q E) s
theorem Post.not_stuck {α β : Type} {K : PySem.W.Frag} {cls ts ρ : List Addr} {H : Hp} {rel : List Addr → Hp → β → α → Prop} {W : XK} {r : Res α} {Q : β → Hp → Prop} (p : Post K cls ts rel W ρ H r Q) : r ≠ .stuck := fun e => by
  rw [e] at p
  exact p
/-- what nothing is known of -/
theorem FnG.zero {P : Program} {w : World} {K : PySem.W.Frag} {mg : Str → Option Value} {base : Heap} {cls ts : List Addr} {k : Nat} {f : Addr} {fd : FuncData} {ps : List Str} : FnG P w K mg base cls ts k f fd ps (fun _ _ => .stuck) :=
  ⟨fun _ _ h => absurd rfl h, fun _ _ _ _ _ _ _ _ _ _ _ _ _ _ ⟨_, _, _, _, _, p⟩ => p.elim⟩
theorem FnG.mono {P : Program} {w : World} {K : PySem.W.Frag} {mg : Str → Option Value} {base : Heap} {cls ts : List Addr} {j k : Nat} {f : Addr} {fd : FuncData} {ps : List Str} {c : FN} (F : FnG P w K mg base cls ts j f fd ps c) (h : j ≤ k) : FnG P w K mg base cls ts k f fd ps c :=
  ⟨F.len, fun A outer s H args us vs Q E hg hr => F.run A outer s H args us vs Q E hg (hr.mono h)⟩

section
variable {X : Cx} {W : WX} {cls ts : List Addr} {k : Nat} {f : Addr} {fd : FuncData} {ps ks : List Str} {c : FN} {x : Str} {p pos : Pos} {e : Expr} {es : List Expr} {kws : List Keyword} {A B : AF}
theorem run_g {pins : List (Addr × Obj)} {s : Shared} {σ : L2.St} {H : Hp} {Q : VK} {us : List Value} {kw : List (Str × Value)} {zs : List Value} {vs : List V} {ρ : List Addr} {h : AH} {ds : List D} (F : FnG X.prog X.w X.K X.mg X.base cls ts k f fd ps c) (hg : X.A.guards = some []) (hr : Room k X.A) (tk : Takes X W)
    (hb : zs.length = ps.length → BindsTo s fd ⟨us, kw⟩ (ps.zip zs)) (I : Inv X pins σ H s) (r : Vals vs zs) (hH : RH X.K cls ts ρ H h) (rv : RVs X.K ρ H vs ds) (q : Post X.K cls ts (relD X.K) (fun c dd H' => W c dd σ H') ρ H (c ds h) Q) :
    wpAny (model X.prog X.w) X.A (call (.ref f) us kw) (EP X pins σ Q) X.xe s := by
  have hl : zs.length = ps.length := by rw [← r.length, rv.length]; exact F.len _ _ q.not_stuck
  refine wpAny_call (codeAny_mono (F.run X.A X.stack s H ⟨us, kw⟩ zs vs Q (fun c dd H' => W c dd σ H') hg hr I.env0 (hb hl) r ⟨ρ, h, ds, hH, rv, q⟩) fun o s' z => ?_)
  cases o with
  | error u => exact tk u s' (XE.of_call I (fun _ _ _ y => y) z)
  | ok fl => cases fl <;> first | exact I.after z | exact z.elim
/-- the arguments are there, what is behind is wanted -/
def Rdy (K : PySem.W.Frag) (cls ts : List Addr) (c : FN) (W : XK) (Q : VK) (vs : List V) (H : Hp) : Prop := ∃ ρ h ds, RH K cls ts ρ H h ∧ RVs K ρ H vs ds ∧ Post K cls ts (relD K) W ρ H (c ds h) Q
/-- f(e, ..) -/
theorem e_call (F : FnG X.prog X.w X.K X.mg X.base cls ts k f fd ps c) (hgu : X.A.guards = some []) (hr : Room k X.A) (tk : Takes X W) (hg : Gl X x) (hm : X.mg x = some (.ref f)) (hk : PySem.W.keepIn X.K (.ref f) = true) (hb : Binds X.K fd ps [])
    (ha : A' X cls ts W (e :: es) A) (hdb : (x == ("__debug__" : Str)) = false := by decide) (he : starEach (e :: es) X.env = (false, eval e X.env) :: starEach es X.env := by rfl) (hpl : (backTo pos (starEach es X.env)).any (·.1) = false := by rfl) :
    E' X cls ts W (.Call (.Name x p) (e :: es) [] pos) (cFn c A) := by
  refine ⟨fun pins s σ H Q I ⟨ρ, ε, h, hH, hE, q⟩ => ?_⟩
  have q1 : tA X.K cls ts W A σ H (Rdy X.K cls ts c (fun u dd H' => W u dd σ H') Q) := tG_bind hH hE q fun ρ1 H1 vs h1 ds _ e1 hH1 rv hE1 p1 => ⟨ρ1, h1, ds, hH1, rv, p1⟩
  refine wpAny_Call_Name_kw (ld_glob I hg hm ?go hdb)
  refine PySem.W.callWith_K (h₀ := X.base) I.ok.mod.kin hk (thn (ha.run pos pins s σ H _ I q1) fun us s1 ⟨vs, H1, I1, r, ρ1, h1, ds, hH1, rv, p1⟩ => ⟨I1.kIn, ?_⟩) he hpl
  exact run_g F hgu hr tk (fun hl => by have z := hb s1 us I1.kIn (by rw [List.append_nil]; exact hl); rw [List.append_nil] at z; exact z) I1 r hH1 rv p1
/-- f() -/
theorem e_call0 (F : FnG X.prog X.w X.K X.mg X.base cls ts k f fd ps c) (hgu : X.A.guards = some []) (hr : Room k X.A) (tk : Takes X W) (hg : Gl X x) (hm : X.mg x = some (.ref f)) (hk : PySem.W.keepIn X.K (.ref f) = true) (hb : Binds X.K fd ps [])
    (hdb : (x == ("__debug__" : Str)) = false := by decide) : E' X cls ts W (.Call (.Name x p) [] [] pos) (cFn c aNil) := by
  refine ⟨fun pins s σ H Q I ⟨ρ, ε, h, hH, hE, q⟩ => ?_⟩
  refine wpAny_Call_Name_kw (ld_glob I hg hm ?go hdb)
  exact PySem.W.callWith_K0 I.kIn hk (run_g (us := []) (zs := []) F hgu hr tk (fun hl => hb s [] I.kIn hl) I .nil hH .nil q)
/-- f(k = e, ..) and f(e, .., k = e) -/
theorem e_callK {g : List Value → List Value → List Value} {gV : List V → List V → List V} {gD : List D → List D → List D} {tk : TA} (F : FnG X.prog X.w X.K X.mg X.base cls ts k f fd ps c) (hgu : X.A.guards = some []) (hr : Room k X.A) (tx : Takes X W) (hg : Gl X x) (hm : X.mg x = some (.ref f))
    (hk : PySem.W.keepIn X.K (.ref f) = true) (hb : KBinds X.K fd ps ks g gV) (hgD : ∀ (ρ : List Addr) (H : Hp) (vs zs : List V) (ds es : List D), RVs X.K ρ H vs ds → RVs X.K ρ H zs es → RVs X.K ρ H (gV vs zs) (gD ds es))
    (ha : A' X cls ts W (e :: es) A) (hkw : PK X kws (tA X.K cls ts W B)) (hall : (backToKw pos (keywordEach kws X.env)).all (·.1.isSome) = true := by rfl) (hks : (backToKw pos (keywordEach kws X.env)).filterMap (·.1) = ks := by rfl)
    (hdb : (x == ("__debug__" : Str)) = false := by decide) (he : starEach (e :: es) X.env = (false, eval e X.env) :: starEach es X.env := by rfl) (hpl : ((backTo pos (starEach (e :: es) X.env)).any (·.1) || (backToKw pos (keywordEach kws X.env)).any (·.1.isNone)) = false := by rfl) :
    E' X cls ts W (.Call (.Name x p) (e :: es) kws pos) (cFnK c gD A B) := by
  refine ⟨fun pins s σ H Q I ⟨ρ, ε, h, hH, hE, q⟩ => ?_⟩
  have q1 : tA X.K cls ts W A σ H fun vs H1 => tA X.K cls ts W B σ H1 fun zs H2 => Rdy X.K cls ts c (fun u dd H' => W u dd σ H') Q (gV vs zs) H2 := tG_bind hH hE q fun ρ1 H1 vs h1 ds _ e1 hH1 rv hE1 p1 =>
    tG_bind hH1 hE1 p1 fun ρ2 H2 zs h2 es _ e2 hH2 rz hE2 p2 => ⟨ρ2, h2, gD ds es, hH2, hgD _ _ _ _ _ _ (rv.mono e2) rz, p2⟩
  refine wpAny_Call_Name_kw (ld_glob I hg hm ?go hdb)
  refine PySem.W.callWith_KW (h₀ := X.base) I.ok.mod.kin hk hall (thn (ha.run pos pins s σ H _ I q1) fun us s1 ⟨vs, H1, I1, r, y⟩ => ?_) hpl he
  refine thn (hkw.run pos pins s1 σ H1 _ I1 y) fun ws s2 ⟨zs, H2, I2, rz, ρ2, h2, ds, hH2, rv, p2⟩ => ⟨I2.kIn, ?_⟩
  rw [hks]
  exact run_g F hgu hr tx (fun hl => hb.to s2 us ws I2.kIn hl) I2 (hb.rel r rz) hH2 rv p2
theorem k_nil : PK X [] (tA X.K cls ts W aNil) := ⟨fun pos pins s σ H Q I ⟨ρ, ε, h, hH, hE, q⟩ => (pk_nil (X := X)).run pos pins s σ H Q I (q _ _ _ .refl hH .nil)⟩
theorem k_cons {nm : Option Str} {kpos : Pos} {F : EF} (ha : E' X cls ts W e F) (hr : PK X kws (tA X.K cls ts W A)) : PK X (⟨nm, e, kpos⟩ :: kws) (tA X.K cls ts W (aCons F A)) :=
  ⟨fun pos pins s σ H Q I ⟨ρ, ε, h, hH, hE, q⟩ => (pk_cons ha hr).run pos pins s σ H Q I (tG_bind hH hE q fun ρ1 H1 x h1 dx _ e1 hH1 rx hE1 p1 => tG_bind hH1 hE1 p1 fun ρ2 H2 y h2 dy _ e2 hH2 ry hE2 p2 => p2 _ _ _ .refl hH2 (.cons (rx.mono e2) ry))⟩
end

/-- a def's body, run at its arguments -/
def runB (np nN : Nat) (B : SF) : FN := fun ds h => if ds.length = np then match B (ds.map some ++ List.replicate (nN - np) none) h with
    | .nx _ h' => .ok .non h'
    | .ret d h' => .ok d h'
    | .exc x _ h' => .exc x h'
    | _ => .stuck
  else .stuck
theorem RE.start {K : PySem.W.Frag} {ρ : List Addr} {H : Hp} {N : List Str} {vs : List V} {ds : List D} {np : Nat} (r : RVs K ρ H vs ds) (hn : ds.length = np) : RE K ρ H (L2.start N vs) (ds.map some ++ List.replicate (N.length - np) none) := by
  subst hn
  unfold L2.start
  refine ⟨by rw [List.length_append, List.length_append, List.length_map, List.length_map, List.length_replicate, List.length_replicate, r.length], fun i d q => ?_⟩
  by_cases hi : i < ds.length
  · rw [List.getElem?_append_left (by rw [List.length_map]; exact hi), List.getElem?_map] at q
    cases z : ds[i]? with
    | none => rw [z] at q; cases q
    | some d' =>
      rw [z] at q
      cases q
      obtain ⟨v, e, rv⟩ := r.get z
      refine ⟨v, ?_, rv⟩
      rw [List.getElem?_append_left (by rw [List.length_map, r.length]; exact hi), List.getElem?_map, e]
      rfl
  · rw [List.getElem?_append_right (by rw [List.length_map]; omega), List.getElem?_replicate] at q
    split at q <;> cases q
/-- a def by its body -/
theorem FnG.of {P : Program} {w : World} {K : PySem.W.Frag} {mg : Str → Option Value} {base : Heap} {cls ts : List Addr} {k : Nat} {f : Addr} {name qual : Str} {params : Arguments} {body : List Stmt} {scope : Scope} {dV kV doc pm cdv ct oc : Value} {an od : Option Addr}
    {osl : Array (Option Value)} {N ps : List Str} {B : SF} (lk : K.lookup f = some ⟨oc, od, .func (PySem.W.fnOf name qual params body scope dV kV doc pm an cdv ct), osl⟩) (hcd : PySem.W.codeIn K cdv qual = true) (S : FnScope N ps scope)
    (hbody : ∀ (A : Around) (outer : List Env) (s : Shared) (H : Hp) (E : XK), (A.deeper (envOfC qual scope s.heap.objs.size f cdv)).guards = some [] → Room k (A.deeper (envOfC qual scope s.heap.objs.size f cdv)) →
      Takes (cxOf (L2.CX P w) P w K mg base N qual scope f cdv A outer s H E) (fun c d _ H => E c d H) → Ss' (cxOf (L2.CX P w) P w K mg base N qual scope f cdv A outer s H E) cls ts (fun c d _ H => E c d H) body B) :
    FnG P w K mg base cls ts (k + 1) f (PySem.W.fnOf name qual params body scope dV kV doc pm an cdv ct) ps (runB ps.length N.length B) := by
  refine ⟨fun ds h q => ?_, fun A outer s H args us vs Q E hg hr e0 hb r ⟨ρ, h, ds, hH, rv, p⟩ => ?_⟩
  · unfold runB at q
    split at q
    · rename_i e
      exact e
    · exact absurd rfl q
  · unfold runB at p
    split at p
    · rename_i hl
      have bk : ∀ b o, base.get? b = some o → s.heap.get? b = some o := fun b o e => (e0.bs b o e).1
      have KX := e0.mod.kin.keeps bk
      have hkind : ∀ y ∈ ps.zip us, scope.names.lookup y.1 = some .local ∨ (scope.names.lookup y.1 = some .cell ∧ ((cellsFrom (s.heap.objs.size + 1) scope.names []).lookup y.1).isSome = true) := by
        rintro ⟨n, v⟩ hy
        exact (S.par n (List.of_mem_zip hy).1).imp id fun q => ⟨q, PySem.W.cellsFrom_some _ _ _ (.inl q)⟩
      refine codeAny_call_function hr.depth (KX _ _ lk) rfl S.co S.gen rfl (PySem.W.codeRec_of KX hcd) (hb _ _ _ _ (wpAny_newFunctionEnv_cells S.kind hkind fun _ he s1 x => ?_))
      cases he
      refine ⟨(e0.mod.nolimit.keeps bk).keeps x.toInCall.keep, codeAny_func ?_⟩
      have I := inv_start (CX := L2.CX P w) (E := E) (N := N) (qual := qual) (cd := cdv) S hr.hd e0 (by rw [rv.length]; exact hl) r x
      have tk : Takes (cxOf (L2.CX P w) P w K mg base N qual scope f cdv A outer s H E) (fun c d _ H => E c d H) := takes_of rfl rfl rfl rfl
      have q : tS K cls ts (fun c d _ H => E c d H) B { nx := fun _ H' => Q .non H', rt := Q } (L2.start N vs) H := by
        refine ⟨ρ, _, h, hH, RE.start rv hl, ?_⟩
        cases z : B (ds.map some ++ List.replicate (N.length - ps.length) none) h with
        | nx ε h' =>
          rw [z] at p
          exact fun ρ' H' σ' e1 hH1 _ => p ρ' H' .non e1 hH1 .non
        | ret d h' =>
          rw [z] at p
          exact p
        | exc y ε h' =>
          rw [z] at p
          exact fun ρ' H' σ' c dd e1 hH1 _ rx => p ρ' H' c dd e1 hH1 rx
        | _ =>
          rw [z] at p
          exact p.elim
      refine wpAny_mono ((hbody A outer s H E hg (hr.deeper _) tk).run [] s1 _ H _ I q) (fun fl s' hs => ?_) fun u s' hs => hs
      have fin : ∀ {σ' : L2.St} {H' : Hp} {v : V} {u : Value}, Inv (cxOf (L2.CX P w) P w K mg base N qual scope f cdv A outer s H E) [] σ' H' s' → RelV v u → Q v H' → CE outer P w H s Q u s' :=
        fun {_ H' v _} J rv q => ⟨v, H', J.os, J.bare, J.base, J.hok, rv, q⟩
      cases fl with
      | ret u =>
        obtain ⟨v, σ2, H2, J, r2, q⟩ := hs
        exact fin J r2 q
      | next =>
        obtain ⟨σ', H', J, q⟩ := hs
        exact fin (u := Value.none) (v := .non) J rfl q
      | brk =>
        obtain ⟨_, _, _, q⟩ := hs
        exact q.elim
      | cont =>
        obtain ⟨_, _, _, q⟩ := hs
        exact q.elim
    · exact p.elim
end Mi

namespace Mi
open L2 PySem PySem.Spec PyProof.Rows

/-! ### all(a <= x <= b for x in text) -/
theorem elt_between {prog : Program} {w : World} {scope : Scope} {x a b : Str} {ja jb : Nat} {p1 p2 p3 p4 : Pos} (hk : scope.kind = .function) (hl : scope.names.lookup x = some .local) (hd : (x == ("__debug__" : Str)) = false := by decide)
    (hm : lastMarks [.LtE, .LtE] [.Name x p1, .Constant (.str b) jb p2] = false := by with_unfolding_all rfl) :
    GxR.EltP prog w scope x (.Compare (.Constant (.str a) ja p3) [.LtE, .LtE] [.Name x p1, .Constant (.str b) jb p2] p4) (fun c => !decide ([c] < a.cps.toList) && !decide (b.cps.toList < [c])) := by
  intro cenv A' E' c t s₂ m₂ hs hn hx
  refine Compare_chain (Calls.Constant_str ?_) hm
  refine chain_link (wpAny_Name (wpAny_loadName_local (by rw [hs]; exact hk) (show cenv.scope.names.lookup x = some .local by rw [hs]; exact hl) (hn.keeps fun _ _ e => e) hx ?_) hd)
  refine PySem.P.le_str (wpAny_truthy_bool ?_)
  show if (!decide (([c] : List Nat) < a.cps.toList)) = true then _ else _
  cases q : decide (([c] : List Nat) < a.cps.toList) with
  | true => exact ite_ff ⟨by show Value.bool (!true) = Value.bool (!decide (([c] : List Nat) < a.cps.toList) && _); rw [q]; rfl, GxR.keeps_tok _ _⟩
  | false =>
    refine ite_tt (chain_last (Calls.Constant_str (PySem.P.le_str ⟨?_, GxR.keeps_tok _ _⟩)))
    show Value.bool (!decide (b.cps.toList < ([c] : List Nat))) = Value.bool (!decide (([c] : List Nat) < a.cps.toList) && _)
    rw [q]
    rfl

/-! ### all(test for x in text) -/
def cAllS (pb : Nat → Bool) (F : EF) : EF := fun ε h => (F ε h).bind fun d h1 => match d with
  | .str a => .ok (.bl (a.cps.toList.all pb)) h1
  | _ => .stuck
section
variable {X : Cx} {W : WX} {cls ts ρ : List Addr} {K : PySem.W.Frag} {H H' : Hp} {h : AH} {P : Addr}
/-- a table has grown -/
theorem tabbed_ext (r : RH K cls ts ρ H h) (hP : P ∈ ts) (t : GxR.Tabbed P H H') : Ext ts ρ ρ H H' ∧ RH K cls ts ρ H' h := by
  obtain ⟨n0, ps, hp, _⟩ := r.tab P hP
  have e : Ext ts ρ ρ H H' := by
    refine ⟨List.prefix_refl _, fun _ h n => absurd h n, fun a o e _ n => ?_, fun a xs e => ?_, fun a o u e => ?_, fun a e => ?_⟩
    · rw [t.2 a fun z => n (by rw [z]; exact hP)]; exact e
    · rw [t.2 a fun z => by rw [z, hp] at e; cases e]; exact e
    · rw [t.2 a fun z => by rw [z, hp] at e; cases e]; exact e
    · by_cases z : a = P
      · obtain ⟨qs, y, _⟩ := t.1
        rw [z, y] at e
        cases e
      · rw [t.2 a z] at e
        exact e
  refine ⟨e, r.len, r.nd, fun n a o q1 q2 => (r.obj n a o q1 q2).mono e fun u y => ?_, fun Z hZ => ⟨(r.tab Z hZ).1, ?_⟩, r.sm.1, ?_⟩
  · rw [t.2 a fun z => n0 (by rw [← z]; exact List.mem_of_getElem? q1)]; exact y
  · by_cases z : Z = P
    · rw [z]; exact t.1
    · obtain ⟨_, qs, y, k⟩ := r.tab Z hZ
      exact ⟨qs, by rw [t.2 Z z]; exact y, k⟩
  · obtain ⟨_, φ, y⟩ := r.sm
    exact ⟨φ, by rw [t.2 _ fun z => by rw [z, hp] at y; cases y]; exact y⟩
theorem e_allS {c : Addr} {elt iter : Expr} {x : Str} {px p pos gpos : Pos} {scope : Scope} {pb : Nat → Bool} {F : EF} {k : Nat} (hr : Room k X.A) (hg : Gl X "all") (hm : X.mg "all" = none) (TB : GxR.TabB X.base X.mg c P) (hcode : X.env.code = .ref c) (hP : P ∈ ts)
    (S : GxR.GenS X.env scope x) (hi : E' X cls ts W iter F) (hel : GxR.EltP X.prog X.w scope x elt pb) (hs : ∀ v, genFold iter X.env v = pure v)
    (he : starEach [.GeneratorExp elt [⟨.Name x px, iter, [], 0⟩] scope gpos] X.env = (false, eval (.GeneratorExp elt [⟨.Name x px, iter, [], 0⟩] scope gpos) X.env) :: starEach [] X.env := by rfl) : E' X cls ts W (.Call (.Name "all" p) [.GeneratorExp elt [⟨.Name x px, iter, [], 0⟩] scope gpos] [] pos) (cAllS pb F) := by
  refine ⟨fun pins s σ H Q I ⟨ρ, ε, h, hH, hE, q⟩ => (GxR.pe_allS hr hg hm (by with_unfolding_all rfl) TB hcode S hi hel hs he).run pins s σ H Q I (tG_bind hH hE q fun ρ1 H1 v h1 d _ e1 hH1 rv hE1 p1 => ?_)⟩
  cases rv <;> first | exact p1.elim | skip
  rename_i _ a
  obtain ⟨_, hT⟩ := hH1.tab P hP
  refine ⟨_, rfl, hT, fun H2 t => ?_⟩
  obtain ⟨e2, hH2⟩ := tabbed_ext hH1 hP t
  exact p1 _ _ _ e2 hH2 (.bl _)
end
end Mi

namespace Mi
open L2 PySem PySem.Spec PyProof.Rows

/-! ### the end of a law: its def runs at the script -/
theorem RVs.ints {K : PySem.W.Frag} {ρ : List Addr} {H : Hp} : ∀ ns : List Int, RVs K ρ H (ns.map V.int) (ns.map D.int)
  | [] => .nil
  | n :: ns => .cons (.int n) (RVs.ints ns)
def tblO (ps : Array Value) : Obj := { cls := .none, data := .fields ps }
def lstO (vs : List Value) : Obj := { cls := .type "list", data := .seq vs.toArray }
section
variable {P : Program} {w : World} {K : PySem.W.Frag} {mg mb : Str → Option Value} {k : Nat} {fa a : Addr} {cls : List Addr} {cs : List (Addr × Addr)} {fd : FuncData} {x : Str} {c : FN} {s₁ : Shared} {vs : List Value} {ns : List Int}
/-- sys.modules stands as it is -/
def smO (o : Obj) : HO := .ext fun h => h.get? sysModules = some o
/-- what is tracked: the tables, and the script where the text doesn't hold it -/
def scrH (K : PySem.W.Frag) (T : List Addr) (o : Obj) (a : Addr) (vs : List Value) (ns : List Int) : Hp := fun b =>
  if b = sysModules then some (smO o) else if b ∈ T then some (.tbl #[]) else if b = a ∧ (K.lookup a).isNone = true then some (.frz (lstO vs) (.lst (ns.map V.int))) else none
theorem scrH_or {T : List Addr} {b : Addr} {o : Obj} {u : HO} (h : scrH K T o a vs ns b = some u) : (b ∈ T ∧ u = .tbl #[]) ∨ (b = a ∧ K.lookup a = none ∧ u = .frz (lstO vs) (.lst (ns.map V.int))) ∨ (b = sysModules ∧ u = smO o) := by
  unfold scrH at h
  split at h
  · rename_i m
    cases h
    exact .inr (.inr ⟨m, rfl⟩)
  split at h
  · rename_i m
    cases h
    exact .inl ⟨m, rfl⟩
  · split at h
    · rename_i m
      cases h
      exact .inr (.inl ⟨m.1, Option.isNone_iff_eq_none.mp m.2, rfl⟩)
    · cases h
theorem law_callG (KX : K.In s₁.heap) (hns : s₁.heap.Ns mainGlobals mg) (hb : s₁.heap.Ns builtinsNs mb) (hbb : ∀ x : Str, x ≠ "__name__" → mb x = bootBuiltins x) (hlim : s₁.heap.NoLimit) (hg : s₁.gens = #[]) (hsm : ∃ mm, s₁.heap.Ns sysModules mm) (nsm : K.lookup sysModules = none)
    (hT : ∀ p ∈ cs, s₁.heap.get? p.2 = some (tblO #[])) (nT : ∀ p ∈ cs, K.lookup p.2 = none) (C : ∀ p ∈ cs, PySem.W.CodeHd s₁.heap p.1 p.2)
    (hbm : ∃ (bm : Addr) (ob : Obj), mg "__builtins__" = some (.ref bm) ∧ bm ≠ builtinsNs ∧ s₁.heap.get? bm = some ob ∧ ob.cls = .type "module" ∧ ob.dict = some builtinsNs ∧ ob.data = .plain) (ha : s₁.heap.get? a = some (lstO vs)) (hi : IntsAre vs ns) (hl : ns.length ≤ sizeLine) (hr : Room k callerA)
    (F : ∀ base : Heap, K.In base → base.Ns mainGlobals mg → (∀ p ∈ cs, GxR.TabB base mg p.1 p.2) → FnG P w K mg base cls (cs.map (·.2)) k fa fd [x] c) (hbind : ∀ (s : Shared) (u : Value), BindsTo s fd ⟨[u], []⟩ [(x, u)])
    (hc : ∃ h', c [.rol (ns.map D.int)] [] = .ok (.bl true) h') : codeAny (model P w) callerA (.call (.ref fa) ⟨[.ref a], []⟩) (fun r s' => r = .ok (.ret (.bool true)) ∧ OldK s₁.heap s'.heap ∧ s'.os = s₁.os ∧ AllBare s'.gens) s₁ := by
  obtain ⟨mm, om, esm, epm, gm, dm, rm⟩ := hsm
  obtain ⟨H, eH⟩ : ∃ H, H = scrH K (cs.map (·.2)) om a vs ns := ⟨_, rfl⟩
  have or : ∀ {b u}, H b = some u → (b ∈ cs.map (·.2) ∧ u = .tbl #[]) ∨ (b = a ∧ K.lookup a = none ∧ u = .frz (lstO vs) (.lst (ns.map V.int))) ∨ (b = sysModules ∧ u = smO om) := fun h => by rw [eH] at h; exact scrH_or h
  have ofT : ∀ {b}, b ∈ cs.map (·.2) → ∃ p ∈ cs, b = p.2 := fun h => by
    obtain ⟨z, hz, e⟩ := List.mem_map.mp h
    exact ⟨z, hz, e.symm⟩
  have tS : ∀ p ∈ cs, p.2 ≠ sysModules := fun p hp z => by
    have y := hT p hp
    rw [z, gm] at y
    cases y
    cases dm
  have aS : a ≠ sysModules := fun z => by
    rw [z, gm] at ha
    cases ha
    cases dm
  have atT : ∀ p ∈ cs, H p.2 = some (.tbl #[]) := fun p hp => by
    rw [eH]
    unfold scrH
    rw [if_neg (tS p hp)]
    exact if_pos (List.mem_map.mpr ⟨p, hp, rfl⟩)
  have atS : H sysModules = some (smO om) := by
    rw [eH]
    exact if_pos rfl
  -- what is neither a list nor an empty table is not tracked
  have off : ∀ {b o}, s₁.heap.get? b = some o → (∀ us n, o.data ≠ .seq us n) → o.data ≠ .fields #[] → b ≠ sysModules → H b = none := fun {b o} e n1 n2 n3 => by
    cases q : H b with
    | none => rfl
    | some u =>
      rcases or q with ⟨m, _⟩ | ⟨m, _, _⟩ | ⟨m, _⟩
      rotate_left 2
      · exact absurd m n3
      · obtain ⟨p, hp, rfl⟩ := ofT m
        rw [hT p hp] at e
        cases e
        exact absurd rfl n2
      · rw [m, ha] at e
        cases e
        exact absurd rfl (n1 _ _)
  have offD : ∀ {b o es ep}, b ≠ sysModules → s₁.heap.get? b = some o → o.data = .dict es ep → H b = none := fun n e d => off e (fun _ _ z => by rw [d] at z; cases z) (fun z => by rw [d] at z; cases z) n
  have nsK : ∀ {b m}, b ≠ sysModules → s₁.heap.Ns b m → (hidT s₁.heap H).Ns b m := fun n ⟨o, es, ep, e, d, r⟩ => ⟨o, es, ep, hidT_get e (offD n e d), d, r⟩
  have nG : mainGlobals ≠ sysModules := by decide
  have nB : builtinsNs ≠ sysModules := by decide
  have nC : cStatics ≠ sysModules := by decide
  have hK : K.In (hidT s₁.heap H) := fun b o e => hidT_get (KX b o e) (by
    cases q : H b with
    | none => rfl
    | some u =>
      rcases or q with ⟨m, _⟩ | ⟨m, n, _⟩ | ⟨m, _⟩
      · obtain ⟨p, hp, rfl⟩ := ofT m
        rw [nT p hp] at e
        cases e
      · rw [m, n] at e
        cases e
      · rw [m, nsm] at e
        cases e)
  have hM : L2.Mod K mg (hidT s₁.heap H) := ⟨hK, nsK nG hns, ⟨mb, nsK nB hb, hbb⟩, by
    obtain ⟨mc, h1, h2⟩ := hlim
    exact ⟨mc, nsK nC h1, h2⟩⟩
  have TB : ∀ p ∈ cs, GxR.TabB (hidT s₁.heap H) mg p.1 p.2 := fun p hp => by
    refine ⟨?_, ?_, fun z => ?_⟩
    · obtain ⟨o, us, file, tf, flags, tg, inF, text, tt, e1, r1, r2, r3, rr⟩ := C p hp
      refine ⟨o, us, file, tf, flags, tg, inF, text, tt, hidT_get e1 (off e1 (fun _ _ z => by rw [r2] at z; cases z) (fun z => ?_) fun z => ?_), r1, r2, r3, rr⟩
      · rw [r2] at z
        cases z
        exact absurd r3 (by simp)
      · rw [z, gm] at e1
        cases e1
        rw [dm] at r2
        cases r2
    · obtain ⟨a1, ob, b1, b2, b3, b4, b5, b6⟩ := hbm
      refine ⟨a1, ob, b1, b2, fun q => ?_, fun q => ?_, hidT_get b3 (off b3 (fun _ _ z => by rw [b6] at z; cases z) (fun z => by rw [b6] at z; cases z) fun z => by rw [z, gm] at b3; cases b3; rw [dm] at b6; cases b6), b4, b5, b6⟩
      · obtain ⟨ou, es, ep, e, hd, _⟩ := hns
        rw [← q, b3] at e
        cases e
        rw [b6] at hd
        cases hd
      · rw [q, hT p hp] at b3
        cases b3
        cases b6
    · obtain ⟨ou, es, ep, e, hd, _⟩ := hns
      rw [z, hT p hp] at e
      cases e
      cases hd
  have rv := vals_ints hi
  have hok : HOk P w H s₁.heap := fun b u z => by
    rcases or z with ⟨m, rfl⟩ | ⟨rfl, _, rfl⟩ | ⟨rfl, rfl⟩
    rotate_left 2
    · exact ⟨gm, ⟨_, gm⟩, fun h1 h2 e k => k _ e⟩
    · obtain ⟨p, hp, rfl⟩ := ofT m
      exact hT p hp
    · exact ⟨ha, by rw [List.length_map]; exact hl, vs, 0, rv, ha⟩
  have hS : SqR K H a (ns.map V.int) := by
    cases q : K.lookup a with
    | some o =>
      have e := KX a o q
      rw [ha] at e
      cases e
      exact .inr ⟨_, vs.toArray, 0, q, rfl, rfl, rfl, by rw [List.size_toArray, hi.length]; exact hl, by simpa using rv⟩
    | none =>
      refine .inl ⟨lstO vs, ?_⟩
      rw [eH]
      unfold scrH
      rw [if_neg aS, if_neg, if_pos ⟨rfl, by rw [q]; rfl⟩]
      intro m
      obtain ⟨p, hp, e⟩ := ofT m
      have := hT p hp
      rw [← e, ha] at this
      cases this
  have e0 : Env0 P w K mg (hidT s₁.heap H) callerA [] s₁ H := ⟨rfl, hM, fun b o e => of_hidT e, Nat.le_of_eq (hidT_size _ _), trivial, fun b hb => (nomatch hb), hok, .of_eq hg⟩
  have hH : RH K cls (cs.map (·.2)) [] H [] := ⟨rfl, List.nodup_nil, fun n b o e _ => (nomatch e), fun b hb => by
    obtain ⟨p, hp, rfl⟩ := ofT hb
    exact ⟨List.not_mem_nil, #[], atT p hp, by simp [TriplesOk]⟩, List.not_mem_nil, _, atS⟩
  obtain ⟨h', hc⟩ := hc
  have run := (F _ hK (nsK nG hns) TB).run callerA [] s₁ H ⟨[.ref a], []⟩ [.ref a] [.ref a] (fun v H' => v = .bl true ∧ H' sysModules = some (smO om)) (fun _ _ _ => False) rfl hr e0 (hbind s₁ (.ref a)) (.cons rfl .nil) ⟨[], [], _, hH, .cons (.rol hS (RVs.ints ns)) .nil, by
    rw [hc]
    intro ρ' H' v e9 _ r
    cases r
    refine ⟨rfl, e9.keep _ _ atS List.not_mem_nil fun z => ?_⟩
    obtain ⟨p, hp, y⟩ := ofT z
    exact tS p hp y.symm⟩
  refine codeAny_mono run fun r s' z => ?_
  rcases r with e | fl
  · obtain ⟨_, _, _, _, _, _, _, _, _, _, _, _, bad⟩ := z
    exact bad.elim
  cases fl with
  | next => exact z.elim
  | brk => exact z.elim
  | cont => exact z.elim
  | ret u =>
    obtain ⟨v, H', os, bare, un, hok', r', q⟩ := z
    obtain ⟨rfl, qS⟩ := (show v = .bl true ∧ H' sysModules = some (smO om) from q)
    have r' : u = Value.bool true := r'
    subst r'
    have old : ∀ b o, s₁.heap.get? b = some o → (∃ p ∈ cs, b = p.2 ∧ ∃ more : Array Value, s'.heap.get? b = some (tblO more)) ∨ s'.heap.get? b = some o := fun b o e => by
      cases q : H b with
      | none => exact .inr (un.keep b o e q (fun z => nomatch z) (fun z => nomatch z))
      | some u =>
        rcases or q with ⟨m, rfl⟩ | ⟨rfl, _, rfl⟩ | ⟨rfl, rfl⟩
        rotate_left 2
        · have y : s'.heap.get? sysModules = some om := (hok' _ _ qS).1
          rw [gm] at e
          cases e
          exact .inr y
        · obtain ⟨p, hp, rfl⟩ := ofT m
          obtain ⟨more, y⟩ := un.tbls p.2 #[] q
          exact .inl ⟨p, hp, rfl, _, hok' p.2 _ y⟩
        · have y := un.frzs _ _ _ q
          have e1 := (hok' _ _ y).1
          rw [ha] at e
          cases e
          exact .inr e1
    refine And.intro rfl ⟨⟨fun b o e => ?_, fun b o e => ?_⟩, os, bare⟩
    · rcases old b o e with ⟨p, hp, rfl, more, y⟩ | y
      · have t := hT p hp
        rw [t] at e
        cases e
        exact .inr (.inl ⟨((C p hp).tab t).isCodeTable, rfl, #[], more, rfl, by rw [Array.empty_append]; exact y⟩)
      · exact .inl y
    · rcases old b o e with ⟨p, hp, rfl, more, y⟩ | y
      · exact ⟨_, y⟩
      · exact ⟨_, y⟩
end
/-- what is known of the law's def at the head's heap h -/
def LawG (l : PySem.W.OpenLaw) (w : World) (K : PySem.W.Frag) (k n : Nat) (x : Str) (mg : Str → Option Value) (fa : Addr) (h : Heap) : Prop :=
  ∃ (fd : FuncData) (cls : List Addr) (cs : List (Addr × Addr)) (c : FN), (∀ p ∈ cs, h.get? p.2 = some (tblO #[])) ∧ (∀ p ∈ cs, K.lookup p.2 = none) ∧ (∀ p ∈ cs, PySem.W.CodeHd h p.1 p.2) ∧ K.lookup sysModules = none ∧ (∃ mm, h.Ns sysModules mm) ∧ (∀ (s : Shared) (u : Value), BindsTo s fd ⟨[u], []⟩ [(x, u)]) ∧
    (∀ ns : List Int, ns.length ≤ n → (∀ z ∈ ns, Builtin.Int.intBits z ≤ 1048576) → ∃ h', c [.rol (ns.map D.int)] [] = .ok (.bl true) h') ∧
    ∀ base : Heap, K.In base → base.Ns mainGlobals mg → (∀ p ∈ cs, GxR.TabB base mg p.1 p.2) → FnG l.prog w K mg base cls (cs.map (·.2)) k fa fd [x] c
theorem walkG {l : PySem.W.OpenLaw} {n k : Nat} {q : Program} {loose : List Str} {XP : (Str → Option Value) → Heap → Prop} {YP : World → Heap → Prop} {d : DefRec} {K : Params → PySem.W.Frag} {x : Str}
    (hn : l.most = some n) (hn2 : n ≤ sizeLine) (hdf : d.params.defaults = []) (hr : Room k callerA) (hY : ∀ (w : World) (h : Heap), YP w h → (K w.params).In h) (F : ∀ (w : World) (mg mb : Str → Option Value) (mean : ExcName → Option Value) (fa : Addr) (h : Heap), Top q (PySem.W.looseW q loose) mean mg mb h → YP w h → (K w.params).In h → h.Ns mainGlobals mg → mg d.name = some (.ref fa) → LawG l w (K w.params) k n x mg fa h) : PySem.W.WalkO q loose XP YP l.row.toRowW d [] (fun f vs => PySem.call f vs) := by
  refine Att.attach_callB hn hdf fun w s₀ s₁ mg mb fa o pm cd doc a vs ns G Y _ _ _ hmg hobj hints hlen hbits hg => ?_
  obtain ⟨fd, cls, cs, c, hT, nT, C, nsm, hsm, hb, hsp, hF⟩ := F w mg mb _ fa _ G.T Y (hY w _ Y) G.T.g hmg
  exact law_callG (hY w _ Y) G.T.g G.T.b G.T.builtins G.T.nolimit hg hsm nsm hT nT C G.T.bmain hobj hints (Nat.le_trans hlen hn2) hr hF hb (hsp ns hlen hbits)
end Mi

namespace Mi
open L2 PySem PySem.Spec PyProof.Rows

/-! ### dicts that are written out: {}, {'k': e} -/
def cD0 : EF := fun _ h => .ok (.ref h.length) (h ++ [.dic []])
def cD1 (k : Str) (F : EF) : EF := fun ε h => (F ε (h ++ [.dic []])).bind fun d h2 => match h2[h.length]? with
  | some (.dic []) => .ok (.ref h.length) (h2.set h.length (.dic [(.inr k, d)]))
  | _ => .stuck
section
variable {X : Cx} {W : WX} {cls ts : List Addr} {e : Expr} {F : EF} {pos : Pos} {x : Str}
theorem e_d0 : E' X cls ts W (.Dict [] [] pos) cD0 := ⟨fun pins s σ H Q I ⟨ρ, ε, h, hH, hE, q⟩ => pe_dnewK.run pins s σ H Q I (post_newD hH .nil q)⟩
theorem e_d1 {k : Str} {j : Nat} {kp : Pos} (he : E' X cls ts W e F) : E' X cls ts W (.Dict [some (.Constant (.str k) j kp)] [e] pos) (cD1 k F) := by
  refine ⟨fun pins s σ H Q I ⟨ρ, ε, h, hH, hE, q⟩ => (pe_disp (pps_cons pe_str he pps_nil) rfl rfl (List.cons_ne_nil _ _) (Nat.le_of_ble_eq_true rfl)).run pins s σ H Q I fun p hp => ?_⟩
  have e1 := ext_new (ts := ts) (ρ := ρ) (u := .dK []) hp
  have hH1 : RH X.K cls ts (ρ ++ [p]) (upd H p (.dK [])) (h ++ [.dic []]) := hH.new hp ⟨[], upd_same, .nil⟩
  refine tG_bind hH1 (hE.mono e1) (q.ext e1) fun ρ2 H2 y h2 d _ e2 hH2 ry hE2 q2 => ?_
  split at q2 <;> first | exact q2.elim | skip
  rename_i ed
  have gp : ρ2[h.length]? = some p := e2.get (by rw [← hH.len]; exact get_new)
  obtain ⟨us, k1, r1⟩ := hH2.dic gp ed
  cases r1
  have eP := ext_put (u := .dK [(.inr k, y)]) (List.mem_of_getElem? gp) hH2
  refine ⟨k1, [(.inr k, y)], rfl, Nat.le_of_ble_eq_true rfl, ?_⟩
  exact q2 _ _ _ eP (hH2.put gp ⟨_, upd_same, .cons ⟨rfl, ry.mono eP⟩ .nil⟩) (.ref gp)

/-! ### -e; a built-in type as a value -/
def cNeg (F : EF) : EF := fun ε h => (F ε h).bind fun d h1 => match d with
  | .int i => .ok (.int (-i)) h1
  | _ => .stuck
theorem e_neg (he : E' X cls ts W e F) : E' X cls ts W (.UnaryOp .USub e pos) (cNeg F) := by
  refine ⟨fun pins s σ H Q I ⟨ρ, ε, h, hH, hE, q⟩ => (pe_un un_neg he).run pins s σ H Q I (tG_bind hH hE q fun ρ1 H1 x h1 d _ e1 hH1 rx hE1 p1 => ?_)⟩
  cases rx <;> first | exact p1.elim | skip
  exact ⟨_, rfl, post_val hH1 (.int _) p1⟩
theorem e_bty {n : String} (hg : Gl X x) (hm : X.mg x = none) (hv : bootBuiltins x = some (.type n)) (hn : x ≠ "__name__" := by decide) (hd : (x == ("__debug__" : Str)) = false := by decide) : E' X cls ts W (.Name x pos) (cC (.ty n)) :=
  e_c (fun _ _ _ => .ty n) (pe_bltn hg hm hv rfl hn hd)
end

/-! ### a def that is known -/
structure Kd (K : PySem.W.Frag) (mg : Str → Option Value) (x : Str) (st : Stmt) (f : Addr) (cdv : Value) (fd : FuncData) : Prop where
  ex : ∃ (oc : Value) (od : Option Addr) (kV doc pm : Value) (an : Option Addr) (ct : Value) (osl : Array (Option Value)), fd = PySem.W.fnOf x x (defArgs st) (defBody st) (defScope st) .none kV doc pm an cdv ct ∧ K.lookup f = some ⟨oc, od, .func fd, osl⟩
  kp : PySem.W.keepIn K (.ref f) = true ∧ PySem.W.codeIn K cdv x = true
  mg : mg x = some (.ref f)
/-- how a def without defaults binds -/
def Bd (x : Str) (st : Stmt) (ps : List Str) : Prop := ∀ (kV doc pm : Value) (an : Option Addr) (cdv ct : Value) (us : List Value), us.length = ps.length → bindArgs (PySem.W.fnOf x x (defArgs st) (defBody st) (defScope st) .none kV doc pm an cdv ct) ⟨us, []⟩ = pure (ps.zip us)
/-- how it binds where the last arguments are named: g puts them in their order -/
def BdK (x : Str) (st : Stmt) (ps ks : List Str) (m : Nat) (g : List Value → List Value → List Value) : Prop := ∀ (kV doc pm : Value) (an : Option Addr) (cdv ct : Value) (us ws : List Value), us.length = m → ws.length = ks.length →
  bindArgs (PySem.W.fnOf x x (defArgs st) (defBody st) (defScope st) .none kV doc pm an cdv ct) ⟨us, ks.zip ws⟩ = pure (ps.zip (g us ws))
/-- a def that may be called -/
structure Ca (P : Program) (w : World) (K : PySem.W.Frag) (mg : Str → Option Value) (base : Heap) (cls ts : List Addr) (k : Nat) (x : Str) (st : Stmt) (ps : List Str) (c : FN) : Prop where
  ex : ∃ f cdv fd, Kd K mg x st f cdv fd ∧ FnG P w K mg base cls ts k f fd ps c
theorem Kd.binds {K : PySem.W.Frag} {mg : Str → Option Value} {x : Str} {st : Stmt} {f : Addr} {cdv : Value} {fd : FuncData} {ps : List Str} (D : Kd K mg x st f cdv fd) (b : Bd x st ps) : Binds K fd ps [] := by
  obtain ⟨oc, od, kV, doc, pm, an, ct, osl, rfl, _⟩ := D.ex
  exact .all (b kV doc pm an cdv ct)
theorem Kd.bindsTo {K : PySem.W.Frag} {mg : Str → Option Value} {x : Str} {st : Stmt} {f : Addr} {cdv : Value} {fd : FuncData} {ps ks : List Str} {m : Nat} {g : List Value → List Value → List Value} {us ws : List Value} {s : Shared} (D : Kd K mg x st f cdv fd) (b : BdK x st ps ks m g) (h1 : us.length = m) (h2 : ws.length = ks.length) :
    BindsTo s fd ⟨us, ks.zip ws⟩ (ps.zip (g us ws)) := by
  obtain ⟨oc, od, kV, doc, pm, an, ct, osl, rfl, _⟩ := D.ex
  exact .of_eq (b kV doc pm an cdv ct us ws h1 h2)
/-- a def by its body -/
theorem Kd.fn {P : Program} {w : World} {K : PySem.W.Frag} {mg : Str → Option Value} {base : Heap} {cls ts : List Addr} {k : Nat} {x : Str} {st : Stmt} {f : Addr} {cdv : Value} {fd : FuncData} {N ps : List Str} {B : SF} (D : Kd K mg x st f cdv fd) (S : FnScope N ps (defScope st))
    (hbody : ∀ (A : Around) (outer : List Env) (s : Shared) (H : Hp) (E : XK), (A.deeper (envOfC x (defScope st) s.heap.objs.size f cdv)).guards = some [] → Room k (A.deeper (envOfC x (defScope st) s.heap.objs.size f cdv)) →
      Takes (cxOf (L2.CX P w) P w K mg base N x (defScope st) f cdv A outer s H E) (fun c d _ H => E c d H) → Ss' (cxOf (L2.CX P w) P w K mg base N x (defScope st) f cdv A outer s H E) cls ts (fun c d _ H => E c d H) (defBody st) B) :
    FnG P w K mg base cls ts (k + 1) f fd ps (runB ps.length N.length B) := by
  obtain ⟨oc, od, kV, doc, pm, an, ct, osl, rfl, lk⟩ := D.ex
  exact FnG.of lk D.kp.2 S hbody
def ALen (A : AF) (n : Nat) : Prop := ∀ ε h ds h', A ε h = .ok ds h' → ds.length = n
theorem aLen0 : ALen aNil 0 := fun _ _ _ _ e => by cases e; rfl
theorem aLenS {F : EF} {A : AF} {n : Nat} (i : ALen A n) : ALen (aCons F A) (n + 1) := fun ε h ds h' e => by
  unfold aCons at e
  cases q : F ε h with
  | ok d h1 =>
    rw [q, Res.bind_ok] at e
    cases q2 : A ε h1 with
    | ok es h2 =>
      rw [q2] at e
      cases e
      rw [List.length_cons, i _ _ _ _ q2]
    | exc x h2 => rw [q2] at e; cases e
    | stuck => rw [q2] at e; cases e
  | exc x h1 => rw [q] at e; cases e
  | stuck => rw [q] at e; cases e
section
variable {X : Cx} {W : WX} {cls ts : List Addr} {k : Nat} {st : Stmt} {ps ks : List Str} {c : FN} {x : Str} {p pos : Pos} {e : Expr} {es : List Expr} {kws : List Keyword} {A B : AF} {m : Nat}
/-- f(e, ..) -/
theorem e_ca (C : Ca X.prog X.w X.K X.mg X.base cls ts k x st ps c) (b : Bd x st ps) (hgu : X.A.guards = some []) (hr : Room k X.A) (tk : Takes X W) (hg : Gl X x) (ha : A' X cls ts W (e :: es) A) (hdb : (x == ("__debug__" : Str)) = false := by decide)
    (he : starEach (e :: es) X.env = (false, eval e X.env) :: starEach es X.env := by rfl) (hpl : (backTo pos (starEach es X.env)).any (·.1) = false := by rfl) : E' X cls ts W (.Call (.Name x p) (e :: es) [] pos) (cFn c A) := by
  obtain ⟨f, cdv, fd, D, F⟩ := C.ex
  exact e_call F hgu hr tk hg D.mg D.kp.1 (D.binds b) ha hdb he hpl
theorem e_ca0 (C : Ca X.prog X.w X.K X.mg X.base cls ts k x st ps c) (b : Bd x st ps) (hgu : X.A.guards = some []) (hr : Room k X.A) (tk : Takes X W) (hg : Gl X x) (hdb : (x == ("__debug__" : Str)) = false := by decide) : E' X cls ts W (.Call (.Name x p) [] [] pos) (cFn c aNil) := by
  obtain ⟨f, cdv, fd, D, F⟩ := C.ex
  exact e_call0 F hgu hr tk hg D.mg D.kp.1 (D.binds b) hdb
/-- f(k = e, ..), every argument named -/
theorem e_caK {gv : List Value → List Value} {gV : List V → List V} {gD : List D → List D} (C : Ca X.prog X.w X.K X.mg X.base cls ts k x st ps c) (b : BdK x st ps ks 0 (fun _ ws => gv ws)) (hgu : X.A.guards = some []) (hr : Room k X.A) (tx : Takes X W) (hg : Gl X x)
    (hV : ∀ (zs : List V) (ws : List Value), Vals zs ws → zs.length = ks.length → Vals (gV zs) (gv ws)) (hgD : ∀ (ρ : List Addr) (H : Hp) (zs : List V) (es : List D), RVs X.K ρ H zs es → zs.length = ks.length → RVs X.K ρ H (gV zs) (gD es))
    (hkw : PK X kws (tA X.K cls ts W B)) (hn : ALen B ks.length) (hall : (backToKw pos (keywordEach kws X.env)).all (·.1.isSome) = true := by rfl) (hks : (backToKw pos (keywordEach kws X.env)).filterMap (·.1) = ks := by rfl)
    (hdb : (x == ("__debug__" : Str)) = false := by decide)
    (hpl : (backToKw pos (keywordEach kws X.env)).any (·.1.isNone) = false := by rfl) :
    E' X cls ts W (.Call (.Name x p) [] kws pos) (cFn (fun es h => c (gD es) h) B) := by
  obtain ⟨f, cdv, fd, Dd, F⟩ := C.ex
  refine ⟨fun pins s σ H Q I ⟨ρ, ε, h, hH, hE, q⟩ => ?_⟩
  have q1 : tA X.K cls ts W B σ H fun zs H2 => zs.length = ks.length ∧ Rdy X.K cls ts c (fun u dd H' => W u dd σ H') Q (gV zs) H2 :=
    tG_bind hH hE q fun ρ2 H2 zs h2 es ee e2 hH2 rz hE2 p2 => by
      have hl : zs.length = ks.length := by rw [rz.length]; exact hn _ _ _ _ ee
      exact ⟨hl, ρ2, h2, gD es, hH2, hgD _ _ _ _ rz hl, p2⟩
  refine wpAny_Call_Name_kw (ld_glob I hg Dd.mg ?_ hdb)
  refine PySem.W.callWith_KW0 I.kIn Dd.kp.1 hall (thn (hkw.run pos pins s σ H _ I q1) fun ws s2 ⟨zs, H2, I2, rz, hl, ρ2, h2, ds, hH2, rv, p2⟩ => ⟨I2.kIn, ?_⟩) hpl
  rw [hks]
  exact run_g F hgu hr tx (fun _ => Dd.bindsTo b rfl (by rw [← rz.length]; exact hl)) I2 (hV _ _ rz hl) hH2 rv p2
end
end Mi

namespace Mi
open L2 PySem PySem.Spec PyProof.Rows

theorem hu65 {k : Nat} {A : Around} (r : Room k A) : A.units + 65 < cLine := by
  have := r.un
  omega
theorem e_globE {X : Cx} {W : WX} {cls ts : List Addr} {x : Str} {pos : Pos} {i : Int} (hg : Gl X x) (hm : ∃ u, X.mg x = some u ∧ RelV (.int i) u) (hd : (x == ("__debug__" : Str)) = false := by decide) : E' X cls ts W (.Name x pos) (cC (.int i)) := by
  obtain ⟨u, hm, r⟩ := hm
  exact e_glob hg hm r (fun _ _ _ => .int i) hd
def between (a b : Str) (c : Nat) : Bool := !decide ([c] < a.cps.toList) && !decide (b.cps.toList < [c])
/-- a generator expression's scope without captured names -/
def genC (scope : Scope) (x : Str) : Bool := (match scope.kind with | .function => true | _ => false) && !scope.isCoroutine && (scope.names.all fun y => match y.2 with | .local => true | _ => false) &&
  (match scope.names.lookup (".0" : Str) with | some .local => true | _ => false) && (match scope.names.lookup x with | some .local => true | _ => false)
theorem genS_by {env : Env} {scope : Scope} {x : Str} (h : genC scope x = true) : GxR.GenS env scope x := by
  simp only [genC, Bool.and_eq_true, List.all_eq_true] at h
  obtain ⟨⟨⟨⟨h1, h2⟩, h3⟩, h4⟩, h5⟩ := h
  refine ⟨?_, by simpa using h2, fun y hy e => ?_, ?_, ?_, fun y hy e => ?_⟩
  · split at h1 <;> first | assumption | cases h1
  · have := h3 y hy
    rw [e] at this
    cases this
  · split at h4 <;> first | assumption | cases h4
  · split at h5 <;> first | assumption | cases h5
  · have := h3 y hy
    rw [e] at this
    cases this
theorem tabIn_of {K : PySem.W.Frag} {x : Str} {f c P : Addr} {oc ox : Value} {od oy : Option Addr} {fd : FuncData} {sl sm : Array (Option Value)} {vs : Array Value} (a : PySem.W.nsIn K mainGlobals x = some (some (.ref f))) (l : K.lookup f = some ⟨oc, od, .func fd, sl⟩) (hc : fd.code = .ref c)
    (lc : K.lookup c = some ⟨ox, oy, .fields vs, sm⟩) (h11 : (vs[11]? : Option Value) = some (.ref P)) : PySem.W.tabIn K x = some (c, P) := by
  unfold PySem.W.tabIn
  simp only [a, l, hc, lc, h11]
/-- the named arguments in the parameters' order -/
def pm0 {α : Type} (xs : List α) : List α := xs
theorem pmV0 {ks : List Str} (zs : List V) (ws : List Value) (r : Vals zs ws) (_ : zs.length = ks.length) : Vals (pm0 zs) (pm0 ws) := r
theorem pmD0 {K : PySem.W.Frag} {ρ : List Addr} {H : Hp} {ks : List Str} (zs : List V) (es : List D) (r : RVs K ρ H zs es) (_ : zs.length = ks.length) : RVs K ρ H (pm0 zs) (pm0 es) := r
end Mi

namespace Mi
open L2 PySem PySem.Spec PyProof.Rows

/-! ### reckoning -/
section
variable {F G : EF} {A : AF} {T : TF} {a b c : SF} {ε ε1 : AEnv} {h h1 h2 h3 : AH} {d x y : D} {ds es : List D} {i : Nat} {f : Op2} {k : Bool}
theorem sSeq_nx (e : a ε h = .nx ε1 h1) : sSeq a b ε h = b ε1 h1 := by
  unfold sSeq
  rw [e]
  rfl
theorem sSeq_ret (e : a ε h = .ret d h1) : sSeq a b ε h = .ret d h1 := by
  unfold sSeq
  rw [e]
  rfl
theorem sSet_eq (e : F ε h = .ok d h1) (hi : i < ε.length := by exact Nat.le_of_ble_eq_true rfl) : sSet i F ε h = .nx (ε.set i (some d)) h1 := by
  unfold sSet
  rw [e, Res.st_ok, if_pos hi]
theorem sRet_eq (e : F ε h = .ok d h1) : sRet F ε h = .ret d h1 := by
  unfold sRet
  rw [e]
  rfl
theorem sExpr_eq (e : F ε h = .ok d h1) : sExpr F ε h = .nx ε h1 := by
  unfold sExpr
  rw [e]
  rfl
theorem sIf_eq (e : T ε h = .ok k h1) : sIf T a b ε h = if k = true then a ε h1 else b ε h1 := by
  unfold sIf
  rw [e]
  rfl
theorem sIf_t (e : T ε h = .ok true h1) : sIf T a b ε h = a ε h1 := by rw [sIf_eq e, if_pos rfl]
theorem sIf_f (e : T ε h = .ok false h1) : sIf T a b ε h = b ε h1 := by rw [sIf_eq e, if_neg Bool.false_ne_true]
theorem cBin_eq (e1 : F ε h = .ok x h1) (e2 : G ε h1 = .ok y h2) : cBin f F G ε h = f x y h2 := by
  unfold cBin
  rw [e1, Res.bind_ok, e2, Res.bind_ok]
theorem aCons_eq (e1 : F ε h = .ok x h1) (e2 : A ε h1 = .ok ds h2) : aCons F A ε h = .ok (x :: ds) h2 := by
  unfold aCons
  rw [e1, Res.bind_ok, e2, Res.bind_ok]
theorem aNil_eq : aNil ε h = .ok [] h := rfl
theorem cFn_eq {f : FN} (e : A ε h = .ok ds h1) : cFn f A ε h = f ds h1 := by
  unfold cFn
  rw [e, Res.bind_ok]
theorem cCall_eq {f : OpN} (e : A ε h = .ok ds h1) : cCall f A ε h = f ds h1 := by
  unfold cCall
  rw [e, Res.bind_ok]
theorem cLst_eq (e : A ε h = .ok ds h1) (hl : ds.length ≤ sizeLine) : cLst A ε h = .ok (.ref h1.length) (h1 ++ [.lst ds]) := by
  unfold cLst
  rw [e, Res.bind_ok, if_pos hl]
theorem cTup_eq (e : A ε h = .ok ds h1) (hl : ds.length ≤ sizeLine) : cTup A ε h = .ok (.tup ds) h1 := by
  unfold cTup
  rw [e, Res.bind_ok, if_pos hl]
theorem tVal_eq (e : F ε h = .ok (.bl k) h1) : tVal F ε h = .ok k h1 := by
  unfold tVal
  rw [e]
  rfl
theorem cMeth_eq {T : String} {f : OpM} (e : F ε h = .ok d h1) (hT : isTy T d h1 = true) (e2 : A ε h1 = .ok ds h2) : cMeth T f F A ε h = f d ds h2 := by
  unfold cMeth
  rw [e, Res.bind_ok, if_pos hT, e2, Res.bind_ok]
theorem cIf_eq (e : T ε h = .ok k h1) : cIf T F G ε h = if k = true then F ε h1 else G ε h1 := by
  unfold cIf
  rw [e, Res.bind_ok]
theorem tOr_t {T2 : TF} (e : T ε h = .ok true h1) : tOr' T T2 ε h = .ok true h1 := by
  unfold tOr'
  rw [e, Res.bind_ok, if_pos rfl]
theorem tOr_f {T2 : TF} (e : T ε h = .ok false h1) : tOr' T T2 ε h = T2 ε h1 := by
  unfold tOr'
  rw [e, Res.bind_ok, if_neg Bool.false_ne_true]
theorem tAnd_t {T2 : TF} (e : T ε h = .ok true h1) : tAnd' T T2 ε h = T2 ε h1 := by
  unfold tAnd'
  rw [e, Res.bind_ok, if_pos rfl]
theorem tAnd_f {T2 : TF} (e : T ε h = .ok false h1) : tAnd' T T2 ε h = .ok false h1 := by
  unfold tAnd'
  rw [e, Res.bind_ok, if_neg Bool.false_ne_true]
theorem tNot_eq (e : T ε h = .ok k h1) : tNot' T ε h = .ok (!k) h1 := by
  unfold tNot'
  rw [e, Res.bind_ok]
theorem cAnd_t (e : F ε h = .ok (.bl true) h1) : cAnd F G ε h = G ε h1 := by
  unfold cAnd
  rw [e, Res.bind_ok]
  rfl
theorem cAnd_f (e : F ε h = .ok (.bl false) h1) : cAnd F G ε h = .ok (.bl false) h1 := by
  unfold cAnd
  rw [e, Res.bind_ok]
  rfl
theorem sPar2_eq {j : Nat} (e1 : F ε h = .ok x h1) (e2 : G ε h1 = .ok y h2) (hi : i < ε.length ∧ j < ε.length := by exact ⟨Nat.le_of_ble_eq_true rfl, Nat.le_of_ble_eq_true rfl⟩) : sPar2 i j F G ε h = .nx ((ε.set i (some x)).set j (some y)) h2 := by
  unfold sPar2
  rw [e1, Res.st_ok, e2, Res.st_ok, if_pos hi]
theorem sPar3_eq {j l : Nat} {I : EF} {z : D} (e1 : F ε h = .ok x h1) (e2 : G ε h1 = .ok y h2) (e3 : I ε h2 = .ok z h3) (hi : i < ε.length ∧ j < ε.length ∧ l < ε.length := by exact ⟨Nat.le_of_ble_eq_true rfl, Nat.le_of_ble_eq_true rfl, Nat.le_of_ble_eq_true rfl⟩) : sPar3 i j l F G I ε h = .nx (((ε.set i (some x)).set j (some y)).set l (some z)) h3 := by
  unfold sPar3
  rw [e1, Res.st_ok, e2, Res.st_ok, e3, Res.st_ok, if_pos hi]
theorem cCut_eq {lo hi : OF} {l u : Option Int} (e1 : F ε h = .ok d h1) (e2 : lo ε h1 = .ok l h2) (e3 : hi ε h2 = .ok u h3) : cCut F lo hi ε h = cutD d l u h3 := by
  unfold cCut
  rw [e1, Res.bind_ok, e2, Res.bind_ok, e3, Res.bind_ok]
theorem oSome_eq {j : Int} (e : F ε h = .ok (.int j) h1) : oSome F ε h = .ok (some j) h1 := by
  unfold oSome
  rw [e, Res.bind_ok]
theorem runB_ret {np nN : Nat} {B : SF} (hl : ds.length = np) (e : B (ds.map some ++ List.replicate (nN - np) none) h = .ret d h1) : runB np nN B ds h = .ok d h1 := by
  unfold runB
  rw [if_pos hl, e]
end

/-! ### comprehensions -/
/-- with an invariant: I i acc h, acc what is found so far; the list stands at nD -/
theorem compGo_inv {it : AIt} {g : TF'} {t : TF} {F : EF} {nD : Nat} {ε0 : AEnv} (I : Nat → List D → AH → Prop) (n : Nat) (hn : it.len = n) (hs : n < sizeLine) (hD : ∀ i acc h, I i acc h → h[nD]? = some (.lst acc))
    (hl : ∀ i acc h, I i acc h → acc.length ≤ i)
    (step : ∀ i acc h, i < n → I i acc h → ∃ d ε1 k h1, it.item i h = some d ∧ g d ε0 h = some ε1 ∧ t ε1 h = .ok k h1 ∧
      ((k = false ∧ I (i + 1) acc h1) ∨ (k = true ∧ ∃ y h2, F ε1 h1 = .ok y h2 ∧ h2[nD]? = some (.lst acc) ∧ I (i + 1) (acc ++ [y]) (h2.set nD (.lst (acc ++ [y]))))))
    (fin : ∀ acc h, I n acc h → it.fin h = true) : ∀ (m i : Nat) (acc : List D) (h : AH), i + m = n → I i acc h → ∃ acc' h', compGo it g t F nD ε0 m i h = .ok () h' ∧ I n acc' h' := by
  intro m
  induction m with
  | zero =>
    intro i acc h e q
    have : i = n := by omega
    subst this
    refine ⟨acc, h, ?_, q⟩
    unfold compGo
    rw [if_pos (fin _ _ q)]
  | succ m ih =>
    intro i acc h e q
    obtain ⟨d, ε1, k, h1, e1, e2, e3, r⟩ := step i acc h (by omega) q
    rcases r with ⟨rfl, r⟩ | ⟨rfl, y, h2, e4, e5, r⟩
    · rw [show compGo it g t F nD ε0 (m + 1) i h = compGo it g t F nD ε0 m (i + 1) h1 from by simp [compGo, e1, e2, e3, noExc]]
      exact ih (i + 1) acc h1 (by omega) r
    · have l1 := hl _ _ _ q
      have l2 : acc.length < sizeLine := by omega
      rw [show compGo it g t F nD ε0 (m + 1) i h = compGo it g t F nD ε0 m (i + 1) (h2.set nD (.lst (acc ++ [y]))) from by simp [compGo, e1, e2, e3, e4, e5, l2, noExc]]
      exact ih (i + 1) _ _ (by omega) r
theorem cComp_inv {iF : IF} {it : AIt} {g : TF'} {t : TF} {F : EF} {own : List Nat} {ε : AEnv} {h h1 : AH} (hi : iF ε h = .ok it h1) (I : Nat → List D → AH → Prop) (n : Nat) (hn : it.len = n) (hs : n < sizeLine) (hD : ∀ i acc h, I i acc h → h[h1.length]? = some (.lst acc))
    (hl : ∀ i acc h, I i acc h → acc.length ≤ i) (h0 : I 0 [] (h1 ++ [.lst []]))
    (step : ∀ i acc h, i < n → I i acc h → ∃ d ε1 k h1', it.item i h = some d ∧ g d (wipeA ε own) h = some ε1 ∧ t ε1 h = .ok k h1' ∧
      ((k = false ∧ I (i + 1) acc h1') ∨ (k = true ∧ ∃ y h2, F ε1 h1' = .ok y h2 ∧ h2[h1.length]? = some (.lst acc) ∧ I (i + 1) (acc ++ [y]) (h2.set h1.length (.lst (acc ++ [y]))))))
    (fin : ∀ acc h, I n acc h → it.fin h = true) : ∃ acc h', cComp iF g t F own ε h = .ok (.ref h1.length) h' ∧ I n acc h' := by
  obtain ⟨acc, h', e, q⟩ := compGo_inv (it := it) (g := g) (t := t) (F := F) (ε0 := wipeA ε own) I n hn hs hD hl step fin n 0 [] (h1 ++ [.lst []]) (by omega) h0
  refine ⟨acc, h', ?_, q⟩
  unfold cComp
  rw [hi, Res.bind_ok, hn, e]
  rfl
/-! ### for -/
theorem forGo_inv {it : AIt} {g : TF'} {B : SF} (I : Nat → AEnv → AH → Prop) (n : Nat) (step : ∀ i ε h, i < n → I i ε h → ∃ d ε1 ε2 h2, it.item i h = some d ∧ g d ε h = some ε1 ∧ (B ε1 h = .nx ε2 h2 ∨ B ε1 h = .cnt ε2 h2) ∧ I (i + 1) ε2 h2)
    (fin : ∀ ε h, I n ε h → it.fin h = true) : ∀ (m i : Nat) (ε : AEnv) (h : AH), i + m = n → I i ε h → ∃ ε' h', forGo it g B m i ε h = .nx ε' h' ∧ I n ε' h' := by
  intro m
  induction m with
  | zero =>
    intro i ε h e q
    have : i = n := by omega
    subst this
    refine ⟨ε, h, ?_, q⟩
    unfold forGo
    rw [if_pos (fin _ _ q)]
  | succ m ih =>
    intro i ε h e q
    obtain ⟨d, ε1, ε2, h2, e1, e2, e3, r⟩ := step i ε h (by omega) q
    rw [show forGo it g B (m + 1) i ε h = forGo it g B m (i + 1) ε2 h2 from by rcases e3 with e3 | e3 <;> simp [forGo, e1, e2, e3]]
    exact ih (i + 1) ε2 h2 (by omega) r
theorem sFor_inv {iF : IF} {it : AIt} {g : TF'} {B : SF} {ε : AEnv} {h h1 : AH} (hi : iF ε h = .ok it h1) (I : Nat → AEnv → AH → Prop) (n : Nat) (hn : it.len = n) (h0 : I 0 ε h1)
    (step : ∀ i ε h, i < n → I i ε h → ∃ d ε1 ε2 h2, it.item i h = some d ∧ g d ε h = some ε1 ∧ (B ε1 h = .nx ε2 h2 ∨ B ε1 h = .cnt ε2 h2) ∧ I (i + 1) ε2 h2)
    (fin : ∀ ε h, I n ε h → it.fin h = true) : ∃ ε' h', sFor iF g B ε h = .nx ε' h' ∧ I n ε' h' := by
  obtain ⟨ε', h', e, q⟩ := forGo_inv (it := it) (g := g) (B := B) I n step fin n 0 ε h1 (by omega) h0
  refine ⟨ε', h', ?_, q⟩
  unfold sFor
  rw [hi, Res.st_ok, hn, e]

end Mi

namespace Mi
open L2 PySem PySem.Spec PyProof.Rows

/-! ### the defs that every law has: begun, dealt, pick -/
/-- the hand stands at n, its cells at m, it was asked c times -/
def Hand (h : AH) (n m : Nat) (c : Int) : Prop := m ≠ n ∧ ∃ (cells : List Int) (t : Int), cells.length ≤ 100 ∧ h[n]? = some (.lst [.ref m, .int t, .int c]) ∧ h[m]? = some (.lst (cells.map D.int))
/-- nothing but n, m has changed; new things may stand behind -/
structure Step (n m : Nat) (h h' : AH) : Prop where
  len : h.length ≤ h'.length
  keep : ∀ k, k ≠ n → k ≠ m → k < h.length → h'[k]? = h[k]?
theorem Step.refl {n m : Nat} {h : AH} : Step n m h h := ⟨Nat.le_refl _, fun _ _ _ _ => rfl⟩
theorem Step.trans {n m : Nat} {h h1 h2 : AH} (a : Step n m h h1) (b : Step n m h1 h2) : Step n m h h2 :=
  ⟨Nat.le_trans a.len b.len, fun k h1 h2 h3 => (b.keep k h1 h2 (Nat.lt_of_lt_of_le h3 a.len)).trans (a.keep k h1 h2 h3)⟩
theorem Step.set1 {n m : Nat} {h : AH} {o : O} : Step n m h (h.set n o) := ⟨by simp, fun k h1 h2 h3 => by rw [List.getElem?_set_ne (Ne.symm h1)]⟩
theorem Step.set2 {n m : Nat} {h : AH} {o : O} : Step n m h (h.set m o) := ⟨by simp, fun k h1 h2 h3 => by rw [List.getElem?_set_ne (Ne.symm h2)]⟩
theorem Step.app {n m : Nat} {h : AH} {os : List O} : Step n m h (h ++ os) := ⟨by simp, fun k h1 h2 h3 => by rw [List.getElem?_append_left h3]⟩
theorem pd_ints (h : AH) (k : Nat) : ∀ cells : List Int, omap (pd k h) (cells.map D.int) = some (cells.map PyData.int)
  | [] => rfl
  | c :: cs => by
    simp only [List.map_cons]
    unfold omap
    rw [pd_ints h k cs]
    cases k <;> rfl
theorem shaped_ints (cells : List Int) : SeqAt.shaped (.list (cells.map PyData.int)) = true := by
  have h1 : ∀ cs : List Int, PyData.canLayAll0 (cs.map PyData.int) = true := fun cs => by
    induction cs with
    | nil => simp [PyData.canLayAll0]
    | cons c cs ih => simp [PyData.canLayAll0, PyData.canLay0, ih]
  have h2 : ∀ cs : List Int, PyData.depthAll (cs.map PyData.int) = 0 := fun cs => by
    induction cs with
    | nil => simp [PyData.depthAll]
    | cons c cs ih => simp [PyData.depthAll, PyData.depth, ih]
  simp [SeqAt.shaped, PyData.canLay0, PyData.depth, h1, h2]
theorem eqv_ints (cells : List Int) : PyData.eqv (.list (cells.map PyData.int)) (.list []) = cells.isEmpty := by
  cases cells with
  | nil => simp [PyData.eqv, PyData.eqvAll]
  | cons c cs => simp [PyData.eqv, PyData.eqvAll]


def dealtTail : SF := (sSeq (sSet 3 (cBin opAdd (cBin opAdd (cBin opAdd (cBin opMod (cVar 2) (cC (.int 2147483629))) (cBin opMul (cBin opMul (cC (.int 16807)) (cBin opIx (cVar 0) (cC (.int 2)))) (cBin opIx (cVar 0) (cC (.int 2))))) (cBin opIx (cVar 0) (cC (.int 1)))) (cC (.int 97))))
    (sSeq (sSet 3 (cBin opMod (cBin opMul (cVar 3) (cC (.int 48271))) (cC (.int 2147483647))))
    (sSeq (sSet 3 (cBin opMod (cBin opAdd (cBin opAdd (cBin opMul (cVar 3) (cVar 3)) (cBin opMul (cC (.int 69621)) (cBin opIx (cVar 0) (cC (.int 2))))) (cC (.int 11))) (cC (.int 2147483587))))
    (sRet (cBin opMod (cBin opFdiv (cBin opMod (cBin opMul (cVar 3) (cBin opAdd (cBin opFdiv (cVar 3) (cC (.int 5))) (cC (.int 39373)))) (cC (.int 2147483563))) (cC (.int 128))) (cVar 1))))))
theorem sm_l {i : Int} (h : 0 ≤ i) (h2 : i < 18446744073709551616) : Mi.small64 i = true := by
  simp [Mi.small64]
  omega
theorem dealtTail_ok {h : AH} {n m : Nat} {c lots cell t : Int} {x : Option D} (hn : h[n]? = some (.lst [.ref m, .int t, .int c])) (hc : 0 ≤ c) (hc2 : c < 1000001) (hl : 0 < lots) (hl2 : lots < 1000000) :
    ∃ r : Int, dealtTail [some (.ref n), some (.int lots), some (.int cell), x] h = .ret (.int r) h ∧ 0 ≤ r ∧ r < lots := by
  have ml : ∀ a b : Int, 0 ≤ a → a < 18446744073709551616 → opMul (.int a) (.int b) h = .ok (.int (a * b)) h := fun a b h1 h2 => by simp [opMul, sm_l h1 h2]
  have mr : ∀ a b : Int, 0 ≤ b → b < 18446744073709551616 → opMul (.int a) (.int b) h = .ok (.int (a * b)) h := fun a b h1 h2 => by simp [opMul, sm_l h1 h2]
  have md : ∀ a b : Int, 0 < b → opMod (.int a) (.int b) h = .ok (.int (a.fmod b)) h := fun a b h1 => by
    have : b ≠ 0 := by omega
    simp [opMod, opII, this]
  have mb : ∀ a b : Int, 0 < b → 0 ≤ a.fmod b ∧ a.fmod b < b := fun a b h1 => ⟨Int.fmod_nonneg_of_pos _ h1, Int.fmod_lt_of_pos _ h1⟩
  have i1 : opIx (.ref n) (.int 1) h = .ok (.int t) h := by simp [opIx, seqD, hn, atI, ixN]
  have i2 : opIx (.ref n) (.int 2) h = .ok (.int c) h := by simp [opIx, seqD, hn, atI, ixN]
  have ad : ∀ a b : Int, opAdd (.int a) (.int b) h = .ok (.int (a + b)) h := fun _ _ => rfl
  have fd : ∀ a b : Int, 0 < b → b < 1000 → opFdiv (.int a) (.int b) h = .ok (.int (a.fdiv b)) h := fun a b h1 h2 => by
    have : b ≠ 0 := by omega
    have : b.natAbs < 1073741824 := by omega
    simp [opFdiv, opII, *]
  obtain ⟨w0, e0⟩ : ∃ w, w = cell.fmod 2147483629 + 16807 * c * c + t + 97 := ⟨_, rfl⟩
  obtain ⟨w1, e1⟩ : ∃ w, w = (w0 * 48271).fmod 2147483647 := ⟨_, rfl⟩
  obtain ⟨w2, e2⟩ : ∃ w, w = (w1 * w1 + 69621 * c + 11).fmod 2147483587 := ⟨_, rfl⟩
  obtain ⟨w3, e3⟩ : ∃ w, w = (w2 * (w2.fdiv 5 + 39373)).fmod 2147483563 := ⟨_, rfl⟩
  have b1 := mb (w0 * 48271) 2147483647 (by decide)
  rw [← e1] at b1
  have b2 := mb (w1 * w1 + 69621 * c + 11) 2147483587 (by decide)
  rw [← e2] at b2
  have q0 : cBin opAdd (cBin opAdd (cBin opAdd (cBin opMod (cVar 2) (cC (.int 2147483629))) (cBin opMul (cBin opMul (cC (.int 16807)) (cBin opIx (cVar 0) (cC (.int 2)))) (cBin opIx (cVar 0) (cC (.int 2))))) (cBin opIx (cVar 0) (cC (.int 1)))) (cC (.int 97)) [some (.ref n), some (.int lots), some (.int cell), x] h = .ok (.int w0) h := by
    simp only [cBin, cVar, cC, List.getElem?_cons_zero, List.getElem?_cons_succ, Res.bind_ok, i1, i2, ad, md _ 2147483629 (by decide), ml 16807 c (by decide) (by decide), mr _ c hc (by omega), e0]
  have q1 : cBin opMod (cBin opMul (cVar 3) (cC (.int 48271))) (cC (.int 2147483647)) [some (.ref n), some (.int lots), some (.int cell), some (.int w0)] h = .ok (.int w1) h := by
    simp only [cBin, cVar, cC, List.getElem?_cons_zero, List.getElem?_cons_succ, Res.bind_ok, mr w0 48271 (by decide) (by decide), md _ 2147483647 (by decide), e1]
  have q2 : cBin opMod (cBin opAdd (cBin opAdd (cBin opMul (cVar 3) (cVar 3)) (cBin opMul (cC (.int 69621)) (cBin opIx (cVar 0) (cC (.int 2))))) (cC (.int 11))) (cC (.int 2147483587)) [some (.ref n), some (.int lots), some (.int cell), some (.int w1)] h = .ok (.int w2) h := by
    simp only [cBin, cVar, cC, List.getElem?_cons_zero, List.getElem?_cons_succ, Res.bind_ok, i2, mr w1 w1 b1.1 (by omega), ml 69621 c (by decide) (by decide), ad, md _ 2147483587 (by decide), e2]
  have q3 : cBin opMod (cBin opFdiv (cBin opMod (cBin opMul (cVar 3) (cBin opAdd (cBin opFdiv (cVar 3) (cC (.int 5))) (cC (.int 39373)))) (cC (.int 2147483563))) (cC (.int 128))) (cVar 1) [some (.ref n), some (.int lots), some (.int cell), some (.int w2)] h = .ok (.int ((w3.fdiv 128).fmod lots)) h := by
    simp only [cBin, cVar, cC, List.getElem?_cons_zero, List.getElem?_cons_succ, Res.bind_ok, fd _ 5 (by decide) (by decide), fd _ 128 (by decide) (by decide), ad, ml w2 _ b2.1 (by omega), md _ 2147483563 (by decide), md _ lots hl, e3]
  refine ⟨(w3.fdiv 128).fmod lots, ?_, mb _ _ hl⟩
  unfold dealtTail
  exact (sSeq_nx (sSet_eq q0)).trans ((sSeq_nx (sSet_eq q1)).trans ((sSeq_nx (sSet_eq q2)).trans (sRet_eq q3)))
def dealtIf : SF := (sIf (tVal (cBin opNe (cBin opIx (cVar 0) (cC (.int 0))) (cLst aNil)))
      (sSeq (sSet 2 (cMeth "list" mPop (cBin opIx (cVar 0) (cC (.int 0))) aNil))
    (sIf (tVal (cBin opGe (cVar 2) (cBin opPow (cC (.int 10)) (cC (.int 18)))))
      (sSeq (sExpr (cMeth "list" mAppend (cBin opIx (cVar 0) (cC (.int 0))) (aCons (cBin opFdiv (cVar 2) (cVar 1)) aNil)))
    (sRet (cBin opMod (cVar 2) (cVar 1))))
      sPass))
      sPass)
def fDealt : FN := runB 2 4 (sSeq (sPut (cBin opAdd (cBin opIx (cVar 0) (cC (.int 2))) (cC (.int 1))) (cVar 0) (cC (.int 2)))
    (sSeq (sSet 2 (cBin opIx (cVar 0) (cC (.int 1))))
    (sSeq dealtIf dealtTail)))
theorem mod_ok {h : AH} {a b : Int} (h1 : 0 < b) : opMod (.int a) (.int b) h = .ok (.int (a.fmod b)) h := by
  have : b ≠ 0 := by omega
  simp [opMod, opII, this]
theorem dealtIf_ok {h1 : AH} {n m : Nat} {t c lots : Int} {cells : List Int} (hmn : m ≠ n) (hn1 : h1[n]? = some (.lst [.ref m, .int t, .int c])) (hm1 : h1[m]? = some (.lst (cells.map D.int))) (hl : 0 < lots) (hl2 : lots < 1000000) (hz : cells.length ≤ 100) :
    ∃ (h2 : AH) (cells2 : List Int), cells2.length ≤ 100 ∧ h2[n]? = some (.lst [.ref m, .int t, .int c]) ∧ h2[m]? = some (.lst (cells2.map D.int)) ∧ Step n m h1 h2 ∧
      ((∃ cell : Int, dealtIf [some (.ref n), some (.int lots), some (.int t), none] h1 = .nx [some (.ref n), some (.int lots), some (.int cell), none] h2) ∨
        ∃ r : Int, 0 ≤ r ∧ r < lots ∧ dealtIf [some (.ref n), some (.int lots), some (.int t), none] h1 = .ret (.int r) h2) := by
  have lm1 : m < h1.length := (List.getElem?_eq_some_iff.mp hm1).1
  have i0 : ∀ (h2 : AH), h2[n]? = some (.lst [.ref m, .int t, .int c]) → opIx (.ref n) (.int 0) h2 = .ok (.ref m) h2 := fun h2 e => by simp [opIx, seqD, atI, ixN, e]
  have h1a : (h1 ++ [O.lst []])[n]? = some (.lst [.ref m, .int t, .int c]) := by rw [List.getElem?_append_left (List.getElem?_eq_some_iff.mp hn1).1]; exact hn1
  have h1b : (h1 ++ [O.lst []])[m]? = some (.lst (cells.map D.int)) := by rw [List.getElem?_append_left lm1]; exact hm1
  have test : tVal (cBin opNe (cBin opIx (cVar 0) (cC (.int 0))) (cLst aNil)) [some (.ref n), some (.int lots), some (.int t), none] h1 = .ok (!cells.isEmpty) (h1 ++ [.lst []]) := by
    have p1 : pd 66 (h1 ++ [O.lst []]) (.ref m) = some (.list (cells.map PyData.int)) := by
      simp only [pd, h1b, pd_ints, Option.map_some]
    have p2 : pd 66 (h1 ++ [O.lst []]) (.ref h1.length) = some (.list []) := by simp [pd, omap]
    have s2 : SeqAt.shaped (.list []) = true := shaped_ints []
    simp [tVal, cBin, cVar, cC, i0 _ hn1, cLst, aNil, opNe, scalEq, p1, p2, shaped_ints, s2, eqv_ints, asBl]
  obtain ⟨h2, eh2⟩ : ∃ h2, h2 = h1 ++ [O.lst []] := ⟨_, rfl⟩
  rw [← eh2] at test h1a h1b
  have st2 : Step n m h1 h2 := by rw [eh2]; exact .app
  cases cells with
  | nil =>
    refine ⟨h2, [], hz, h1a, h1b, st2, .inl ⟨t, ?_⟩⟩
    exact sIf_f test
  | cons c0 cs =>
    obtain ⟨last, el⟩ : ∃ last, ((c0 :: cs).map D.int)[((c0 :: cs).map D.int).length - 1]? = some (.int last) := by
      refine ⟨((c0 :: cs)[(c0 :: cs).length - 1]'(by simp)), ?_⟩
      rw [List.length_map, List.getElem?_map, List.getElem?_eq_getElem (by simp)]
      rfl
    obtain ⟨h3, eh3⟩ : ∃ h3, h3 = h2.set m (.lst ((c0 :: cs).map D.int).dropLast) := ⟨_, rfl⟩
    have lm2 : m < h2.length := (List.getElem?_eq_some_iff.mp h1b).1
    have h3n : h3[n]? = some (.lst [.ref m, .int t, .int c]) := by rw [eh3, List.getElem?_set_ne hmn]; exact h1a
    have h3m : h3[m]? = some (.lst ((c0 :: cs).dropLast.map D.int)) := by rw [eh3, List.getElem?_set_self lm2, List.map_dropLast]
    have st3 : Step n m h2 h3 := by rw [eh3]; exact .set2
    have pop : sSet 2 (cMeth "list" mPop (cBin opIx (cVar 0) (cC (.int 0))) aNil) [some (.ref n), some (.int lots), some (.int t), none] h2 = .nx [some (.ref n), some (.int lots), some (.int last), none] h3 := by
      refine sSet_eq (d := .int last) ((cMeth_eq (d := .ref m) (h1 := h2) (cBin_eq (x := .ref n) (y := .int 0) rfl rfl |>.trans (i0 _ h1a)) (by simp [isTy, tyD, h1b]) aNil_eq).trans ?_)
      simp only [mPop, h1b, el, eh3]
    have test2 : ∀ h4, tVal (cBin opGe (cVar 2) (cBin opPow (cC (.int 10)) (cC (.int 18)))) [some (.ref n), some (.int lots), some (.int last), none] h4 = .ok (decide ((10 : Int) ^ 18 ≤ last)) h4 := fun h4 => by
      simp [tVal, cBin, cVar, cC, opPow, opII, opGe, asBl]
    have whole : dealtIf [some (.ref n), some (.int lots), some (.int t), none] h1 = _ := sIf_t test
    have whole2 := whole.trans (sSeq_nx pop)
    have st := st2.trans st3
    by_cases big : (10 : Int) ^ 18 ≤ last
    · have t2 := test2 h3
      rw [decide_eq_true big] at t2
      have whole3 := whole2.trans (sIf_t t2)
      obtain ⟨h4, eh4⟩ : ∃ h4, h4 = h3.set m (.lst ((c0 :: cs).dropLast.map D.int ++ [.int (last.fdiv lots)])) := ⟨_, rfl⟩
      have lm3 : m < h3.length := (List.getElem?_eq_some_iff.mp h3m).1
      have h4n : h4[n]? = some (.lst [.ref m, .int t, .int c]) := by rw [eh4, List.getElem?_set_ne hmn]; exact h3n
      have h4m : h4[m]? = some (.lst (((c0 :: cs).dropLast ++ [last.fdiv lots]).map D.int)) := by rw [eh4, List.getElem?_set_self lm3, List.map_append]; rfl
      have fd : opFdiv (.int last) (.int lots) h3 = .ok (.int (last.fdiv lots)) h3 := by
        have h1 : lots ≠ 0 := by omega
        have h2 : lots.natAbs < 1073741824 := by omega
        simp [opFdiv, opII, h1, h2]
      have lz : ((c0 :: cs).dropLast.map D.int).length < sizeLine := by
        rw [List.length_map, List.length_dropLast, sizeLine_eq]
        omega
      have app : sExpr (cMeth "list" mAppend (cBin opIx (cVar 0) (cC (.int 0))) (aCons (cBin opFdiv (cVar 2) (cVar 1)) aNil)) [some (.ref n), some (.int lots), some (.int last), none] h3 = .nx [some (.ref n), some (.int lots), some (.int last), none] h4 := by
        refine sExpr_eq (d := .non) ((cMeth_eq (d := .ref m) (h1 := h3) (h2 := h3) (ds := [.int (last.fdiv lots)]) (cBin_eq (x := .ref n) (y := .int 0) rfl rfl |>.trans (i0 _ h3n)) (by simp [isTy, tyD, h3m]) (aCons_eq ((cBin_eq (x := .int last) (y := .int lots) rfl rfl).trans fd) aNil_eq)).trans ?_)
        simp only [mAppend, h3m, eh4]
        rw [if_pos lz]
      have b := And.intro (Int.fmod_nonneg_of_pos last hl) (Int.fmod_lt_of_pos last hl)
      refine ⟨h4, (c0 :: cs).dropLast ++ [last.fdiv lots], ?_, h4n, h4m, st.trans (by rw [eh4]; exact .set2), .inr ⟨last.fmod lots, b.1, b.2, ?_⟩⟩
      · simp at hz ⊢
        omega
      · exact whole3.trans ((sSeq_nx app).trans (sRet_eq ((cBin_eq (x := .int last) (y := .int lots) rfl rfl).trans (mod_ok hl))))
    · have t2 := test2 h3
      rw [decide_eq_false big] at t2
      refine ⟨h3, (c0 :: cs).dropLast, ?_, h3n, h3m, st, .inl ⟨last, whole2.trans (sIf_f t2)⟩⟩
      simp at hz ⊢
      omega
theorem dealt_ok {h : AH} {n m : Nat} {c lots : Int} (H : Hand h n m c) (hc : 0 ≤ c) (hc2 : c < 1000000) (hl : 0 < lots) (hl2 : lots < 1000000) :
    ∃ (r : Int) (h' : AH), fDealt [.ref n, .int lots] h = .ok (.int r) h' ∧ 0 ≤ r ∧ r < lots ∧ Hand h' n m (c + 1) ∧ Step n m h h' := by
  obtain ⟨hmn, cells, t, hz, hn, hm⟩ := H
  have ln : n < h.length := (List.getElem?_eq_some_iff.mp hn).1
  obtain ⟨h1, eh1⟩ : ∃ h1, h1 = h.set n (.lst [.ref m, .int t, .int (c + 1)]) := ⟨_, rfl⟩
  have hn1 : h1[n]? = some (.lst [.ref m, .int t, .int (c + 1)]) := by rw [eh1]; simp [ln]
  have hm1 : h1[m]? = some (.lst (cells.map D.int)) := by rw [eh1, List.getElem?_set_ne (Ne.symm hmn)]; exact hm
  have st1 : Step n m h h1 := by rw [eh1]; exact .set1
  have z0 : sPut (cBin opAdd (cBin opIx (cVar 0) (cC (.int 2))) (cC (.int 1))) (cVar 0) (cC (.int 2)) [some (.ref n), some (.int lots), none, none] h = .nx [some (.ref n), some (.int lots), none, none] h1 := by
    simp [sPut, cBin, cVar, cC, opIx, seqD, atI, ixN, opAdd, putL, hn, eh1]
  have z1 : sSet 2 (cBin opIx (cVar 0) (cC (.int 1))) [some (.ref n), some (.int lots), none, none] h1 = .nx [some (.ref n), some (.int lots), some (.int t), none] h1 := by
    simp [sSet, cBin, cVar, cC, opIx, seqD, atI, ixN, hn1]
  obtain ⟨h2, cells2, hz2, g1, g2, st2, ⟨cell, e⟩ | ⟨r, r1, r2, e⟩⟩ := dealtIf_ok hmn hn1 hm1 hl hl2 hz
  · obtain ⟨r, e3, r1, r2⟩ := dealtTail_ok (cell := cell) (x := none) g1 (by omega) (by omega) hl hl2
    exact ⟨r, h2, runB_ret rfl ((sSeq_nx z0).trans ((sSeq_nx z1).trans ((sSeq_nx e).trans e3))), r1, r2, ⟨hmn, cells2, t, hz2, g1, g2⟩, st1.trans st2⟩
  · exact ⟨r, h2, runB_ret rfl ((sSeq_nx z0).trans ((sSeq_nx z1).trans (sSeq_ret e))), r1, r2, ⟨hmn, cells2, t, hz2, g1, g2⟩, st1.trans st2⟩
theorem Hand.get {h h' : AH} {n m : Nat} {c : Int} (H : Hand h n m c) (e1 : h'[n]? = h[n]?) (e2 : h'[m]? = h[m]?) : Hand h' n m c := by
  obtain ⟨a, cells, t, z, h1, h2⟩ := H
  exact ⟨a, cells, t, z, e1.trans h1, e2.trans h2⟩
theorem Hand.lt {h : AH} {n m : Nat} {c : Int} (H : Hand h n m c) : n < h.length ∧ m < h.length := by
  obtain ⟨a, cells, t, z, h1, h2⟩ := H
  exact ⟨(List.getElem?_eq_some_iff.mp h1).1, (List.getElem?_eq_some_iff.mp h2).1⟩
theorem Hand.app {h os : AH} {n m : Nat} {c : Int} (H : Hand h n m c) : Hand (h ++ os) n m c :=
  H.get (by rw [List.getElem?_append_left H.lt.1]) (by rw [List.getElem?_append_left H.lt.2])
theorem Hand.set {h : AH} {n m k : Nat} {c : Int} {o : O} (H : Hand h n m c) (h1 : k ≠ n) (h2 : k ≠ m) : Hand (h.set k o) n m c :=
  H.get (by rw [List.getElem?_set_ne h1]) (by rw [List.getElem?_set_ne h2])
/-! begun -/
def begunTurn : SF := (sSet 3 (cBin opMod (cBin opAdd (cBin opAdd (cBin opMul (cVar 3) (cC (.int 48271))) (cBin opMod (cVar 1) (cC (.int 2147483563)))) (cC (.int 17))) (cC (.int 2147483629))))
def fBegun : FN := runB 1 4 (sSeq (sPar2 2 3 (cCall fList (aCons (cCut (cVar 0) oNone (oSome (cC (.int 63)))) aNil)) (cC (.int 50021)))
    (sSeq (sFor (iAny (cVar 2)) (gN 1) begunTurn)
    (sRet (cLst (aCons (cRev (cVar 2)) (aCons (cVar 3) (aCons (cC (.int 0)) aNil)))))))
theorem begun_ok {ns : List Int} (hl : ns.length ≤ 63) : ∃ (n m : Nat) (h' : AH), fBegun [.rol (ns.map D.int)] [] = .ok (.ref n) h' ∧ Hand h' n m 0 := by
  have cut : cCut (cVar 0) oNone (oSome (cC (.int 63))) [some (.rol (ns.map D.int)), none, none, none] [] = .ok (.ref 0) [.lst (ns.map D.int)] := by
    refine (cCut_eq (d := .rol (ns.map D.int)) (l := none) (u := some 63) rfl rfl rfl).trans ?_
    have e : cutL (ns.map D.int) none (some 63) = ns.map D.int := by
      unfold cutL
      rw [show HT.sIx (ns.map D.int).length 0 none = 0 from rfl, show HT.sIx (ns.map D.int).length (ns.map D.int).length (some 63) = min 63 (ns.map D.int).length from HT.sIx_nat _ _ 63, List.length_map, Nat.min_eq_right hl, List.drop_zero, Nat.sub_zero, List.take_of_length_le (by rw [List.length_map]; exact Nat.le_refl _)]
    show Res.ok (D.ref 0) [O.lst (cutL (ns.map D.int) none (some 63))] = _
    rw [e]
  have lst : cCall fList (aCons (cCut (cVar 0) oNone (oSome (cC (.int 63)))) aNil) [some (.rol (ns.map D.int)), none, none, none] [] = .ok (.ref 1) [.lst (ns.map D.int), .lst (ns.map D.int)] := cCall_eq (aCons_eq cut aNil_eq)
  have it : iAny (cVar 2) [some (.rol (ns.map D.int)), none, some (.ref 1), some (.int 50021)] [.lst (ns.map D.int), .lst (ns.map D.int)] = .ok (.live 1 (ns.map D.int).length) [.lst (ns.map D.int), .lst (ns.map D.int)] := rfl
  obtain ⟨ε', h', e1, ⟨y, t, rfl⟩, rfl⟩ := sFor_inv (B := begunTurn) (g := gN 1) it (fun _ ε h => (∃ y t, ε = [some (.rol (ns.map D.int)), y, some (.ref 1), some (.int t)]) ∧ h = [.lst (ns.map D.int), .lst (ns.map D.int)]) ns.length (by simp [AIt.len]) ⟨⟨none, 50021, rfl⟩, rfl⟩
    (by
      rintro i ε h hi ⟨⟨y, t, rfl⟩, rfl⟩
      refine ⟨.int ns[i], [_, some (.int ns[i]), _, _], [_, _, _, some (.int ((t * 48271 + (ns[i]).fmod 2147483563 + 17).fmod 2147483629))], _, ?_, rfl, .inl (sSet_eq ?_), ⟨⟨_, _, rfl⟩, rfl⟩⟩
      · simp [AIt.item, hi]
      · have m1 : ∀ (a : Int) (h : AH), opMul (.int a) (.int 48271) h = .ok (.int (a * 48271)) h := fun a h => by simp [opMul, sm_l (show (0 : Int) ≤ 48271 by decide) (by decide)]
        exact (cBin_eq ((cBin_eq ((cBin_eq ((cBin_eq rfl rfl).trans (m1 _ _)) ((cBin_eq rfl rfl).trans (mod_ok (by decide)))).trans rfl) rfl).trans rfl) rfl).trans (mod_ok (by decide)))
    (by
      rintro ε h ⟨_, rfl⟩
      simp [AIt.fin])
  refine ⟨3, 2, [.lst (ns.map D.int), .lst (ns.map D.int), .lst (ns.map D.int).reverse, .lst [.ref 2, .int t, .int 0]], runB_ret rfl ((sSeq_nx (sPar2_eq lst rfl)).trans ((sSeq_nx e1).trans (sRet_eq (cLst_eq (ds := [.ref 2, .int t, .int 0]) (h1 := [.lst (ns.map D.int), .lst (ns.map D.int), .lst (ns.map D.int).reverse]) (aCons_eq (x := .ref 2) (h1 := [.lst (ns.map D.int), .lst (ns.map D.int), .lst (ns.map D.int).reverse]) rfl (aCons_eq (x := .int t) rfl (aCons_eq rfl aNil_eq))) ?_)))), by decide, ns.reverse, t, by rw [List.length_reverse]; omega, rfl, ?_⟩
  · rw [sizeLine_eq]
    exact Nat.le_of_ble_eq_true rfl
  · rw [List.map_reverse]
    rfl
/-! pick -/
def fPick : FN := runB 2 2 (sRet (cBin opIx (cVar 1) (cFn fDealt (aCons (cVar 0) (aCons (cCall fLen (aCons (cVar 1) aNil)) aNil)))))
theorem at_of {ds : List D} {r : Int} (h1 : 0 ≤ r) (h2 : r < ds.length) : ∃ d, d ∈ ds ∧ atI ds r = some d := by
  have hl : r.toNat < ds.length := by omega
  refine ⟨ds[r.toNat], List.getElem_mem hl, ?_⟩
  unfold atI ixN
  rw [if_pos h1, if_pos h2]
  exact List.getElem?_eq_getElem hl
theorem pick_ok {h : AH} {n m s : Nat} {c : Int} {ds : List D} (H : Hand h n m c) (hc : 0 ≤ c) (hc2 : c < 1000000) (hs : h[s]? = some (.lst ds)) (hsn : s ≠ n) (hsm : s ≠ m) (h0 : ds ≠ []) (hz : ds.length < 1000000) :
    ∃ (d : D) (h' : AH), fPick [.ref n, .ref s] h = .ok d h' ∧ d ∈ ds ∧ Hand h' n m (c + 1) ∧ Step n m h h' := by
  have hp : 0 < ds.length := List.length_pos_iff.mpr h0
  obtain ⟨r, h', e, r1, r2, H', st⟩ := dealt_ok (lots := ds.length) H hc hc2 (by omega) (by omega)
  have hs' : h'[s]? = some (.lst ds) := (st.keep s hsn hsm (List.getElem?_eq_some_iff.mp hs).1).trans hs
  obtain ⟨d, hd, ed⟩ := at_of r1 r2
  refine ⟨d, h', runB_ret rfl (sRet_eq ((cBin_eq (x := .ref s) (y := .int r) (h1 := h) (h2 := h') rfl (cFn_eq (aCons_eq (x := .ref n) (h1 := h) rfl (aCons_eq (x := .int ds.length) (h1 := h) (h2 := h) ?_ aNil_eq)) |>.trans e)).trans ?_)), hd, H', st⟩
  · refine (cCall_eq (aCons_eq (x := .ref s) (h1 := h) rfl aNil_eq)).trans ?_
    simp only [fLen, hs]
  · simp only [opIx, seqD, hs', ed]
end Mi

namespace Mi
open L2 PySem PySem.Spec PyProof.Rows

/-! ### texts of few plain signs -/
def Asc (n : Nat) (x : Str) : Prop := x.length ≤ n ∧ ∀ c ∈ x.cps.toList, c < 128
theorem len_list (x : Str) : x.length = x.cps.toList.length := by simp [Str.length]
theorem Asc.mono {n m : Nat} {x : Str} (a : Asc n x) (h : n ≤ m) : Asc m x := ⟨Nat.le_trans a.1 h, a.2⟩
theorem Asc.app {n m : Nat} {x y : Str} (a : Asc n x) (b : Asc m y) : Asc (n + m) (x ++ y) := by
  have e : (x ++ y).cps.toList = x.cps.toList ++ y.cps.toList := by
    show (x.cps ++ y.cps).toList = _
    simp
  refine ⟨?_, fun c hc => ?_⟩
  · rw [len_list, e, List.length_append, ← len_list, ← len_list]
    exact Nat.add_le_add a.1 b.1
  · rw [e] at hc
    rcases List.mem_append.mp hc with q | q
    · exact a.2 c q
    · exact b.2 c q
theorem asc_nil : Asc 0 (⟨#[]⟩ : Str) := ⟨Nat.le_refl _, fun c hc => by simp at hc⟩
theorem asc_one {c : Nat} (h : c < 128) : Asc 1 (⟨#[c]⟩ : Str) := ⟨Nat.le_refl _, fun d hd => by simp at hd; omega⟩
theorem Asc.sub {n : Nat} {x : Str} {l : List Nat} (a : Asc n x) (s : l.Sublist x.cps.toList) : Asc n ⟨l.toArray⟩ := by
  refine ⟨?_, fun c hc => a.2 c (s.subset (by simpa using hc))⟩
  rw [len_list]
  have := s.length_le
  rw [← len_list] at this
  exact Nat.le_trans (by simpa using this) a.1
theorem Asc.cut {n : Nat} {x : Str} (a : Asc n x) (lo hi : Option Int) : Asc n (cutS x lo hi) :=
  a.sub ((List.take_sublist _ _).trans (List.drop_sublist _ _))
theorem asc_join : ∀ ys : List Str, (∀ y ∈ ys, Asc 1 y) → Asc ys.length (Str.join (⟨#[]⟩ : Str) ys)
  | [], _ => asc_nil
  | [y], h => h y List.mem_cons_self
  | y :: z :: r, h => by
    have ih := asc_join (z :: r) fun w hw => h w (List.mem_cons_of_mem _ hw)
    have q := ((h y List.mem_cons_self).app asc_nil).app ih
    refine q.mono ?_
    simp only [List.length_cons]
    omega
theorem Asc.ok {n : Nat} {x : Str} (a : Asc n x) : PyData.strOk x = true := by
  unfold PyData.strOk
  rw [← Array.all_toList]
  refine List.all_eq_true.mpr fun c hc => ?_
  have := a.2 c hc
  simp only [decide_eq_true_eq]
  omega
/-- the text of what is data -/
theorem reprD_of {h : AH} {d : D} {p : PyData} (e : pd 60 h d = some p) (h1 : p.showable = true) (h2 : PyData.layable0 p = true) (h3 : p.intsShort 13 = true) : ∃ s, reprD d h = some s := by
  have z := shown_le13 h2 h3
  have q : p.showable = true ∧ p.shown.length ≤ sizeLine := ⟨h1, by rw [sizeLine_eq]; omega⟩
  refine ⟨p.shown, ?_⟩
  unfold reprD
  rw [e]
  simp only
  rw [if_pos q]
theorem reprD_str {h : AH} {x : Str} {n : Nat} (a : Asc n x) (hn : n ≤ 100000) : ∃ s, reprD (.str x) h = some s := by
  refine reprD_of (p := .str x) rfl (by simp [PyData.showable]) ?_ (by simp [PyData.intsShort])
  have : x.cps.size ≤ n := a.1
  have z : x.cps.size ≤ 2 ^ 20 := by omega
  simp only [PyData.layable0, PyData.canLay0, a.ok, PyData.depth, PyData.weight, Bool.true_and, Bool.and_eq_true, decide_eq_true_eq]
  exact ⟨rfl, decide_eq_true z⟩

/-! ### what is behind stays as it is -/
theorem getElem_pre {h h' : AH} {n : Nat} {o : O} (p : h <+: h') (e : h[n]? = some o) : h'[n]? = some o := by
  obtain ⟨r, rfl⟩ := p
  rw [List.getElem?_append_left (List.getElem?_eq_some_iff.mp e).1]
  exact e
theorem omap_imp {α β : Type} {f g : α → Option β} (i : ∀ x y, f x = some y → g x = some y) : ∀ {xs : List α} {ys : List β}, omap f xs = some ys → omap g xs = some ys
  | [], _, e => e
  | x :: xs, ys, e => by
    unfold omap at e ⊢
    cases q1 : f x with
    | none => rw [q1] at e; cases e
    | some y =>
      cases q2 : omap f xs with
      | none => rw [q1, q2] at e; cases e
      | some zs =>
        rw [q1, q2] at e
        rw [i _ _ q1, omap_imp i q2]
        exact e
theorem pd_pre {h h' : AH} (p : h <+: h') : ∀ (n : Nat) (d : D) (q : PyData), pd n h d = some q → pd n h' d = some q := by
  intro n
  induction n with
  | zero =>
    intro d q e
    cases d <;> simp only [pd] at e ⊢ <;> first | exact e | cases e
  | succ n ih =>
    intro d q e
    cases d with
    | tup xs =>
      simp only [pd, Option.map_eq_some_iff] at e ⊢
      obtain ⟨ps, z, rfl⟩ := e
      exact ⟨ps, omap_imp ih z, rfl⟩
    | rol xs =>
      simp only [pd, Option.map_eq_some_iff] at e ⊢
      obtain ⟨ps, z, rfl⟩ := e
      exact ⟨ps, omap_imp ih z, rfl⟩
    | ref r =>
      simp only [pd] at e ⊢
      split at e <;> first | (cases e; done) | skip
      rename_i xs q1
      rw [getElem_pre p q1]
      obtain ⟨ps, z, rfl⟩ := Option.map_eq_some_iff.mp e
      exact Option.map_eq_some_iff.mpr ⟨ps, omap_imp ih z, rfl⟩
    | _ => simp only [pd] at e ⊢ <;> first | exact e | cases e
def pd0 : D → Option PyData
  | .non => some .none
  | .bl b => some (.bool b)
  | .int i => some (.int i)
  | .str x => some (.str x)
  | _ => none
theorem pd_zero {h : AH} {d : D} : pd 0 h d = pd0 d := by cases d <;> rfl
theorem reprD_pre {h h' : AH} (p : h <+: h') {d : D} {s : Str} (e : reprD d h = some s) : reprD d h' = some s := by
  unfold reprD at e ⊢
  cases q : pd 60 h d with
  | some x =>
    rw [q] at e
    rw [pd_pre p _ _ _ q]
    exact e
  | none =>
    rw [q] at e
    simp only at e
    cases d with
    | ref n =>
      simp only [pdDict] at e
      cases q2 : h[n]? with
      | none => rw [q2] at e; cases e
      | some o =>
        rw [q2] at e
        cases o with
        | dic kvs =>
          have e0 : (pd 60 h' (.ref n)) = none := by simp only [pd, getElem_pre p q2]
          have same : pdDict h' (.ref n) = pdDict h (.ref n) := by
            unfold pdDict
            simp only [getElem_pre p q2, q2, pd_zero]
          rw [e0, same]
          unfold pdDict
          simp only [q2]
          exact e
        | _ => cases e
    | _ => cases e
theorem tyD_pre {h h' : AH} (p : h <+: h') {d : D} {t : String} (e : tyD d h = some t) : tyD d h' = some t := by
  cases d with
  | ref n =>
    simp only [tyD] at e ⊢
    cases q2 : h[n]? with
    | none => rw [q2] at e; cases e
    | some o =>
      rw [getElem_pre p q2]
      rw [q2] at e
      exact e
  | _ => exact e
end Mi

namespace Mi
open L2 PySem PySem.Spec PyProof.Rows

/-- [y for d in ds if b]: nothing is changed by y, b -/
theorem cComp_filter {iF : IF} {g : TF'} {t : TF} {F : EF} {own : List Nat} {ε : AEnv} {h h1 : AH} {ds : List D} (hi : iF ε h = .ok (.fix ds) h1) (hs : ds.length < sizeLine) (e : D → AEnv) (b : D → Bool) (y : D → D)
    (hg : ∀ d ∈ ds, ∀ h, g d (wipeA ε own) h = some (e d)) (ht : ∀ d ∈ ds, ∀ h, t (e d) h = .ok (b d) h) (hF : ∀ d ∈ ds, ∀ h, F (e d) h = .ok (y d) h) : cComp iF g t F own ε h = .ok (.ref h1.length) (h1 ++ [.lst ((ds.filter b).map y)]) := by
  have tk : ∀ i (hi : i < ds.length), ds.take (i + 1) = ds.take i ++ [ds[i]] := fun i hi => by rw [List.take_succ, List.getElem?_eq_getElem hi]; rfl
  obtain ⟨acc, h', e1, rfl, rfl⟩ := cComp_inv (it := .fix ds) (g := g) (t := t) (F := F) (own := own) hi (fun i acc h2 => acc = ((ds.take i).filter b).map y ∧ h2 = h1 ++ [.lst acc]) ds.length rfl hs
    (by rintro i acc h2 ⟨_, rfl⟩; simp)
    (by
      rintro i acc h2 ⟨rfl, _⟩
      rw [List.length_map]
      exact Nat.le_trans (List.length_filter_le _ _) (by rw [List.length_take]; exact Nat.min_le_left _ _))
    ⟨by simp, rfl⟩
    (by
      rintro i acc h2 hlt ⟨rfl, rfl⟩
      have hm : ds[i] ∈ ds := List.getElem_mem hlt
      refine ⟨ds[i], e ds[i], b ds[i], _, by simp [AIt.item, hlt], hg _ hm _, ht _ hm _, ?_⟩
      cases q : b ds[i] with
      | false => exact .inl ⟨rfl, by rw [tk i hlt, List.filter_append]; simp [q], rfl⟩
      | true => exact .inr ⟨rfl, y ds[i], _, hF _ hm _, by simp, by rw [tk i hlt, List.filter_append]; simp [q], by simp⟩)
    (by rintro acc h2 _; rfl)
  rw [e1, List.take_length]

/-! ### rows of texts -/
theorem strs_shaped {ys : List Str} (hy : ∀ y ∈ ys, PyData.strOk y = true) : SeqAt.shaped (.list (ys.map PyData.str)) = true := by
  have h1 : ∀ ys : List Str, (∀ y ∈ ys, PyData.strOk y = true) → PyData.canLayAll0 (ys.map PyData.str) = true := fun ys => by
    induction ys with
    | nil => intro _; simp [PyData.canLayAll0]
    | cons c cs ih =>
      intro hy
      simp [PyData.canLayAll0, PyData.canLay0, hy c List.mem_cons_self, ih fun z hz => hy z (List.mem_cons_of_mem _ hz)]
  have h2 : ∀ cs : List Str, PyData.depthAll (cs.map PyData.str) = 0 := fun cs => by
    induction cs with
    | nil => simp [PyData.depthAll]
    | cons c cs ih => simp [PyData.depthAll, PyData.depth, ih]
  simp [SeqAt.shaped, PyData.canLay0, PyData.depth, h1 ys hy, h2]
theorem pd_strs (h : AH) (k : Nat) : ∀ ys : List Str, omap (pd k h) (ys.map D.str) = some (ys.map PyData.str)
  | [] => rfl
  | c :: cs => by
    simp only [List.map_cons]
    unfold omap
    rw [pd_strs h k cs]
    cases k <;> rfl
theorem pd_lst {h : AH} {n k : Nat} {ds : List D} {ps : List PyData} (e : h[n]? = some (.lst ds)) (q : omap (pd k h) ds = some ps) : pd (k + 1) h (.ref n) = some (.list ps) := by
  simp only [pd, e, q, Option.map_some]
theorem eqv_strs (ys : List Str) : PyData.eqv (.list (ys.map PyData.str)) (.list []) = ys.isEmpty := by
  cases ys with
  | nil => simp [PyData.eqv, PyData.eqvAll]
  | cons c cs => simp [PyData.eqv, PyData.eqvAll]
/-- a row of texts == [] -/
theorem opEq_strs {h : AH} {n m : Nat} {ys : List Str} (hn : h[n]? = some (.lst (ys.map D.str))) (hm : h[m]? = some (.lst [])) (hy : ∀ y ∈ ys, PyData.strOk y = true) : opEq (.ref n) (.ref m) h = .ok (.bl ys.isEmpty) h := by
  have p1 := pd_lst hn (pd_strs h 65 ys)
  have p2 : pd 66 h (.ref m) = some (.list []) := pd_lst hm rfl
  have s2 : SeqAt.shaped (.list []) = true := shaped_ints []
  simp only [opEq, scalEq, p1, p2, strs_shaped hy, s2, and_self, if_true, eqv_strs]
theorem get_last {h : AH} {o : O} : (h ++ [o])[h.length]? = some o := by simp
theorem get_old {h : AH} {o : O} {n : Nat} {u : O} (e : h[n]? = some u) : (h ++ [o])[n]? = some u := by
  rw [List.getElem?_append_left (List.getElem?_eq_some_iff.mp e).1]
  exact e
end Mi

namespace Mi
open L2 PySem PySem.Spec PyProof.Rows GxR

/-! ### all(test for x in text), the test of names of the module, too -/
/-- the test: the sign c stands at x; what the text has written stands -/
def EltQ (X : Cx) (scope : Scope) (x : Str) (elt : Expr) (pb : Nat → Bool) : Prop :=
  ∀ (cenv : Env) (A' : Around) (E' : Value → Shared → Prop) (c : Nat) (t : Tok) (s : Shared) (m : Str → Option Value), L2.Mod X.K X.mg X.base → cenv.scope = scope → cenv.globals = mainGlobals → cenv.builtins = builtinsNs → (∀ b o, X.base.get? b = some o → s.heap.get? b = some o) → A'.handled = none →
    s.heap.Ns cenv.locals m → m x = some (.str ⟨#[c]⟩ t) → wpAny (model X.prog X.w) A' (eval elt cenv) (fun y s' => y = .bool (pb c) ∧ Keeps s s') E' s
section
variable {X : Cx} {pins : List (Addr × Obj)} {σ : L2.St} {H : Hp} {s : Shared} {W : WX} {cls ts : List Addr}
theorem gen_strQ {c P : Addr} {elt iter : Expr} {x : Str} {px gpos : Pos} {scope : Scope} {pb : Nat → Bool} {te : TE} {k : Nat} {Qv : Value → Shared → Prop} {R : Str → Hp → Prop} (hr : Room k X.A) (TB : TabB X.base X.mg c P) (hcode : X.env.code = .ref c) (S : GenS X.env scope x) (hi : PE X iter te) (hel : EltQ X scope x elt pb)
    (hs : ∀ v, genFold iter X.env v = pure v) (I : Inv X pins σ H s) (h : te σ H fun v H1 => ∃ a : Str, v = .str a ∧ TabG H1 P ∧ R a H1) (hQ : ∀ a H1 g s5, R a H1 → Ready X pins σ H1 P a pb g s5 → Qv (.ref g) s5) :
    wpAny (model X.prog X.w) X.A (eval (.GeneratorExp elt [⟨.Name x px, iter, [], 0⟩] scope gpos) X.env) Qv X.xe s := by
  refine wpAny_GeneratorExp_walksQ hr.hd S.co (closure_ok S.free) S.cell S.dot S.loc S.kind (by have := hr.dp; omega) (thn (hi.run pins s σ H _ I h) ?_) hs
  rintro xv s1 ⟨_, H1, I1, r1, a, rfl, ⟨ps, hP, ht⟩, q1⟩
  obtain ⟨t, rfl⟩ := (show ∃ t, xv = Value.str a t from r1)
  refine wpAny_pyIter_str fun o St Wk hst => ⟨I1.nolimit.push o, ?_⟩
  have atP : s1.heap.get? P = some (tblO ps) := I1.hok P _ hP
  have ltP := Heap.lt_size atP
  have up2 : ∀ b u, s1.heap.get? b = some u → (s1.heap.push o).get? b = some u := fun b u e => Heap.get?_push_of_some _ e
  have cd := TB.code.keeps fun b u e => up2 b u (I1.bk b u e)
  have go : ∀ (code : Value) (h3 : Heap) (tk : Nat) (qs more : Array Value), qs = ps ++ more → Heap.ExtBut P (s1.heap.push o) h3 → (s1.heap.push o).objs.size ≤ h3.objs.size → h3.get? P = some (tblO qs) → TriplesOk qs.toList →
      wpAny (model X.prog X.w) X.A (builtinsFor X.env.globals X.env.builtins) (fun bi s₄ => ∃ Ia fp wr n₀ Pf St₀ pz F, Value.ref s1.heap.objs.size = .ref Ia ∧ (∀ A' : Around, A'.handled = none → Walks X.prog X.w A' Ia fp wr n₀ Pf St₀) ∧ St₀ 0 s₄.heap ∧ (∀ b ∈ fp, b < s₄.heap.objs.size) ∧ s₄.heap.NoLimit ∧ cStatics ∉ wr ∧
        (∀ href : Heap, (∀ b o, s₄.heap.get? b = some o → href.get? b = some o) → QuietGen X.prog X.w (genEnv scope (cloFrom X.env.cells scope.names []) s₄.heap.objs.size code bi X.env) x [] elt (List.range s₄.heap.objs.size) wr Pf pz F href) ∧
        ∀ a h₅ tk gs, gs.bare = true → s₄.heap.objs.size < a → h₅.objs.size = a + 1 → (∀ b o, s₄.heap.get? b = some o → h₅.get? b = some o) →
          WalksS X.prog X.w X.A.in4 a (a :: s₄.heap.objs.size :: List.range s₄.heap.objs.size) (s₄.heap.objs.size :: wr) (GenOnlyQ s₄.gens.size) (passing pz n₀ 0).length (fun j y => ∃ i, (passing pz n₀ 0)[j]? = some i ∧ F i y) (GenAt X.prog X.w X.A.in4 a s₄.gens.size s₄.heap.objs.size (List.range s₄.heap.objs.size) wr pz n₀ F) →
          GenAt X.prog X.w X.A.in4 a s₄.gens.size s₄.heap.objs.size (List.range s₄.heap.objs.size) wr pz n₀ F 0 { s₄ with gens := s₄.gens.push gs, toks := tk, heap := h₅ } → Qv (.ref a) { s₄ with gens := s₄.gens.push gs, toks := tk, heap := h₅ }) X.xe { s1 with heap := h3, toks := tk } := by
    rintro code h3 tk qs more eq hx hz hP3 ht3
    obtain ⟨bm, ob, e1, e2, e3, e4, e5, e6, e7, e8⟩ := TB.bm
    have sz2 : (s1.heap.push o).objs.size = s1.heap.objs.size + 1 := Heap.size_push ..
    have k3 : ∀ b u, b ≠ P → s1.heap.get? b = some u → h3.get? b = some u := fun b u hb e => hx b u hb (up2 b u e)
    have noC : cStatics ≠ P ∧ cStatics < s1.heap.objs.size := by
      obtain ⟨_, hns, _⟩ := I1.nolimit
      refine ⟨fun e => ?_, hns.lt⟩
      obtain ⟨o', es, ep, ho, hd, _⟩ := hns
      rw [e, atP] at ho
      cases ho
      cases hd
    -- what the text has written is none of the table, none of the iterator
    have basN : ∀ b u, X.base.get? b = some u → b ≠ P ∧ b < s1.heap.objs.size := fun b u e => by
      refine ⟨fun z => ?_, Heap.lt_size (I1.bk b u e)⟩
      have q := (I1.bs b u e).2
      rw [z, hP] at q
      cases q
    refine wpAny_builtinsFor (m := X.mg) (by rw [I1.ok.glob]; exact ((I1.mod.glob.keeps I1.bk).push o).extBut hx TB.gP) e1 e2 (k3 _ _ e4 (I1.bk _ _ e5)) e6 e7 e8 ?_
    refine ⟨s1.heap.objs.size, [s1.heap.objs.size], [s1.heap.objs.size], a.cps.size, SignAt a, St, (fun _ => true), (fun i y => ∃ cc, a.cps[i]? = some cc ∧ y = .bool (pb cc)), rfl, Wk, ?_, fun b hb => ?_, (I1.nolimit.push o).extBut hx noC.1, fun z => ?_, fun href hh => ⟨fun A' E' i v s₂ m₂ _ _ _ _ _ => ?_, fun A' E' i v s₂ m₂ hA hv _ hn hm hk => ?_⟩, ?_⟩
    · refine (Wk X.A hr.hd).frame _ _ _ hst fun b hb u e => hx b u (fun z => ?_) e
      rw [List.mem_singleton] at hb
      exact Nat.ne_of_lt ltP (z.symm.trans hb)
    · rw [List.mem_singleton.mp hb]
      show s1.heap.objs.size < h3.objs.size
      omega
    · exact Nat.ne_of_lt noC.2 (List.mem_singleton.mp z)
    · rw [List.forIn_nil]
      exact wpAny_pure ⟨rfl, keeps_refl _⟩
    · obtain ⟨cc, u, hcc, rfl⟩ := hv
      refine wpAny_mono (hel _ A' E' cc u s₂ m₂ I1.mod rfl (by show X.env.globals = _; exact I1.ok.glob) rfl (fun b o' e => ?_) hA hn hm) (fun y s3 r => ⟨⟨cc, hcc, r.1⟩, r.2⟩) fun _ _ e => e
      obtain ⟨n1, n2⟩ := basN b o' e
      have e9 := k3 b o' n1 (I1.bk b o' e)
      refine hk b (List.mem_range.mpr (Heap.lt_size e9)) (fun z => ?_) o' (hh b o' e9)
      exact Nat.ne_of_lt n2 (List.mem_singleton.mp z)
    · intro g h5 tk5 gs hgb hag hsz5 hk5 W5 hat
      simp only [GxR.passing_true, List.length_range] at W5
      refine hQ a H1 g _ q1 ⟨_, _, _, _, _, W5.in4_1, hat, ?_, fun s' hm => ?_⟩
      · rintro j y sj Qj Ej ⟨i, hij, cc, hcc, rfl⟩ hQj
        obtain ⟨hj, ej⟩ := List.getElem?_eq_some_iff.mp hij
        rw [List.getElem_range] at ej
        subst ej
        have hQ2 : Qj (trF pb a.cps.toList j) sj := hQj
        rw [trF_some (b := cc) (by rw [Array.getElem?_toList]; exact hcc)] at hQ2
        exact wpAny_truthy_bool hQ2
      · have nwr : ∀ b u, s1.heap.get? b = some u → b ∉ h3.objs.size :: [s1.heap.objs.size] := fun b u e hb => by
          have hl := Heap.lt_size e
          have z3 : s1.heap.objs.size < h3.objs.size := by omega
          rcases List.mem_cons.mp hb with z | z
          · rw [z] at hl
            exact Nat.lt_asymm z3 hl
          · rw [List.mem_singleton.mp z] at hl
            exact Nat.lt_irrefl _ hl
        have J := inv_tab (more := more) (h' := s'.heap) (g' := s'.gens) (d' := s'.drawn) (t' := s'.toks) I1 hP (fun b u hb e => hm.heap b u (nwr b u e) (hk5 b u (k3 b u hb e)))
          (by rw [← eq]; exact hm.heap P _ (nwr P _ atP) (hk5 P _ hP3)) (AllBare.movedS (I1.bare.push hgb) hm)
        rw [sh_eta s1 s' hm.os] at J
        exact ⟨upd H1 P (.tbl (ps ++ more)), ⟨⟨ps ++ more, upd_same, by rw [← eq]; exact ht3⟩, fun b hb => upd_ne hb⟩, J⟩
  cases hf : codeAmong gpos ps.toList with
  | some cv => exact wpAny_genexprCode_hit hcode (cd.code (up2 _ _ atP) ht) hf (go cv (s1.heap.push o) s1.toks ps #[] (by simp) (Heap.ExtBut.refl _ _) (Nat.le_refl _) (up2 _ _ atP) ht)
  | none =>
    refine wpAny_genexprCodeX hcode (cd.code (up2 _ _ atP) ht) (cd.tab (up2 _ _ atP)) hf fun c' h' tk hx hge hlt hco _ htab _ => ?_
    obtain ⟨_, _, _, _, _, _, _, _, _, _, _, _, _, _, _, _, _, _, _, htr, _⟩ := hco
    exact go _ h' tk _ _ rfl hx (Nat.le_trans hge (Nat.le_of_lt hlt)) htab.2 htr
theorem e_allQ {c P : Addr} {elt iter : Expr} {x : Str} {px p pos gpos : Pos} {scope : Scope} {pb : Nat → Bool} {F : EF} {k : Nat} (hr : Room k X.A) (hg : Gl X "all") (hm : X.mg "all" = none) (TB : TabB X.base X.mg c P) (hcode : X.env.code = .ref c) (hP : P ∈ ts)
    (S : GenS X.env scope x) (hi : E' X cls ts W iter F) (hel : EltQ X scope x elt pb) (hs : ∀ v, genFold iter X.env v = pure v)
    (he : starEach [.GeneratorExp elt [⟨.Name x px, iter, [], 0⟩] scope gpos] X.env = [(false, eval (.GeneratorExp elt [⟨.Name x px, iter, [], 0⟩] scope gpos) X.env)] := by rfl) :
    E' X cls ts W (.Call (.Name "all" p) [.GeneratorExp elt [⟨.Name x px, iter, [], 0⟩] scope gpos] [] pos) (cAllS pb F) := by
  refine ⟨fun pins s σ H Q I ⟨ρ, ε, h, hH, hE, q⟩ => ?_⟩
  have q1 : tE X.K cls ts W F σ H fun v H1 => ∃ a : Str, v = .str a ∧ TabG H1 P ∧ ∀ H2, Tabbed P H1 H2 → Q (.bl (a.cps.toList.all pb)) H2 := tG_bind hH hE q fun ρ1 H1 v h1 d _ e1 hH1 rv hE1 p1 => by
    cases rv <;> first | exact p1.elim | skip
    refine ⟨_, rfl, (hH1.tab P hP).2, fun H2 t => ?_⟩
    obtain ⟨e2, hH2⟩ := tabbed_ext hH1 hP t
    exact p1 _ _ _ e2 hH2 (.bl _)
  have he' : starEach [.GeneratorExp elt [⟨.Name x px, iter, [], 0⟩] scope gpos] X.env = (false, eval (.GeneratorExp elt [⟨.Name x px, iter, [], 0⟩] scope gpos) X.env) :: starEach [] X.env := he
  refine wpAny_Call_Name_kw (ld_blt I hg hm (by with_unfolding_all rfl : bootBuiltins "all" = some (.builtin "all")) (PyProof.Rows.callWith_builtin1 ?_ he' (by rfl)))
  rw [he']
  show wpAny _ _ (spliced ((false, eval (.GeneratorExp elt [⟨.Name x px, iter, [], 0⟩] scope gpos) X.env) :: [])) _ _ s
  refine Calls.spliced_cons (gen_strQ hr TB hcode S hi hel hs I q1 fun a H1 g s5 hR hG => ?_)
  obtain ⟨fp, wr, G, Fw, St, Ws, hst, htr, hI⟩ := hG
  refine Calls.spliced_nil (call_all_walkS (Ws.self 0 _ _ _ hst ⟨g, fp, wr, G, _, Fw, St, _, rfl, Ws, hst, htr, fun s' hmv => ?_⟩))
  obtain ⟨H2, hT, J⟩ := hI s' hmv
  refine ⟨.bl _, H2, J, rfl, ?_⟩
  rw [all_signs a pb]
  exact hR H2 hT
end
end Mi

namespace Mi
open L2 PySem PySem.Spec PyProof.Rows GxR

/-! ### tests of a sign, step by step -/
structure QC (X : Cx) (scope : Scope) (x : Str) (cenv : Env) (A' : Around) (c : Nat) (t : Tok) (m : Str → Option Value) (s : Shared) : Prop where
  md : L2.Mod X.K X.mg X.base
  sc : cenv.scope = scope
  gl : cenv.globals = mainGlobals
  bl : cenv.builtins = builtinsNs
  bs : ∀ b o, X.base.get? b = some o → s.heap.get? b = some o
  hd : A'.handled = none
  ns : s.heap.Ns cenv.locals m
  at_ : m x = some (.str ⟨#[c]⟩ t)
theorem keeps_trans {a b c : Shared} (h : Keeps a b) (k : Keeps b c) : Keeps a c := by
  obtain ⟨h1, t1, rfl, k1⟩ := h
  obtain ⟨h2, t2, rfl, k2⟩ := k
  exact ⟨h2, t2, rfl, fun d o e => k2 d o (k1 d o e)⟩
theorem QC.on {X : Cx} {scope : Scope} {x : Str} {cenv : Env} {A' : Around} {c : Nat} {t : Tok} {m : Str → Option Value} {s s' : Shared} (q : QC X scope x cenv A' c t m s) (k : Keeps s s') : QC X scope x cenv A' c t m s' := by
  obtain ⟨h1, t1, rfl, k1⟩ := k
  exact ⟨q.md, q.sc, q.gl, q.bl, fun b o e => k1 b o (q.bs b o e), q.hd, q.ns.keeps k1, q.at_⟩
def QEv (X : Cx) (scope : Scope) (x : Str) (e : Expr) (f : Nat → V) : Prop := ∀ (cenv : Env) (A' : Around) (E' : Value → Shared → Prop) (c : Nat) (t : Tok) (m : Str → Option Value) (s : Shared), QC X scope x cenv A' c t m s →
  wpAny (model X.prog X.w) A' (eval e cenv) (fun y s' => RelV (f c) y ∧ Keeps s s') E' s
theorem elt_of {X : Cx} {scope : Scope} {x : Str} {e : Expr} {pb : Nat → Bool} (h : QEv X scope x e fun c => .bl (pb c)) : EltQ X scope x e pb := fun cenv A' E' c t s m h0 h1 h2 h3 h4 h5 h6 h7 =>
  wpAny_mono (h cenv A' E' c t m s ⟨h0, h1, h2, h3, h4, h5, h6, h7⟩) (fun _ _ r => ⟨r.1, r.2⟩) fun _ _ z => z
section
variable {X : Cx} {scope : Scope} {x : Str} {a b d e : Expr} {fa fb fd : Nat → V} {pos p1 p2 p3 : Pos}
theorem q_str {z : Str} {j : Nat} : QEv X scope x (.Constant (.str z) j pos) fun _ => .str z := fun _ _ _ _ _ _ _ _ => Calls.Constant_str ⟨⟨_, rfl⟩, keeps_tok _ _⟩
theorem q_int {z : Int} {j : Nat} : QEv X scope x (.Constant (.int z) j pos) fun _ => .int z := fun _ _ _ _ _ _ _ _ => wpAny_Constant_int ⟨⟨_, rfl⟩, keeps_tok _ _⟩
theorem q_sign (hk : scope.kind = .function) (hl : scope.names.lookup x = some .local) (hd : (x == ("__debug__" : Str)) = false := by decide) : QEv X scope x (.Name x pos) fun c => .str ⟨#[c]⟩ := fun cenv A' E' c t m s q =>
  wpAny_Name (wpAny_loadName_local (by rw [q.sc]; exact hk) (show cenv.scope.names.lookup x = some .local by rw [q.sc]; exact hl) q.ns q.at_ ⟨⟨_, rfl⟩, keeps_refl _⟩) hd
theorem q_glob {y : Str} {v : V} (hk : scope.kind = .function) (hl : scope.names.lookup y = some .globalImplicit) (hm : ∃ u, X.mg y = some u ∧ RelV v u) (hd : (y == ("__debug__" : Str)) = false := by decide) : QEv X scope x (.Name y pos) fun _ => v := fun cenv A' E' c t m s q => by
  obtain ⟨u, hu, r⟩ := hm
  exact Calls.Name_function_global (by rw [q.sc]; exact hk) (show cenv.scope.names.lookup y = some .globalImplicit by rw [q.sc]; exact hl) (Calls.loadGlobal_global (by rw [q.gl]; exact q.md.glob.keeps q.bs) hu ⟨r, keeps_refl _⟩) hd
theorem q_ord (hk : scope.kind = .function) (hl : scope.names.lookup ("ord" : Str) = some .globalImplicit) (hm : X.mg "ord" = none) (ha : QEv X scope x a fun c => .str ⟨#[c]⟩)
    (he : ∀ cenv : Env, starEach [a] cenv = [(false, eval a cenv)] := by intro _; rfl) : QEv X scope x (.Call (.Name "ord" p1) [a] [] pos) fun c => .int (c : Nat) := fun cenv A' E' c t m s q => by
  obtain ⟨mb, h1, h2⟩ := q.md.blt
  refine wpAny_Call_Name_kw (Calls.Name_function_global (by rw [q.sc]; exact hk) (show cenv.scope.names.lookup ("ord" : Str) = some .globalImplicit by rw [q.sc]; exact hl)
    (Calls.loadGlobal_builtin (by rw [q.gl]; exact q.md.glob.keeps q.bs) hm (by rw [q.bl]; exact h1.keeps q.bs) ((h2 _ (by decide)).trans boot_ord) ?_) (by decide))
  have he' : starEach [a] cenv = (false, eval a cenv) :: starEach [] cenv := he cenv
  refine PyProof.Rows.callWith_builtin1 ?_ he' (by rfl)
  rw [he']
  show wpAny _ _ (spliced ((false, eval a cenv) :: [])) _ _ s
  refine Calls.spliced_cons (wpAny_mono (ha cenv A' E' c t m s q) (fun y s1 r => ?_) fun _ _ z => z)
  obtain ⟨⟨u, rfl⟩, k⟩ := r
  refine Calls.spliced_nil (PySem.P.ord_of_char ⟨⟨_, rfl⟩, keeps_trans k (keeps_tok _ _)⟩)
/-- a <= x <= b of texts -/
theorem q_between {z1 z2 : Str} {j1 j2 : Nat} (hk : scope.kind = .function) (hl : scope.names.lookup x = some .local) (hd : (x == ("__debug__" : Str)) = false := by decide) (hm : lastMarks [.LtE, .LtE] [.Name x p1, .Constant (.str z2) j2 p2] = false := by with_unfolding_all rfl) :
    QEv X scope x (.Compare (.Constant (.str z1) j1 p3) [.LtE, .LtE] [.Name x p1, .Constant (.str z2) j2 p2] pos) fun c => .bl (between z1 z2 c) := fun cenv A' E' c t m s q =>
  wpAny_mono (elt_between (prog := X.prog) (w := X.w) hk hl hd hm cenv A' E' c t s m q.sc q.ns q.at_) (fun _ _ r => ⟨r.1, r.2⟩) fun _ _ z => z
/-- a not in (G, H), ints of the module -/
theorem q_notin2 {y z : Str} {i j : Int} {k : Nat} {fi : Nat → Int} (ha : QEv X scope x a fun c => .int (fi c)) (hy : QEv X scope x (.Name y p1) fun _ => .int i) (hz : QEv X scope x (.Name z p2) fun _ => .int j) (hm : behindInMarks .NotIn (.Tuple [.Name y p1, .Name z p2] k p3) = false := by with_unfolding_all rfl)
    (he : ∀ cenv : Env, starEach [.Name y p1, .Name z p2] cenv = [(false, eval (.Name y p1) cenv), (false, eval (.Name z p2) cenv)] := by intro _; rfl) :
    QEv X scope x (.Compare a [.NotIn] [.Tuple [.Name y p1, .Name z p2] k p3] pos) fun c => .bl (!([i, j].any (· == fi c))) := fun cenv A' E' c t m s q => by
  refine wpAny_Compare1 (wpAny_mono (ha cenv A' E' c t m s q) (fun va s1 r => ?_) fun _ _ z => z)
  obtain ⟨⟨t1, rfl⟩, k1⟩ := r
  refine wpAny_Tuple_spliced ?_
  rw [he cenv]
  show wpAny _ _ (spliced ((false, eval (.Name y p1) cenv) :: (false, eval (.Name z p2) cenv) :: [])) _ _ s1
  refine Calls.spliced_cons (wpAny_mono (hy cenv A' E' c t m s1 (q.on k1)) (fun vy s2 r => ?_) fun _ _ z => z)
  obtain ⟨⟨t2, rfl⟩, k2⟩ := r
  refine Calls.spliced_cons (wpAny_mono (hz cenv A' E' c t m s2 ((q.on k1).on k2)) (fun vz s3 r => ?_) fun _ _ z => z)
  obtain ⟨⟨t3, rfl⟩, k3⟩ := r
  refine Calls.spliced_nil ⟨by rw [sizeLine_eq]; exact Nat.le_of_ble_eq_true rfl, ?_⟩
  refine notin_tuple_ints (ns := [i, j]) ⟨_, Heap.get?_push_size _ rfl, rfl, 0, rfl⟩ (.cons _ _ (.cons _ _ .nil)) ⟨rfl, keeps_trans k1 (keeps_trans k2 (keeps_trans k3 ⟨_, _, rfl, fun b o e => Heap.get?_push_of_some _ e⟩))⟩
theorem q_one {op : BoolOp} (ha : QEv X scope x a fa) : QEv X scope x (.BoolOp op [a] pos) fa := fun cenv A' E' c t m s q => BoolOp_one (ha cenv A' E' c t m s q)
theorem q_and {rest : List Expr} {ba bb : Nat → Bool} (ha : QEv X scope x a fun c => .bl (ba c)) (hb : QEv X scope x (.BoolOp .And (b :: rest) pos) fun c => .bl (bb c)) : QEv X scope x (.BoolOp .And (a :: b :: rest) pos) fun c => .bl (ba c && bb c) := fun cenv A' E' c t m s q => by
  refine BoolOp_and (wpAny_mono (ha cenv A' E' c t m s q) (fun va s1 r => ?_) fun _ _ z => z)
  obtain ⟨rv, k1⟩ := r
  obtain rfl : va = Value.bool (ba c) := rv
  refine wpAny_truthy_bool ?_
  cases e : ba c with
  | false => exact ite_ff ⟨by show Value.bool false = Value.bool (ba c && bb c); rw [e]; rfl, k1⟩
  | true => exact ite_tt (wpAny_mono (hb cenv A' E' c t m s1 (q.on k1)) (fun vb s2 r => ⟨by have z : vb = Value.bool (bb c) := r.1; show vb = Value.bool (ba c && bb c); rw [z, e]; rfl, keeps_trans k1 r.2⟩) fun _ _ z => z)
end
end Mi

namespace Mi
open L2 PySem PySem.Spec PyProof.Rows

/-! ### name op= e -/
def sAug (i : Nat) (f : Op2) (F : EF) : SF := fun ε h => match ε[i]? with
  | some (some x) => (F ε h).st ε fun y h1 => (f x y h1).st ε fun z h2 => .nx (ε.set i (some z)) h2
  | _ => .stuck
def opIAdd : Op2 := opII (fun _ _ => true) (· + ·)
theorem iop_addM {X : Cx} : OpR X (inplaceOp .Add) (rI (fun _ _ => True) fun i j => .int (i + j)) := opI fun _ _ _ _ _ _ _ _ q => iadd_int q
theorem opIAdd_ok {K : PySem.W.Frag} {cls ts : List Addr} : OpS K cls ts (rI (fun _ _ => True) fun i j => .int (i + j)) opIAdd := opII_ok fun _ _ _ => trivial
section
variable {X : Cx} {W : WX} {cls ts : List Addr} {e : Expr} {es : List Expr} {F : EF} {A : AF} {pos p : Pos} {x : Str}
theorem s_aug {i : Nat} {op : Operator} {r : R2} {f : Op2} {pos' : Pos} (hN : X.N.Nodup) (hi : X.N[i]? = some x) (hx : Loc X.env.scope x) (ho : OpR X (inplaceOp op) r) (os : OpS X.K cls ts r f) (he : E' X cls ts W e F)
    (hf : X.fn x = true ∨ X.env.scope.names.lookup x = some .local := by first | exact .inl rfl | exact .inr rfl | assumption) : S' X cls ts W (.AugAssign (.Name x pos') op e pos) (sAug i f F) := by
  refine ⟨fun pins s σ H E I ⟨ρ, ε, h, hH, hE, q⟩ => (ps_aug (ti := r) hN hi hx he ho hf).run pins s σ H E I ?_⟩
  unfold sAug at q
  split at q <;> first | exact q.elim | skip
  rename_i d ed
  obtain ⟨v, ev, rv⟩ := hE.2 i d ed
  refine ⟨v, ev, tS_bind hH hE q fun ρ1 H1 y h1 dy _ e1 hH1 ry hE1 p1 => ?_⟩
  have p1' : PostS X.K cls ts W ρ1 H1 ((f d dy h1).st ε fun z h2 => .nx (ε.set i (some z)) h2) E := p1
  refine os (fun c dd H' => W c dd σ H') ρ1 H1 h1 v y d dy _ hH1 (rv.mono e1) ry ?_
  cases z : f d dy h1 with
  | stuck => rw [z] at p1'; exact p1'
  | exc k h' => rw [z] at p1'; exact fun ρ' H' c dd e2 hH2 rx => p1' ρ' H' σ c dd e2 hH2 (hE1.mono e2) rx
  | ok w h2 => rw [z] at p1'; exact fun ρ' H' u e2 hH2 ru => p1' ρ' H' _ e2 hH2 ((hE1.mono e2).set ru)

/-! ### a call of what a name holds -/
def cCallV (i : Nat) (Fs : List (Addr × FN)) (A : AF) : EF := fun ε h => match ε[i]? with
  | some (some (.own a)) => match Fs.lookup a with
    | some c => (A ε h).bind c
    | none => .stuck
  | _ => .stuck
/-- the def at f, whatever its name -/
structure CaA (P : Program) (w : World) (K : PySem.W.Frag) (mg : Str → Option Value) (base : Heap) (cls ts : List Addr) (k : Nat) (f : Addr) (c : FN) : Prop where
  ex : ∃ fd ps, FnG P w K mg base cls ts k f fd ps c ∧ PySem.W.keepIn K (.ref f) = true ∧ Binds K fd ps []
theorem e_callV {i k : Nat} {Fs : List (Addr × FN)} (hF : ∀ f c, Fs.lookup f = some c → CaA X.prog X.w X.K X.mg X.base cls ts k f c) (hgu : X.A.guards = some []) (hr : Room k X.A) (tk : Takes X W) (hN : X.N[i]? = some x) (ha : A' X cls ts W (e :: es) A)
    (hv : Vis X.env.scope x := by first | exact Or.inl rfl | exact Or.inr (Or.inl rfl) | exact Or.inr (Or.inr rfl)) (hdb : (x == ("__debug__" : Str)) = false := by decide) (hcd : (x == ("__classdict__" : Str)) = false := by decide)
    (he : starEach (e :: es) X.env = (false, eval e X.env) :: starEach es X.env := by rfl) (hpl : (backTo pos (starEach es X.env)).any (·.1) = false := by rfl) : E' X cls ts W (.Call (.Name x p) (e :: es) [] pos) (cCallV i Fs A) := by
  refine ⟨fun pins s σ H Q I ⟨ρ, ε, h, hH, hE, q⟩ => ?_⟩
  unfold cCallV at q
  split at q <;> first | exact q.elim | skip
  rename_i a ea
  split at q <;> first | exact q.elim | skip
  rename_i c ec
  obtain ⟨v, ev, rv⟩ := hE.2 i _ ea
  cases rv
  obtain ⟨fd, ps, Fg, hk, hb⟩ := (hF a c ec).ex
  have q1 : tA X.K cls ts W A σ H (Rdy X.K cls ts c (fun u dd H' => W u dd σ H') Q) := tG_bind hH hE q fun ρ1 H1 vs h1 ds _ e1 hH1 rv hE1 p1 => ⟨ρ1, h1, ds, hH1, rv, p1⟩
  refine wpAny_Call_Name_kw (thn ((pe_var (pos := p) hN hv hdb hcd).run pins s σ H (fun v H1 => v = .ref a ∧ H1 = H) I ⟨.ref a, ev, rfl, rfl⟩) fun u s1 ⟨v, H1, I1, r1, z1, z2⟩ => ?_)
  subst z1 z2
  cases r1
  refine PySem.W.callWith_K (h₀ := X.base) I.ok.mod.kin hk (thn (ha.run pos pins s1 σ _ _ I1 q1) fun us s2 ⟨vs, H2, I2, r, ρ1, h1, ds, hH1, rv, p1⟩ => ⟨I2.kIn, ?_⟩) he hpl
  exact run_g Fg hgu hr tk (fun hl => by have z := hb s2 us I2.kIn (by rw [List.append_nil]; exact hl); rw [List.append_nil] at z; exact z) I2 r hH1 rv p1
/-- a def as a value -/
theorem e_fun {f : Addr} (hg : Gl X x) (hm : X.mg x = some (.ref f)) (hd : (x == ("__debug__" : Str)) = false := by decide) : E' X cls ts W (.Name x pos) (cC (.own f)) := e_glob hg hm (v := .ref f) rfl (fun _ _ _ => .own f) hd
end

/-! ### sum, max, abs, ord; extend -/
def asInt : D → Option Int
  | .int i => some i
  | _ => none
section
variable {K : PySem.W.Frag} {cls ts ρ : List Addr} {H : Hp} {h : AH}
theorem ints_of : ∀ {xs : List V} {ds : List D} {ns : List Int}, RVs K ρ H xs ds → omap asInt ds = some ns → xs = ns.map V.int
  | _, _, _, .nil, e => by cases e; rfl
  | _, _, _, .cons r rs, e => by
    unfold omap at e
    split at e <;> first | (cases e; done) | skip
    rename_i y ys q1 q2
    cases e
    cases r <;> cases q1
    rw [ints_of rs q2] <;> rfl
def fSum : OpN
  | [.ref n], h => match h[n]? with
    | some (.lst ds) => match omap asInt ds with
      | some ns => .ok (.int ns.sum) h
      | none => .stuck
    | _ => .stuck
  | _, _ => .stuck
theorem sum_ok : CallS K cls ts (rSum K) fSum := by
  intro W ρ H h xs ds Q r rs p
  unfold fSum at p
  split at p <;> first | exact p.elim | skip
  obtain ⟨v, rfl, rv⟩ := rs.one
  cases rv with
  | ref q1 =>
    split at p <;> first | exact p.elim | skip
    rename_i e1
    split at p <;> first | exact p.elim | skip
    rename_i ns e2
    obtain ⟨us, k1, r1⟩ := r.lst q1 e1
    obtain rfl := ints_of r1 e2
    exact ⟨_, ns, rfl, SqL.of k1, post_val r (.int _) p⟩
def fAbs : OpN
  | [.int i], h => .ok (.int (if i < 0 then -i else i)) h
  | _, _ => .stuck
theorem abs_ok : CallS K cls ts (fun xs H Q => ∃ i, xs = [.int i] ∧ Q (.int (if i < 0 then -i else i)) H) fAbs := by
  intro W ρ H h xs ds Q r rs p
  unfold fAbs at p
  split at p <;> first | exact p.elim | skip
  obtain ⟨v, rfl, rv⟩ := rs.one
  cases rv
  exact ⟨_, rfl, post_val r (.int _) p⟩
def fOrd : OpN
  | [.str x], h => if x.length = 1 then .ok (.int (x.cps.getD 0 0 : Nat)) h else .stuck
  | _, _ => .stuck
theorem ord_ok1 : CallS K cls ts (fun xs H Q => ∃ x, xs = [.str x] ∧ x.length = 1 ∧ Q (.int (x.cps.getD 0 0 : Nat)) H) fOrd := by
  intro W ρ H h xs ds Q r rs p
  unfold fOrd at p
  split at p <;> first | exact p.elim | skip
  obtain ⟨v, rfl, rv⟩ := rs.one
  cases rv
  split at p <;> first | exact p.elim | skip
  rename_i c
  exact ⟨_, rfl, c, post_val r (.int _) p⟩
def mExtend : OpM
  | .ref n, [.ref k], h => match h[n]?, h[k]? with
    | some (.lst xs), some (.lst ys) => if xs.length + ys.length ≤ sizeLine then .ok .non (h.set n (.lst (xs ++ ys))) else .stuck
    | _, _ => .stuck
  | _, _, _ => .stuck
theorem extend_ok : MtS K cls ts "list" rExtend mExtend := by
  intro W ρ H h x dx xs ds Q r rx rs p
  unfold mExtend at p
  split at p <;> first | exact p.elim | skip
  split at p <;> first | exact p.elim | skip
  rename_i e1 e2
  split at p <;> first | exact p.elim | skip
  rename_i c
  obtain ⟨v, rfl, rv⟩ := rs.one
  cases rx with
  | ref q1 =>
    cases rv with
    | ref q2 =>
      obtain ⟨us, k1, r1⟩ := r.lst q1 e1
      obtain ⟨ws, k2, r2⟩ := r.lst q2 e2
      exact ⟨_, _, _, _, rfl, rfl, k1, k2, by rw [r1.length, r2.length]; exact c, post_put (us := us) r q1 (r1.append r2) .non p⟩
end
end Mi

namespace Mi
open L2 PySem PySem.Spec PyProof.Rows

/-! ### == of unlike kinds, of unlike lengths -/
theorem dict_eq_str (l : Addr) (es : Array DictEntry) (n : Nat) (dd : Option Addr) (sl : Array (Option Value)) (b : Str) (u : Tok) :
    Meets (Builtin.«dict.__eq__» ⟨[.ref l, .str b u], []⟩) (fun _ R s => s.heap.get? l = some { cls := .type "dict", dict := dd, data := .dict es n, slots := sl } ∧ R (.ok (.ret .notImplemented)) s) :=
  .of_wp fun prog w A R s h => by obtain ⟨hp, g, d, tk, os⟩ := s; obtain ⟨hl, h⟩ := h; have f1 := F.sub_str_dict; wp_walk using wpAny_loadPart' hl; exact ⟨_, rfl, h⟩
theorem str_eq_dict (b : Str) (u : Tok) (l : Addr) (es : Array DictEntry) (n : Nat) (dd : Option Addr) (sl : Array (Option Value)) :
    Meets (Builtin.«str.__eq__» ⟨[.str b u, .ref l], []⟩) (fun _ R s => s.heap.get? l = some { cls := .type "dict", dict := dd, data := .dict es n, slots := sl } ∧ R (.ok (.ret .notImplemented)) s) :=
  .of_wp fun prog w A R s h => by obtain ⟨hp, g, d, tk, os⟩ := s; obtain ⟨hl, h⟩ := h; wp_walk using wpAny_loadPart' hl, wpAny_load hl; exact ⟨_, rfl, h⟩
theorem rc_dict_str {A : Around} {s : Shared} {l : Addr} {es : Array DictEntry} {n : Nat} {dd : Option Addr} {sl : Array (Option Value)} (b : Str) (u : Tok) (ho : s.heap.get? l = some { cls := .type "dict", dict := dd, data := .dict es n, slots := sl }) (hu : A.units < cLine) : SeqAt.RcAt A s (.ref l) (.str b u) false := fun prog w E Q h =>
  SeqAt.rc_eq_decline_or (k := false) ⟨_, ho, rfl⟩ (typeIs_str s b u) (by decide) F.sub_str_dict F.slot_dict_eq F.slot_str_eq_refl
    (fun _ hq => call_meets F.slot_dict_eq ⟨_, ho, rfl⟩ F.entry_dict_eq (F.args_dict_eq_2 _ _) (dict_eq_str l es n dd sl b u) ⟨ho, hq⟩)
    (fun _ hq => call_meets F.slot_str_eq_refl (typeIs_str s b u) F.entry_str_eq (F.args_str_eq_2 _ _) (str_eq_dict b u l es n dd sl) ⟨ho, hq⟩) (fun _ hq => wpAny_of_eq (rfl : isSame (.ref l) (.str b u) = pure false) hq) (.inr hu) h
/-- a list, a tuple, a dict stands at x -/
def Box (K : PySem.W.Frag) (H : Hp) (x : V) : Prop := ∃ a, x = .ref a ∧ ((∃ xs, SqL K H a xs) ∨ (∃ xs, SqT K H a xs) ∨ ∃ kvs, H a = some (.dK kvs))
/-- what is compared is none of it: a box and a text; two rows of unlike lengths, two of none -/
def rEqX (K : PySem.W.Frag) : R2 := fun x y H Q => (∃ z, y = .str z ∧ Box K H x ∧ Q (.bl false) H) ∨ (∃ a b xs ys, x = .ref a ∧ y = .ref b ∧ SqL K H a xs ∧ SqL K H b ys ∧ xs.length ≠ ys.length ∧ Q (.bl false) H) ∨
  ∃ a b xs ys, x = .ref a ∧ y = .ref b ∧ SqT K H a xs ∧ SqT K H b ys ∧ ((xs ≠ [] ∧ ys = [] ∧ Q (.bl false) H) ∨ (xs = [] ∧ ys = [] ∧ Q (.bl true) H))
theorem op_eqX {X : Cx} (hu : X.A.units + 64 < cLine) : OpR X (compareOp .Eq) (rEqX X.K) := by
  intro pins s σ H x y v u Q I rx ry h
  have hu0 : X.A.units < cLine := by omega
  have fin : ∀ {k : Bool}, Q (.bl k) H → SeqAt.RcAt X.A s v u k → wpAny (model X.prog X.w) X.A (compareOp .Eq v u) (EP X pins σ Q) X.xe s := fun {k} q r => r X.prog X.w _ _ ⟨.bl k, H, I, rfl, q⟩
  rcases h with ⟨z, rfl, ⟨a, rfl, hb⟩, q⟩ | ⟨a, b, xs, ys, rfl, rfl, ha, hb, ne, q⟩ | ⟨a, b, xs, ys, rfl, rfl, ha, hb, q⟩
  · obtain ⟨t, rfl⟩ := ry
    obtain rfl : v = Value.ref a := rx
    refine fin q ?_
    rcases hb with ⟨xs, hb⟩ | ⟨xs, hb⟩ | ⟨kvs, hb⟩
    · obtain ⟨us, _, p1, _⟩ := I.list hb
      exact SeqAt.RcAt.list_str z t p1.isList hu0
    · obtain ⟨us, _, p1, _⟩ := I.tuple hb
      exact SeqAt.RcAt.tuple_str z t p1 hu0
    · obtain ⟨_, _, vs, _, o, es, ep, ho, ex, hd, _⟩ := dk_of I.hok hb
      obtain ⟨oc, od, odt, osl⟩ := o
      obtain ⟨rfl, _⟩ := ex
      subst hd
      exact rc_dict_str z t ho hu0
  · obtain rfl : v = Value.ref a := rx
    obtain rfl : u = Value.ref b := ry
    obtain ⟨us, r1, p1, _⟩ := I.list ha
    obtain ⟨ws, r2, p2, _⟩ := I.list hb
    refine fin q (SeqAt.RcAt.lists_lengths p1.isList p2.isList ?_ hu0)
    rw [bne_iff_ne, List.size_toArray, List.size_toArray, ← r1.length, ← r2.length]
    exact ne
  · obtain rfl : v = Value.ref a := rx
    obtain rfl : u = Value.ref b := ry
    obtain ⟨us, r1, p1, _⟩ := I.tuple ha
    obtain ⟨ws, r2, p2, _⟩ := I.tuple hb
    have go : ys = [] → SeqAt.RcAt X.A s (.ref a) (.ref b) (us.length == ws.length) := fun e => by
      subst e
      cases r2
      have z := SeqAt.RcAt.tuples (A := X.A) (e := fun _ => true) p1 p2 hu0 (fun j h1 h2 => absurd h2 (by simp))
      simpa using z
    rcases q with ⟨n1, e, q⟩ | ⟨n1, e, q⟩
    · refine fin q ?_
      have z := go e
      subst e
      cases r2
      cases r1 with
      | nil => exact absurd rfl n1
      | cons _ _ => exact z
    · refine fin q ?_
      have z := go e
      subst e n1
      cases r1
      cases r2
      exact z
end Mi

namespace Mi
open L2 PySem PySem.Spec PyProof.Rows

/-! ### ==, in: boxes, too -/
def isBox (x : D) (h : AH) : Bool :=
  match x with
  | .tup _ => true
  | .rol _ => true
  | .ref n => match h[n]? with
    | some (.lst _) => true
    | some (.dic _) => true
    | _ => false
  | _ => false
def lstD (x : D) (h : AH) : Option (List D) :=
  match x with
  | .rol xs => some xs
  | .ref n => match h[n]? with
    | some (.lst xs) => some xs
    | _ => none
  | _ => none
def eqX (x y : D) (h : AH) : Option Bool :=
  match y with
  | .str _ => if isBox x h = true then some false else none
  | .tup [] => match x with
    | .tup xs => some xs.isEmpty
    | _ => none
  | _ => match lstD x h, lstD y h with
    | some xs, some ys => if xs.length ≠ ys.length then some false else none
    | _, _ => none
def opEq2 : Op2 := fun x y h => match eqX x y h with
  | some b => .ok (.bl b) h
  | none => opEq x y h
theorem box_of {K : PySem.W.Frag} {cls ts ρ : List Addr} {H : Hp} {h : AH} {v : V} {d : D} (r : RH K cls ts ρ H h) (rv : RV K ρ H v d) (e : isBox d h = true) : Box K H v := by
  cases rv with
  | tup h1 r1 => exact ⟨_, rfl, .inr (.inl ⟨_, h1⟩)⟩
  | rol h1 r1 => exact ⟨_, rfl, .inl ⟨_, h1.sq⟩⟩
  | ref q1 =>
    simp only [isBox] at e
    split at e <;> first | (cases e; done) | skip
    · rename_i xs e1
      obtain ⟨us, k1, _⟩ := r.lst q1 e1
      exact ⟨_, rfl, .inl ⟨_, SqL.of k1⟩⟩
    · rename_i xs e1
      obtain ⟨us, k1, _⟩ := r.dic q1 e1
      exact ⟨_, rfl, .inr (.inr ⟨_, k1⟩)⟩
  | _ => cases e
theorem lst_of {K : PySem.W.Frag} {cls ts ρ : List Addr} {H : Hp} {h : AH} {v : V} {d : D} {ds : List D} (r : RH K cls ts ρ H h) (rv : RV K ρ H v d) (e : lstD d h = some ds) : ∃ a xs, v = .ref a ∧ SqL K H a xs ∧ xs.length = ds.length := by
  cases rv with
  | rol h1 r1 => cases e; exact ⟨_, _, rfl, h1.sq, r1.length⟩
  | ref q1 =>
    simp only [lstD] at e
    split at e <;> cases e
    rename_i e1
    obtain ⟨us, k1, r1⟩ := r.lst q1 e1
    exact ⟨_, _, rfl, SqL.of k1, r1.length⟩
  | _ => cases e
theorem op_eq2 {X : Cx} (hu : X.A.units + 64 < cLine) : OpR X (compareOp .Eq) (fun x y H Q => rEqX X.K x y H Q ∨ rEqM X.K x y H Q) := (op_eqX hu).or (op_eqM hu)
theorem opEq2_ok {K : PySem.W.Frag} {cls ts : List Addr} : OpS K cls ts (fun x y H Q => rEqX K x y H Q ∨ rEqM K x y H Q) opEq2 := by
  intro W ρ H h x y dx dy Q r rx ry p
  unfold opEq2 at p
  split at p
  · rename_i b e
    refine .inl ?_
    unfold eqX at e
    split at e
    · split at e <;> cases e
      rename_i c
      cases ry
      exact .inl ⟨_, rfl, box_of r rx c, post_val r (.bl _) p⟩
    · split at e <;> cases e
      cases ry with
      | tup h2 r2 =>
        cases r2
        cases rx with
        | tup h1 r1 =>
          refine .inr (.inr ⟨_, _, _, _, rfl, rfl, h1, h2, ?_⟩)
          cases r1 with
          | nil => exact .inr ⟨rfl, rfl, post_val r (.bl _) p⟩
          | cons a b => exact .inl ⟨List.cons_ne_nil _ _, rfl, post_val r (.bl _) p⟩
    · split at e <;> first | (cases e; done) | skip
      rename_i xs ys e1 e2
      split at e <;> cases e
      rename_i c
      obtain ⟨a, us, rfl, h1, l1⟩ := lst_of r rx e1
      obtain ⟨b, ws, rfl, h2, l2⟩ := lst_of r ry e2
      exact .inr (.inl ⟨_, _, _, _, rfl, rfl, h1, h2, by rw [l1, l2]; exact c, post_val r (.bl _) p⟩)
  · exact .inr (opEq_ok _ _ _ _ _ _ _ _ _ r rx ry p)
/-- a box in a tuple of texts -/
theorem str_eq_box {X : Cx} {pins : List (Addr × Obj)} {σ : L2.St} {H : Hp} {s : Shared} {A : Around} {x : V} {u : Value} (I : L2.Inv X pins σ H s) (hb : Box X.K H x) (r : RelV x u) (hu : A.units < cLine) (b : Str) (t : Tok) : SeqAt.EqAt A s (.str b t) u false := by
  obtain ⟨a, rfl, hb⟩ := hb
  obtain rfl : u = Value.ref a := r
  rcases hb with ⟨xs, hb⟩ | ⟨xs, hb⟩ | ⟨kvs, hb⟩
  · obtain ⟨us, _, p1, _⟩ := I.list hb
    exact SeqAt.EqAt.str_list b t p1.isList hu
  · obtain ⟨us, _, p1, _⟩ := I.tuple hb
    exact SeqAt.EqAt.str_tuple b t p1 hu
  · obtain ⟨_, _, vs, _, o, es, ep, ho, ex, hd, _⟩ := dk_of I.hok hb
    obtain ⟨oc, od, odt, osl⟩ := o
    obtain ⟨rfl, _⟩ := ex
    subst hd
    intro prog w E Q h
    unfold eqBool
    refine wpAny_holding (wpAny_ite_split (fun hab => absurd (eq_of_beq hab) nofun) fun _ => wpAny_bind ?_)
    exact SeqAt.rc_eq_decline_or (k := false) (typeIs_str s b t) ⟨_, ho, rfl⟩ (by decide) F.sub_dict_str F.slot_str_eq F.slot_dict_eq_refl
      (fun _ hq => call_meets F.slot_str_eq (typeIs_str s b t) F.entry_str_eq (F.args_str_eq_2 _ _) (str_eq_dict b t a es ep od osl) ⟨ho, hq⟩)
      (fun _ hq => call_meets F.slot_dict_eq_refl ⟨_, ho, rfl⟩ F.entry_dict_eq (F.args_dict_eq_2 _ _) (dict_eq_str a es ep od osl b t) ⟨ho, hq⟩) (fun _ hq => wpAny_of_eq (rfl : isSame (.str b t) (.ref a) = pure false) hq) (.inr hu) (wpAny_truthy_bool h)
theorem vals_mem_str {zs : List Str} : ∀ {us : List Value}, Vals (zs.map V.str) us → ∀ u ∈ us, ∃ z t, u = Value.str z t := by
  induction zs with
  | nil => intro us r u hu; cases r; cases hu
  | cons z zs ih =>
    intro us r u hu
    cases r with
    | cons a b =>
      rcases List.mem_cons.mp hu with rfl | hu
      · obtain ⟨t, rfl⟩ := a
        exact ⟨z, t, rfl⟩
      · exact ih b u hu
def rInX (K : PySem.W.Frag) (n : Bool) : R2 := fun x y H Q => ∃ (p : Addr) (zs : List Str), y = .ref p ∧ SqT K H p (zs.map V.str) ∧ Box K H x ∧ Q (.bl n) H
theorem any_false {α : Type} (xs : Array α) : (xs.any fun _ => false) = false := by
  rw [← Array.any_toList]
  simp
theorem op_inX {X : Cx} (hu : X.A.units + 65 < cLine) : OpR X (compareOp .In) (rInX X.K false) := by
  rintro pins s σ H x y v u Q I rx ry ⟨p, zs, rfl, hs, hb, q⟩
  obtain rfl : u = Value.ref p := ry
  obtain ⟨us, r1, p1, _⟩ := I.tuple hs
  refine SeqAt.in_tupleAt (fun _ => false) p1 (fun w hw => ?_) ⟨.bl false, H, I, ?_, q⟩
  · obtain ⟨z, t, rfl⟩ := vals_mem_str r1 w (by simpa using hw)
    exact str_eq_box I hb rx (by show X.A.units + 1 < cLine; omega) z t
  · rw [any_false]
    rfl
theorem op_notInX {X : Cx} (hu : X.A.units + 65 < cLine) : OpR X (compareOp .NotIn) (rInX X.K true) := by
  rintro pins s σ H x y v u Q I rx ry ⟨p, zs, rfl, hs, hb, q⟩
  obtain rfl : u = Value.ref p := ry
  obtain ⟨us, r1, p1, _⟩ := I.tuple hs
  refine SeqAt.notIn_tupleAt (fun _ => false) p1 (fun w hw => ?_) ⟨.bl true, H, I, ?_, q⟩
  · obtain ⟨z, t, rfl⟩ := vals_mem_str r1 w (by simpa using hw)
    exact str_eq_box I hb rx (by show X.A.units + 1 < cLine; omega) z t
  · rw [any_false]
    rfl
def inX (x y : D) (h : AH) : Bool := match y with
  | .tup ys => isBox x h && (omap asStr ys).isSome
  | _ => false
def opIn2 : Op2 := fun x y h => if inX x y h = true then .ok (.bl false) h else opIn x y h
def opNotIn2 : Op2 := fun x y h => if inX x y h = true then .ok (.bl true) h else opNotIn x y h
section
variable {K : PySem.W.Frag} {cls ts ρ : List Addr} {H : Hp} {h : AH}
theorem inX_ok {n : Bool} {x y : V} {dx dy : D} {Q : VK} (r : RH K cls ts ρ H h) (rx : RV K ρ H x dx) (ry : RV K ρ H y dy) (e : inX dx dy h = true) (q : Q (.bl n) H) : rInX K n x y H Q := by
  unfold inX at e
  split at e <;> first | (cases e; done) | skip
  cases ry with
  | tup h2 r2 =>
    rw [Bool.and_eq_true] at e
    obtain ⟨zs, ez⟩ := Option.isSome_iff_exists.mp e.2
    rw [strs_of r2 ez] at h2
    exact ⟨_, zs, rfl, h2, box_of r rx e.1, q⟩
theorem opIn2_ok : OpS K cls ts (fun x y H Q => rInX K false x y H Q ∨ rInM K x y H Q) opIn2 := by
  intro W ρ H h x y dx dy Q r rx ry p
  unfold opIn2 at p
  split at p
  · rename_i c
    exact .inl (inX_ok r rx ry c (post_val r (.bl _) p))
  · exact .inr (opIn_ok _ _ _ _ _ _ _ _ _ r rx ry p)
theorem opNotIn2_ok : OpS K cls ts (fun x y H Q => rInX K true x y H Q ∨ rNotInM K x y H Q) opNotIn2 := by
  intro W ρ H h x y dx dy Q r rx ry p
  unfold opNotIn2 at p
  split at p
  · rename_i c
    exact .inl (inX_ok r rx ry c (post_val r (.bl _) p))
  · exact .inr (opNotIn_ok _ _ _ _ _ _ _ _ _ r rx ry p)
end
theorem op_in2 {X : Cx} (hu : X.A.units + 65 < cLine) : OpR X (compareOp .In) (fun x y H Q => rInX X.K false x y H Q ∨ rInM X.K x y H Q) := (op_inX hu).or (op_inM hu)
theorem op_notIn2 {X : Cx} (hu : X.A.units + 65 < cLine) : OpR X (compareOp .NotIn) (fun x y H Q => rInX X.K true x y H Q ∨ rNotInM X.K x y H Q) := (op_notInX hu).or (op_notInM hu)
end Mi

namespace Mi
open L2 PySem PySem.Spec PyProof.Rows

/-! ### the text of anything: dicts within rows, too -/
def pdx : Nat → AH → D → Option PyData
  | _, _, .non => some .none
  | _, _, .bl b => some (.bool b)
  | _, _, .int i => some (.int i)
  | _, _, .str x => some (.str x)
  | 0, _, _ => none
  | n + 1, h, .tup xs => (omap (pdx n h) xs).map .tuple
  | n + 1, h, .ref r => match h[r]? with
    | some (.lst xs) => (omap (pdx n h) xs).map .list
    | some (.dic kvs) => (omap (pdx n h) (kvs.map (·.2))).map fun ps => .dict ((kvs.map fun kv => keyP kv.1).zip ps)
    | _ => none
  | _, _, _ => none
theorem omap_length {α β : Type} {f : α → Option β} : ∀ {xs : List α} {ys : List β}, omap f xs = some ys → ys.length = xs.length
  | [], _, e => by cases e; rfl
  | x :: xs, ys, e => by
    unfold omap at e
    split at e <;> cases e
    rename_i q1 q2
    rw [List.length_cons, List.length_cons, omap_length q2]
theorem depthKv_zip {n : Nat} : ∀ {ks : List Key} {ps : List PyData}, ks.length = ps.length → PyData.depthAll ps ≤ n → PyData.depthKv ((ks.map keyP).zip ps) ≤ n
  | [], [], _, _ => by simp [PyData.depthKv]
  | k :: ks, p :: ps, e, h => by
    simp only [PyData.depthAll] at h
    have ih := depthKv_zip (ks := ks) (ps := ps) (by simpa using e) (Nat.le_trans (Nat.le_max_right _ _) h)
    have h1 := Nat.le_trans (Nat.le_max_left _ _) h
    cases k <;> simp only [List.map_cons, List.zip_cons_cons, PyData.depthKv, keyP, PyData.depth] <;> omega
theorem pdx_depth {h : AH} : ∀ (n : Nat) (d : D) (p : PyData), pdx n h d = some p → p.depth ≤ n := by
  intro n
  induction n with
  | zero =>
    intro d p e
    cases d <;> simp only [pdx] at e <;> cases e <;> exact Nat.zero_le _
  | succ n ih =>
    intro d p e
    cases d with
    | tup xs =>
      simp only [pdx, Option.map_eq_some_iff] at e
      obtain ⟨ps, q, rfl⟩ := e
      simp only [PyData.depth]
      exact Nat.succ_le_succ (pd_depth ih q)
    | ref r =>
      simp only [pdx] at e
      split at e <;> first | (cases e; done) | skip
      · obtain ⟨ps, q, rfl⟩ := Option.map_eq_some_iff.mp e
        simp only [PyData.depth]
        exact Nat.succ_le_succ (pd_depth ih q)
      · rename_i kvs _
        obtain ⟨ps, q, rfl⟩ := Option.map_eq_some_iff.mp e
        simp only [PyData.depth]
        have l := omap_length q
        rw [show (kvs.map fun kv => keyP kv.1) = (kvs.map (·.1)).map keyP from by rw [List.map_map]; rfl]
        exact Nat.succ_le_succ (depthKv_zip (by rw [l, List.length_map, List.length_map]) (pd_depth ih q))
    | _ => first | (cases e; done) | (cases e; exact Nat.zero_le _)
section
variable {X : Cx} {pins : List (Addr × Obj)} {σ : L2.St} {H : Hp} {s : Shared} {cls ts ρ : List Addr} {h : AH}
theorem readsAll_x {f : D → Option PyData} (ih : ∀ v u d p, RV X.K ρ H v d → RelV v u → f d = some p → ∃ as, Reads s.heap u p as ∧ sysModules ∉ as) : ∀ {xs : List V} {us : List Value} {ds : List D} {ps : List PyData}, RVs X.K ρ H xs ds → Vals xs us → omap f ds = some ps →
    ∃ as, ReadsAll s.heap us ps as ∧ sysModules ∉ as
  | _, _, _, _, .nil, r, e => by
    cases e
    cases r
    exact ⟨[], .nil, List.not_mem_nil⟩
  | _, _, _, _, .cons a b, r, e => by
    unfold omap at e
    split at e <;> first | (cases e; done) | skip
    rename_i y ys q1 q2
    cases e
    cases r with
    | cons r1 r2 =>
      obtain ⟨as, k1, n1⟩ := ih _ _ _ _ a r1 q1
      obtain ⟨bs, k2, n2⟩ := readsAll_x ih b r2 q2
      exact ⟨_, .cons k1 k2, fun m => (List.mem_append.mp m).elim n1 n2⟩
theorem keys_x {P : Program} {w : World} {hh : Heap} : ∀ {es : List DictEntry} {vs : List (Key × Value)} {xs : List (Key × V)} {kvs : List (Key × D)}, PySem.Pairs (mixKind P w) es vs → KV xs vs → RKs X.K ρ H xs kvs →
    ReadsAll hh (es.map (·.key)) (kvs.map fun kv => keyP kv.1) [] ∧ Vals (xs.map (·.2)) (es.map (·.val)) ∧ RVs X.K ρ H (xs.map (·.2)) (kvs.map (·.2))
  | _, _, _, _, .nil, a, b => by
    cases a
    cases b
    exact ⟨.nil, .nil, .nil⟩
  | _, _, _, _, .cons (e := en) (kv := kv) k1 k2 rest, a, b => by
    cases a with
    | cons a1 a2 =>
      cases b with
      | cons b1 b2 =>
        obtain ⟨i1, i2, i3⟩ := keys_x (hh := hh) rest a2 b2
        refine ⟨.cons (as := []) ?_ i1, .cons ?_ i2, .cons b1.2 i3⟩
        · show Reads hh en.key (keyP _) []
          rw [← b1.1, a1.1]
          rcases keyIs_shape k1 with ⟨i, t, ek, ev⟩ | ⟨x, t, ek, ev⟩
          · rw [ek, ev]; exact .int _ _
          · rw [ek, ev]; exact .str _ _
        · show RelV _ en.val
          rw [k2]
          exact a1.2
theorem reads_x (I : L2.Inv X pins σ H s) (r : RH X.K cls ts ρ H h) : ∀ (n : Nat) (v : V) (u : Value) (d : D) (p : PyData), RV X.K ρ H v d → RelV v u → pdx n h d = some p → ∃ as, Reads s.heap u p as ∧ sysModules ∉ as := by
  obtain ⟨_, φ, sm⟩ := r.sm
  have ne : ∀ {a : Addr} {o : HO}, H a = some o → (∀ ψ, o ≠ .ext ψ) → sysModules ≠ a := fun {a o} e n z => by
    rw [← z, sm] at e
    cases e
    exact n _ rfl
  intro n
  induction n with
  | zero =>
    intro v u d p rv ru e
    exact ⟨[], reads_scalar (h := h) rv ru (by cases d <;> simp only [pdx] at e <;> first | (cases e; done) | exact e), List.not_mem_nil⟩
  | succ n ih =>
    intro v u d p rv ru e
    cases rv with
    | tup h1 r1 =>
      simp only [pdx, Option.map_eq_some_iff] at e
      obtain ⟨ps, q, rfl⟩ := e
      cases ru
      obtain ⟨its, rt, ⟨o, ho, hc, k, hd⟩, _⟩ := I.tuple h1
      obtain ⟨as, ra, na⟩ := readsAll_x ih r1 rt q
      exact ⟨_, .tuple ho hc hd ra, na⟩
    | ref q1 =>
      simp only [pdx] at e
      split at e <;> first | (cases e; done) | skip
      · rename_i xs e1
        obtain ⟨ps, q, rfl⟩ := Option.map_eq_some_iff.mp e
        obtain ⟨us, k1, r1⟩ := r.lst q1 e1
        cases ru
        obtain ⟨its, rt, ⟨o, k, ho, hc, _, hd⟩, _⟩ := I.list (SqL.of k1)
        obtain ⟨as, ra, na⟩ := readsAll_x ih r1 rt q
        exact ⟨_, .list ho hc hd ra, fun m => (List.mem_cons.mp m).elim (ne k1 fun _ z => by cases z) na⟩
      · rename_i kvs e1
        obtain ⟨ps, q, rfl⟩ := Option.map_eq_some_iff.mp e
        obtain ⟨us, k1, r1⟩ := r.dic q1 e1
        cases ru
        obtain ⟨_, nS, vs, kv, o, es, ep, ho, ex, hd, hk, hp, _⟩ := I.hok _ _ k1
        obtain ⟨i1, i2, i3⟩ := keys_x (hh := s.heap) hp kv r1
        obtain ⟨bs, rb, nb⟩ := readsAll_x ih i3 i2 q
        have l : ps.length = (kvs.map fun kv => keyP kv.1).length := by rw [omap_length q, List.length_map, List.length_map]
        refine ⟨_, .dict (as := []) (bs := bs) ho ex.1 hd (by rw [List.map_fst_zip (by omega)]; exact i1) (by rw [List.map_snd_zip (by omega)]; exact rb), fun m => ?_⟩
        rcases List.mem_cons.mp m with z | z
        · exact ne k1 (fun _ z => by cases z) z
        · exact nb z
    | non => exact ⟨[], reads_scalar (K := X.K) (ρ := ρ) (H := H) (h := h) .non ru e, List.not_mem_nil⟩
    | bl b => exact ⟨[], reads_scalar (K := X.K) (ρ := ρ) (H := H) (h := h) (.bl b) ru e, List.not_mem_nil⟩
    | int i => exact ⟨[], reads_scalar (K := X.K) (ρ := ρ) (H := H) (h := h) (.int i) ru e, List.not_mem_nil⟩
    | str x => exact ⟨[], reads_scalar (K := X.K) (ρ := ρ) (H := H) (h := h) (.str x) ru e, List.not_mem_nil⟩
    | _ => cases e
end
def reprX (d : D) (h : AH) : Option Str :=
  match pdx 60 h d with
  | some p => if p.showable = true ∧ p.shown.length ≤ sizeLine then some p.shown else none
  | none => none
def fRepr2 : OpN
  | [d], h => match reprX d h with
    | some x => .ok (.str x) h
    | none => .stuck
  | _, _ => .stuck
def rReprX (K : PySem.W.Frag) : List V → Hp → VK → Prop := fun xs H Q => ∃ (cls ts ρ : List Addr) (h : AH) (v : V) (d : D) (x : Str), xs = [v] ∧ RH K cls ts ρ H h ∧ RV K ρ H v d ∧ reprX d h = some x ∧ Q (.str x) H
theorem call_reprX {X : Cx} (hg : X.A.guards = some []) (hu : X.A.units + 64 < cLine) : CallR X (.builtin "repr") (rReprX X.K) := by
  rintro pins s σ H xs us Q I rs ⟨cls, ts, ρ, hh, v, d, x, rfl, rH, rv, e, q⟩
  obtain ⟨w, rfl, ru⟩ := vals1 rs
  unfold reprX at e
  split at e <;> first | (cases e; done) | skip
  rename_i p ep
  split at e <;> cases e
  rename_i c
  have fin : ∀ h' u tk, (∀ b o, s.heap.get? b = some o → h'.get? b = some o) → EP X pins σ Q (.str p.shown u) { s with heap := h', toks := tk } := fun h' u tk hk => ⟨.str p.shown, H, I.kept hk, ⟨_, rfl⟩, q⟩
  cases hv : v with
  | ref a =>
    subst hv
    obtain ⟨as, rd, na⟩ := reads_x I rH 60 _ _ _ _ rv ru ep
    obtain rfl : w = Value.ref a := ru
    exact repr_of_reads' rd c.1 (fun _ => na) hg (by have := pdx_depth _ _ _ ep; omega) (fun _ _ e => e) (fun h' u tk hk => fin h' u tk hk) c.2
  | _ =>
    subst hv
    have e0 : pd 0 hh d = some p := by cases rv <;> simpa [pd, pdx] using ep
    exact repr_scalar rv ru e0 c.1 c.2 fun t k => fin s.heap t k fun _ _ e => e
theorem repr_ok2 {K : PySem.W.Frag} {cls ts : List Addr} : CallS K cls ts (rReprX K) fRepr2 := by
  intro W ρ H h xs ds Q r rs p
  unfold fRepr2 at p
  split at p <;> first | exact p.elim | skip
  obtain ⟨v, rfl, rv⟩ := rs.one
  split at p <;> first | exact p.elim | skip
  rename_i d _ x e
  exact ⟨cls, ts, ρ, h, v, d, x, rfl, r, rv, e, post_val r (.str _) p⟩
end Mi

namespace Mi
open L2 PySem PySem.Spec PyProof.Rows

/-! ### what a name may hold -/
theorem Ca.at {P : Program} {w : World} {K : PySem.W.Frag} {mg : Str → Option Value} {base : Heap} {cls ts : List Addr} {j k : Nat} {x : Str} {st : Stmt} {ps : List Str} {c : FN} {a : Addr} (C : Ca P w K mg base cls ts j x st ps c) (b : Bd x st ps) (m : mg x = some (.ref a)) (h : j ≤ k) : CaA P w K mg base cls ts k a c := by
  obtain ⟨f, cdv, fd, D, F⟩ := C.ex
  have e := D.mg.symm.trans m
  cases e
  exact ⟨fd, ps, F.mono h, D.kp.1, D.binds b⟩
theorem held_of {P : Program} {w : World} {K : PySem.W.Frag} {mg : Str → Option Value} {base : Heap} {cls ts : List Addr} {j1 j2 k : Nat} {x1 x2 : Str} {st1 st2 : Stmt} {ps1 ps2 : List Str} {c1 c2 : FN} {a1 a2 : Addr} (C1 : Ca P w K mg base cls ts j1 x1 st1 ps1 c1) (b1 : Bd x1 st1 ps1) (m1 : mg x1 = some (.ref a1))
    (C2 : Ca P w K mg base cls ts j2 x2 st2 ps2 c2) (b2 : Bd x2 st2 ps2) (m2 : mg x2 = some (.ref a2)) (h1 : j1 ≤ k) (h2 : j2 ≤ k) (f : Addr) (c : FN) (q : [(a1, c1), (a2, c2)].lookup f = some c) : CaA P w K mg base cls ts k f c := by
  simp only [List.lookup] at q
  split at q
  · rename_i e
    cases q
    rw [eq_of_beq e]
    exact C1.at b1 m1 h1
  · split at q
    · rename_i e
      cases q
      rw [eq_of_beq e]
      exact C2.at b2 m2 h2
    · cases q
/-- a generator expression's scope without captured names, with names of the module -/
def genC2 (scope : Scope) (x : Str) : Bool := (match scope.kind with | .function => true | _ => false) && !scope.isCoroutine && (scope.names.all fun y => match y.2 with | .local => true | .globalImplicit => true | _ => false) &&
  (match scope.names.lookup (".0" : Str) with | some .local => true | _ => false) && (match scope.names.lookup x with | some .local => true | _ => false)
theorem genS_by2 {env : Env} {scope : Scope} {x : Str} (h : genC2 scope x = true) : GxR.GenS env scope x := by
  simp only [genC2, Bool.and_eq_true, List.all_eq_true] at h
  obtain ⟨⟨⟨⟨h1, h2⟩, h3⟩, h4⟩, h5⟩ := h
  refine ⟨?_, by simpa using h2, fun y hy e => ?_, ?_, ?_, fun y hy e => ?_⟩
  · split at h1 <;> first | assumption | cases h1
  · have := h3 y hy
    rw [e] at this
    cases this
  · split at h4 <;> first | assumption | cases h4
  · split at h5 <;> first | assumption | cases h5
  · have := h3 y hy
    rw [e] at this
    cases this
/-! ### max(.., default = e) of a list of ints -/
def cMaxD (F G : EF) : EF := fun ε h => (F ε h).bind fun d h1 => (G ε h1).bind fun e h2 => match d with
  | .ref n => match h2[n]? with
    | some (.lst ds) => match omap asInt ds with
      | some [] => .ok e h2
      | some (i :: is) => .ok (.int (is.foldl max i)) h2
      | none => .stuck
    | _ => .stuck
  | _ => .stuck
end Mi

namespace Mi
open L2 PySem PySem.Spec PyProof.Rows

/-! ### max(.., default = e): the loop -/
def bestOf : List Int → Option Int
  | [] => none
  | i :: is => some (is.foldl max i)
theorem bestOf_snoc (xs : List Int) (x : Int) : bestOf (xs ++ [x]) = some (match bestOf xs with | some b => max b x | none => x) := by
  cases xs with
  | nil => rfl
  | cons i is => simp [bestOf, List.foldl_append]
/-- what the loop's list holds -/
def Holds2 (b : Option Int) (vs : Array Value) : Prop := match b with
  | none => vs = #[]
  | some i => ∃ t, vs = #[.int i t, .int i t]
theorem max_loopD {prog : Program} {w : World} {A : Around} {R : Result → Shared → Prop} {I l S : Addr} {items : Array Value} {ns : List Int} {d : Value} {s0 : Shared} (hh : A.handled = none) (hlI : l ≠ I) (hSI : S ≠ I) (hSl : S ≠ l) (hi : IntsAre items.toList ns)
    (hR : ∀ v h' tk, (match bestOf ns with | some i => ∃ t, v = .int i t | none => v = d) → (∀ b o, b ≠ I → b ≠ S → s0.heap.get? b = some o → h'.get? b = some o) → R (.ok (.ret v)) { s0 with heap := h', toks := tk }) :
    ∀ (k j : Nat) (hp : Heap) (tk c : Nat) (vs : Array Value), items.size - j = k → j ≤ items.size → hp.IsListIter I l j → hp.IsList l items → hp.get? S = some { cls := .type "list", dict := none, data := .seq vs c, slots := #[] } → Holds2 (bestOf (ns.take j)) vs →
      (∀ b o, b ≠ I → b ≠ S → s0.heap.get? b = some o → hp.get? b = some o) → codeAny (model prog w) A (.builtin "max.loop" ⟨[.ref I, .none, .ref S], [("default", d)]⟩) R { s0 with heap := hp, toks := tk } := by
  have Wk := Walks.list (prog := prog) (w := w) (A := A.in1) hh I l hlI items
  have nm : (toString "max" ++ toString ".loop" : String) = "max.loop" := by decide
  have ln : ns.length = items.size := by rw [← hi.length]; simp
  intro k
  induction k with
  | zero =>
    intro j hp tk c vs hk hj st sl hS hb kp
    have ej : j = items.size := by omega
    subst ej
    rw [← ln, List.take_length] at hb
    refine codeAny_builtin F.entry_max_loop ?_
    rw [Around.under_plainId F.plain_max_loop _]
    show wpAny _ A.in1 (seqItems? (.ref S) >>= _) _ _ _
    refine wpAny_bind (wpAny_seqItems hS rfl ?_)
    show wpAny _ A.in1 (tryCatch (pyNext (.ref I)) _ >>= _) _ _ _
    refine wpAny_bind (wpAny_tryCatch (Wk.done _ _ _ ⟨st, sl⟩ fun h' tk' kk => ?_))
    have hS' := kk S _ (by simpa using hSI) hS
    have kp' : ∀ b o, b ≠ I → b ≠ S → s0.heap.get? b = some o → h'.get? b = some o := fun b o n1 n2 e => kk b o (by simpa using n1) (kp b o n1 n2 e)
    cases q : bestOf ns with
    | none =>
      rw [q] at hb
      cases (show vs = #[] from hb)
      refine wpAny_bind (wpAny_rule (wpAny_pure ?_))
      exact hR d h' tk' (by rw [q]) kp'
    | some i =>
      rw [q] at hb
      obtain ⟨t, rfl⟩ := (show ∃ t, vs = #[.int i t, .int i t] from hb)
      show wpAny _ A.in1 (updateSeq S (fun _ => #[]) >>= _) _ _ _
      refine wpAny_bind (wpAny_updateSeq hS' rfl (wpAny_bind (wpAny_letGo (wpAny_pure ?_))))
      exact hR (.int i t) _ tk' (by rw [q]; exact ⟨t, rfl⟩) fun b o n1 n2 e => (Heap.get?_update_other _ _ (Ne.symm n2)).trans (kp' b o n1 n2 e)
  | succ k ih =>
    intro j hp tk c vs hk hj st sl hS hb kp
    have lt : j < items.size := by omega
    have ltn : j < ns.length := by omega
    refine codeAny_builtin F.entry_max_loop ?_
    rw [Around.under_plainId F.plain_max_loop _]
    show wpAny _ A.in1 (seqItems? (.ref S) >>= _) _ _ _
    refine wpAny_bind (wpAny_seqItems hS rfl ?_)
    show wpAny _ A.in1 (tryCatch (pyNext (.ref I)) _ >>= _) _ _ _
    refine wpAny_bind (wpAny_tryCatch (Wk.item j _ _ _ lt ⟨st, sl⟩ fun v h' tk' hv st' kk => ?_))
    have hS' := kk S _ (by simpa using hSI) hS
    have kp' : ∀ b o, b ≠ I → b ≠ S → s0.heap.get? b = some o → h'.get? b = some o := fun b o n1 n2 e => kk b o (by simpa using n1) (kp b o n1 n2 e)
    obtain ⟨x, t, rfl, ex⟩ := hi.at j v (by rw [Array.getElem?_toList]; exact hv)
    have tk1 : ns.take (j + 1) = ns.take j ++ [x] := by rw [List.take_succ, ex]; rfl
    have kI : ∀ (f : Obj → Obj) (o : Obj), h'.get? I = some o → (h'.update S f).get? I = some o := fun f o e => (Heap.get?_update_other _ _ hSI).trans e
    have kl : ∀ (f : Obj → Obj) (o : Obj), h'.get? l = some o → (h'.update S f).get? l = some o := fun f o e => (Heap.get?_update_other _ _ hSl).trans e
    have put_ : ∀ (w2 : Array Value) (tk2 : Nat), Holds2 (bestOf (ns.take (j + 1))) w2 → codeAny (model prog w) A (.builtin "max.loop" ⟨[.ref I, .none, .ref S], [("default", d)]⟩) R { s0 with heap := h'.update S (Obj.mapSeq fun _ => w2), toks := tk2 } := fun w2 tk2 hw =>
      ih (j + 1) _ tk2 _ w2 (by omega) (by omega) (st'.1.at (kI _)) (st'.2.at (kl _)) (Heap.get?_update_self _ hS' rfl) hw fun b o n1 n2 e => (Heap.get?_update_other _ _ (Ne.symm n2)).trans (kp' b o n1 n2 e)
    rw [tk1, bestOf_snoc] at put_
    cases q : bestOf (ns.take j) with
    | none =>
      rw [q] at hb put_
      cases (show vs = #[] from hb)
      show wpAny _ A.in1 (updateSeq S (fun _ => #[.int x t, .int x t]) >>= _) _ _ _
      refine wpAny_bind (wpAny_updateSeq hS' rfl ?_)
      rw [nm]
      exact wpAny_pure ⟨plainId_quiet F.plain_max_loop _, put_ #[.int x t, .int x t] tk' ⟨t, rfl⟩⟩
    | some i =>
      rw [q] at hb put_
      obtain ⟨u, rfl⟩ := (show ∃ t, vs = #[.int i t, .int i t] from hb)
      show wpAny _ A.in1 (tryCatch (holding [.int x t, .int x t] (richCompare .Gt (.int x t) (.int i u) >>= _)) _ >>= _) _ _ _
      refine wpAny_bind (wpAny_tryCatch (wpAny_holding (wpAny_bind (CmpOf.ints_gt (P := fun m v => ∃ t, v = .int (if m = 0 then x else i) t) (fun m => if m = 0 then x else i) (fun _ _ e => e) 0 1 (.int x t) (.int i u) _ _ _ ⟨t, rfl⟩ ⟨u, rfl⟩ ?_))))
      refine wpAny_bind (wpAny_holding (wpAny_truthy_bool (wpAny_bind (wpAny_letGo (wpAny_pure ?_)))))
      show wpAny _ A.in1 (if decide (x > i) = true then _ else _) _ _ _
      by_cases c1 : x > i
      · rw [decide_eq_true c1, if_pos rfl]
        refine wpAny_bind (wpAny_updateSeq hS' rfl (wpAny_bind (wpAny_letGo ?_)))
        rw [nm]
        exact wpAny_pure ⟨plainId_quiet F.plain_max_loop _, put_ #[.int x t, .int x t] tk' ⟨t, by simp only; rw [Int.max_eq_right (by omega)]⟩⟩
      · rw [decide_eq_false c1, if_neg Bool.false_ne_true]
        refine wpAny_bind (wpAny_letGo ?_)
        rw [nm]
        refine wpAny_pure ⟨plainId_quiet F.plain_max_loop _, ih (j + 1) _ tk' c _ (by omega) (by omega) st'.1 st'.2 hS' ?_ kp'⟩
        rw [tk1, bestOf_snoc, q]
        exact ⟨u, by simp only; rw [Int.max_eq_left (by omega)]⟩
/-- a built-in function, with named arguments, that may go on by a loop -/
theorem callB_kw {prog : Program} {w : World} {A : Around} {E Q : Value → Shared → Prop} {s : Shared} {id : String} {b : Builtin} {args : List Value} {kw : List (Str × Value)} (hk : builtinKind id = none) (hp : plainId id = true) (hb : entryFor table id = some b) (ha : argsOk id ⟨args, kw⟩)
    (hc : wpAny (model prog w) A.in1 (b ⟨args, kw⟩) (fun fin s' => match fin with
      | .done f => (match (Except.ok f : Result) with | .ok (.ret v) => Q v s' | .ok _ => False | .error e => E e s')
      | .again c => c.quiet = true ∧ codeAny (model prog w) A c (fun r s' => match r with | .ok (.ret v) => Q v s' | .ok _ => False | .error e => E e s') s') E s) : wpAny (model prog w) A (call (.builtin id) args kw) Q E s := by
  refine wpAny_call (codeAny_call_builtin hp hb ?_)
  simp only [checkBuiltinCall, hk]
  cases e : Manifest.signature? id with
  | none => exact wpAny_pure hc
  | some sig =>
    have e2 : Bind.checkArgs id sig ⟨args, kw⟩ = pure () := by simpa only [argsOk, e] using ha
    simp only [e2]
    exact wpAny_pure hc
theorem args_max_d (x d : Value) : argsOk "max" ⟨[x], [("default", d)]⟩ := by
  unfold argsOk
  kernel_rfl
theorem max_default {prog : Program} {w : World} {A : Around} {E Qe : Value → Shared → Prop} {l : Addr} {items : Array Value} {ns : List Int} {d : Value} {s : Shared} (hh : A.handled = none) (hl : s.heap.IsList l items) (hi : IntsAre items.toList ns)
    (h : ∀ v h' tk, (match bestOf ns with | some i => ∃ t, v = .int i t | none => v = d) → (∀ b o, s.heap.get? b = some o → h'.get? b = some o) → Qe v { s with heap := h', toks := tk }) : wpAny (model prog w) A (call (.builtin "max") [.ref l] [("default", d)]) Qe E s := by
  have nm : (toString "max" ++ toString ".loop" : String) = "max.loop" := by decide
  have lt : l < s.heap.objs.size := by
    obtain ⟨_, e, _⟩ := hl
    exact Heap.lt_size e
  refine callB_kw F.kind_max F.plain_max F.entry_max (args_max_d _ _) ?_
  show wpAny _ A.in1 (Builtin.Builtins.bindParams "max" ["key", "default"] 0 ⟨[], [("default", d)]⟩ >>= _) _ _ s
  refine wpAny_bind (wpAny_of_eq (show Builtin.Builtins.bindParams "max" ["key", "default"] 0 ⟨[], [("default", d)]⟩ = pure [none, some d] from rfl) ?_)
  refine wpAny_bind (wpAny_pure (wpAny_bind ?_))
  refine wpAny_pyIter_list hl (wpAny_bind (wpAny_newObj_type ?_))
  rw [nm]
  have k1 : ∀ b o, s.heap.get? b = some o → ((s.heap.push { cls := .type "list_iterator", data := .fields #[.ref l, .int 0 0] }).push { cls := .type "list", data := .seq #[] 0 }).get? b = some o := fun b o e => Heap.get?_push_of_some _ (Heap.get?_push_of_some _ e)
  have sz : (s.heap.push { cls := .type "list_iterator", data := .fields #[.ref l, .int 0 0] }).objs.size = s.heap.objs.size + 1 := Heap.size_push ..
  refine wpAny_pure ⟨plainId_quiet F.plain_max_loop _, ?_⟩
  refine max_loopD (s0 := s) (I := s.heap.objs.size) (l := l) (S := (s.heap.push { cls := .type "list_iterator", data := .fields #[.ref l, .int 0 0] }).objs.size) (items := items) (ns := ns) hh (Nat.ne_of_lt lt) (by rw [sz]; exact Nat.succ_ne_self _) (by rw [sz]; exact Nat.ne_of_gt (Nat.lt_succ_of_lt lt)) hi (fun v h' tk hv kp => ?_) items.size 0 _ s.toks 0 #[] rfl (Nat.zero_le _) ⟨_, Heap.get?_push_of_some _ (Heap.get?_push_size _ rfl), rfl, rfl⟩ ((hl.push _).push _) (Heap.get?_push_size _ rfl) rfl fun b o _ _ e => k1 b o e
  refine h v h' tk hv fun b o e => kp b o ?_ ?_ e
  · exact Nat.ne_of_lt (Heap.lt_size e)
  · rw [sz]
    exact Nat.ne_of_lt (Nat.lt_succ_of_lt (Heap.lt_size e))
theorem boot_max' : bootBuiltins "max" = some (.builtin "max") := by decide +kernel
theorem e_maxD {X : Cx} {W : WX} {cls ts : List Addr} {a d : Expr} {F G : EF} {p pos kp : Pos} (hc : X.calm = true) (hg : Gl X "max") (hm : X.mg "max" = none) (ha : E' X cls ts W a F) (hd : E' X cls ts W d G) (he : starEach [a] X.env = (false, eval a X.env) :: starEach [] X.env := by rfl) :
    E' X cls ts W (.Call (.Name "max" p) [a] [⟨some "default", d, kp⟩] pos) (cMaxD F G) := by
  refine ⟨fun pins s σ H Q I ⟨ρ, ε, h, hH, hE, q⟩ => ?_⟩
  have q1 : tA X.K cls ts W (aCons F aNil) σ H fun vs H1 => tA X.K cls ts W (aCons G aNil) σ H1 fun zs H2 => ∃ (l : Addr) (ns : List Int) (z : V), vs = [.ref l] ∧ zs = [z] ∧ SqL X.K H2 l (ns.map V.int) ∧ Q (match bestOf ns with | some i => .int i | none => z) H2 := by
    refine tG_bind (rel2 := relD X.K) (F := aCons F aNil) (G := fun ds h1 => (aCons G aNil ε h1).bind fun es h2 => match ds, es with
      | [.ref n], [e] => match h2[n]? with
        | some (.lst xs) => match omap asInt xs with
          | some [] => .ok e h2
          | some (i :: is) => .ok (.int (is.foldl max i)) h2
          | none => .stuck
        | _ => .stuck
      | _, _ => .stuck) hH hE (Q := Q) ?_ fun ρ1 H1 vs h1 ds _ e1 hH1 rv hE1 p1 => ?_
    · unfold cMaxD at q
      cases e1 : F ε h with
      | stuck => rw [e1] at q; exact q.elim
      | exc x h1 => rw [e1] at q; simpa [aCons, e1] using q
      | ok dv h1 =>
        rw [e1] at q
        simp only [Res.bind_ok] at q
        cases e2 : G ε h1 with
        | stuck => rw [e2] at q; exact q.elim
        | exc x h2 => rw [e2] at q; simpa [aCons, e1, e2, aNil] using q
        | ok ev h2 =>
          rw [e2] at q
          simp only [Res.bind_ok] at q
          simp only [aCons, e1, e2, aNil, Res.bind_ok]
          cases dv <;> exact q
    · refine tG_bind hH1 hE1 p1 fun ρ2 H2 zs h2 es _ e2 hH2 rz hE2 p2 => ?_
      split at p2 <;> first | exact p2.elim | skip
      obtain ⟨z, rfl, rz1⟩ := rz.one
      obtain ⟨v, rfl, rv1⟩ := rv.one
      have rv2 := rv1.mono e2
      cases rv2 with
      | ref q1 =>
        split at p2 <;> first | exact p2.elim | skip
        rename_i xs ex
        obtain ⟨us, k1, r1⟩ := hH2.lst q1 ex
        split at p2 <;> first | exact p2.elim | skip
        · rename_i ei
          obtain rfl := ints_of r1 ei
          exact ⟨_, [], z, rfl, rfl, SqL.of k1, post_val hH2 rz1 p2⟩
        · rename_i i is ei
          obtain rfl := ints_of r1 ei
          exact ⟨_, i :: is, z, rfl, rfl, SqL.of k1, post_val hH2 (.int _) p2⟩
  refine wpAny_Call_Name_kw (ld_blt I hg hm boot_max' (callWith_kw (thn ((a_cons ha a_nil he).run pos pins s σ H _ I q1) fun us s1 ⟨vs, H1, I1, r1, y⟩ => ?_) (by rw [he]; rfl) (by rw [he]; rfl)))
  refine thn ((k_cons hd k_nil).run pos pins s1 σ H1 _ I1 y) fun ws s2 ⟨zs, H2, I2, r2, l, ns, z, ev, ez, hs, q2⟩ => ?_
  subst ev ez
  obtain ⟨u, rfl, ru⟩ := vals1 r1
  obtain ⟨w, rfl, rw'⟩ := vals1 r2
  obtain rfl : u = Value.ref l := ru
  obtain ⟨its, rt, pl, _⟩ := I2.list hs
  show wpAny _ _ (call (.builtin "max") [.ref l] [("default", w)]) _ _ s2
  refine max_default (I2.ok.hd hc) pl.isList (ns := ns) (by simpa using rt.ints) fun v h' tk hv hk => ?_
  cases e : bestOf ns with
  | none =>
    rw [e] at hv q2
    cases (show v = w from hv)
    exact ⟨z, H2, I2.kept hk, rw', q2⟩
  | some i =>
    rw [e] at hv q2
    exact ⟨.int i, H2, I2.kept hk, hv, q2⟩
end Mi

/-! Mi27: exceptions of own classes: what the built-in class beneath says; they are made. -/
namespace Mi
open L2 PySem PySem.Spec PyProof.Rows
abbrev keTail : List Value := [.type "KeyError", .type "LookupError", .type "Exception", .type "BaseException", .type "object"]
abbrev ieTail : List Value := [.type "IndexError", .type "LookupError", .type "Exception", .type "BaseException", .type "object"]
abbrev veTail' : List Value := [.type "ValueError", .type "Exception", .type "BaseException", .type "object"]
theorem ke_store : StoreFacts "KeyError" keTail "object.__setattr__" "object" where
  mro := by kernel_rfl
  slot := .of (owner := "object") (n := "__setattr__") (by rw [typeLookup_type, builtinLookup_eq_fast]; kernel_rfl) (by decide +kernel) (by decide +kernel) (by decide +kernel)
    (by first | exact .inl (by decide +kernel) | exact .inr (by decide +kernel)) (by rw [isSubtype_type]; kernel_rfl)
  entry := PySem.F.entry_object_sa
  kind := by decide +kernel
  split := by decide +kernel
  hasOwner := by decide +kernel
  args := fun a b c => by unfold argsOk; kernel_rfl
  passes := fun self => by kernel_rfl
/-- what making one needs of the classes behind its own one: N makes it -/
structure Beh (N newId : String) (bm : List Value) : Prop where
  F : ∃ initId bmB, ExcBaseFacts N newId initId bmB
  hB : bm.contains (.type N) = true
  hA : bm.contains (.type "AttributeError") = false
  hN : bm.contains (.type "NameError") = false
end Mi
namespace PySem
namespace BehX
open Builtin Builtin.ObjectAttr
section
variable {prog : Program} {w : World} {A : Around} {E : Value → Shared → Prop} {R : Result → Shared → Prop} {h : Heap} {g : Array GenState} {d : Drawn} {t : Nat} {os : OsState}
variable {nm q : Str} {C D : Addr} {bs bm : List Value} {hdct : Bool} {sn : List Str} {sub : List Value} {ab : Bool} {col : Option Bool} {dd : Option Addr} {k0 k1 k2 k3 k5 : Option Value} {N newId : String}
theorem chk {M : Model} (Z : Mi.Beh N newId bm) {rest : List Value} {kw : List (Str × Value)} {Q : Unit → Shared → Prop} (hC : h.get? C = some (excClassObj nm q C D bs bm hdct sn sub ab col dd k0 k1 k2 k3 k5 newId)) (hq : Q () ⟨h, g, d, t, os⟩) : wpAny M A (checkBuiltinCall newId ⟨.ref C :: rest, kw⟩) Q E ⟨h, g, d, t, os⟩ := by
  obtain ⟨ini, bmB, F⟩ := Z.F
  have c1 : (Value.ref C :: bm).contains (.type N) = true := by rw [List.contains_cons, Z.hB, Bool.or_true]
  have c2 := F.noStar
  simp only [checkBuiltinCall, F.newKind, F.newSplit, F.newRow]
  repeat (first | refine wpAny_loadPart_at hC ?_ | (refine wpAny_isSubtype_exc hC ?_; rw [c1]) | refine wpAny_staticBase_exc hC ?_ | refine wpAny_madeBy_exc hC ?_ | simp only [bne_self_eq_false, Bool.false_eq_true, if_false] | wp_step)
  first | exact hq | (refine wpAny_pure ?_; exact hq) | skip
theorem new (Z : Mi.Beh N newId bm) {rest : List Value} {kw : List (Str × Value)} (hC : h.get? C = some (excClassObj nm q C D bs bm hdct sn sub ab col dd k0 k1 k2 k3 k5 newId))
    (hq : R (.ok (.ret (.ref (h.objs.size + 1)))) ⟨(h.push (W.kdv_tup rest)).push (HandSPX.excO C h.objs.size), g, d, t, os⟩) (hz : rest.length ≤ sizeLine) : codeAny (model prog w) A (.builtin newId ⟨.ref C :: rest, kw⟩) R ⟨h, g, d, t, os⟩ := by
  obtain ⟨ini, bmB, F⟩ := Z.F
  have c0 := F.ends
  have c1 : (Value.ref C :: bm).contains (.type N) = true := by rw [List.contains_cons, Z.hB, Bool.or_true]
  have c2 : (Value.ref C :: bm).contains (.type "AttributeError") = false := by rw [List.contains_cons, Z.hA]; rfl
  have c3 : (Value.ref C :: bm).contains (.type "NameError") = false := by rw [List.contains_cons, Z.hN]; rfl
  refine codeAny_builtinAt F.entry ?_
  unfold Builtin.«BaseException.__new__»
  refine wpAt_bind ?_
  show wpAt _ _ _ (stack >>= _) _ _ _
  refine wpAt_bind (wpAt_stack fun p below => wpAt_of_wpAny ?_)
  wp_walk
  refine wpAt_of_wpAny ?_
  rw [F.owner]
  repeat (first | with_reducible refine wpAny_madeHere_exc F.canon hC ?_ | with_reducible refine wpAny_loadPart_at hC ?_ | (with_reducible refine wpAny_isSubtype_exc hC ?_; first | rw [c1] | rw [c2] | rw [c3]) | wp_step)
  show R _ _
  rw [Heap.size_push]
  exact hq
theorem typ (Z : Mi.Beh N newId bm) {rest : List Value} {kw : List (Str × Value)} {fI : Addr} {Q : Fin → Shared → Prop}
    (hC : h.get? C = some (excClassObj nm q C D bs bm hdct sn sub ab col dd k0 k1 k2 k3 k5 newId))
    (hi : W.Looks (model prog w) h (typeLookup (.ref C) "__init__") (some (.ref fI))) (hb : ∀ self, W.Looks (model prog w) h (bindSpecial (.ref fI) self) (.ref fI, [self])) (hz : rest.length ≤ sizeLine)
    (hq : codeAny (model prog w) A (.call (.ref fI) ⟨.ref (h.objs.size + 1) :: rest, kw⟩)
      (fun r s' => match r with | .ok (.ret v) => v = .none ∧ Q (.done (.ret (.ref (h.objs.size + 1)))) s' | .ok _ => False | .error e => E e s')
      ⟨(h.push (W.kdv_tup rest)).push (HandSPX.excO C h.objs.size), g, d, t, os⟩) :
    wpAny (model prog w) A (Builtin.«type.__call__» ⟨.ref C :: rest, kw⟩) Q E ⟨h, g, d, t, os⟩ := by
  obtain ⟨ini, bmB, F⟩ := Z.F
  repeat (first | with_reducible refine wpAny_loadPart_at hC ?_ | with_reducible refine wpAny_madeBy_exc hC ?_ | wp_step)
  refine codeAny_call_builtin_code (Code.quiet_builtin _ F.quiet) (chk Z hC ?_)
  refine new Z hC ?_ hz
  show wpAny _ _ _ _ _ _
  have k : ∀ b o, h.get? b = some o → ((h.push (W.kdv_tup rest)).push (HandSPX.excO C h.objs.size)).get? b = some o := fun b o e => Heap.get?_push_of_some _ (Heap.get?_push_of_some _ e)
  have hC₁ := k _ _ hC
  have hg : ((h.push (W.kdv_tup rest)).push (HandSPX.excO C h.objs.size)).get? (h.objs.size + 1) = some (HandSPX.excO C h.objs.size) := by heap_get
  have c1 : (Value.ref C :: bm).contains (.ref C) = true := by simp
  have i1 := hi.keeps k
  have b1 := (hb (.ref (h.objs.size + 1))).keeps k
  unfold isInstance
  repeat (first | with_reducible refine wpAny_loadPart_at hg ?_ | (with_reducible refine wpAny_isSubtype_exc hC₁ ?_; rw [c1]) | wp_step)
  show wpAny _ _ (typeLookup (.ref C) _) _ _ _
  refine i1.at ?_
  refine wpAny_holding (wpAny_bind (b1.at ?_))
  refine wpAny_bind (wpAny_call (codeAny_mono hq fun r s' z => ?_))
  rcases r with e | (v | _ | _ | _) <;> first | exact z | exact z.elim | skip
  obtain ⟨rfl, z⟩ := z
  first
    | exact wpAny_pure (wpAny_pure z)
    | (wp_walk; exact z)
theorem tck {M : Model} {rest : List Value} {kw : List (Str × Value)} {Q : Unit → Shared → Prop} (hC : h.get? C = some (excClassObj nm q C D bs bm hdct sn sub ab col dd k0 k1 k2 k3 k5 newId)) (hq : Q () ⟨h, g, d, t, os⟩) : wpAny M A (checkBuiltinCall "type.__call__" ⟨.ref C :: rest, kw⟩) Q E ⟨h, g, d, t, os⟩ := by
  have f3 := tc_sub
  have hT : (⟨h, g, d, t, os⟩ : Shared).TypeIs (.ref C) "type" := ⟨_, hC, rfl⟩
  simp only [checkBuiltinCall, tc_kind, tc_split]
  repeat (any_goals (first | assumption | with_reducible refine wpAny_loadPart_at hC ?_ | with_reducible refine wpAny_onRaise ?_ | with_reducible refine wpAny_map ?_ | wp_step))
/-- C called, its __init__ a def: what is wanted of the def's call, at the new object -/
theorem call (Z : Mi.Beh N newId bm) {rest : List Value} {kw : List (Str × Value)} {fI : Addr}
    (hC : h.get? C = some (excClassObj nm q C D bs bm hdct sn sub ab col dd k0 k1 k2 k3 k5 newId))
    (hi : W.Looks (model prog w) h (typeLookup (.ref C) "__init__") (some (.ref fI))) (hb : ∀ self, W.Looks (model prog w) h (bindSpecial (.ref fI) self) (.ref fI, [self])) (hz : rest.length ≤ sizeLine)
    (hq : codeAny (model prog w) (A.under (.builtin "type.__call__" ⟨.ref C :: rest, kw⟩)) (.call (.ref fI) ⟨.ref (h.objs.size + 1) :: rest, kw⟩) (W.InitBack (h.objs.size + 1) R)
      ⟨(h.push (W.kdv_tup rest)).push (HandSPX.excO C h.objs.size), g, d, t, os⟩) :
    codeAny (model prog w) A (.call (.ref C) ⟨rest, kw⟩) R ⟨h, g, d, t, os⟩ := by
  have f1 := tc_lookup
  have f2 := tc_bind (.ref C)
  have hTy : (⟨h, g, d, t, os⟩ : Shared).TypeIs (.ref C) "type" := ⟨_, hC, rfl⟩
  refine codeAny_of_tree ?_
  show wpAny _ _ (callAny (.ref C) _) _ _ _
  repeat (any_goals (first | assumption | with_reducible refine wpAny_loadPart_at hC ?_ | wp_step))
  refine ⟨rfl, ?_⟩
  refine codeAny_call_builtin_at (Code.quiet_builtin _ (by decide +kernel)) entry_typeCall (tck hC (typ Z hC hi hb hz ?_))
  refine codeAny_mono hq fun r s' z => ?_
  rcases r with e | (v | _ | _ | _) <;> exact z
end
end BehX
end PySem

namespace PySem
namespace BehX
open Builtin Builtin.ObjectAttr
section
variable {prog : Program} {w : World} {A : Around} {E : Value → Shared → Prop} {hp : Heap} {g : Array GenState} {d : Drawn} {t : Nat} {os : OsState} {K : W.Frag} {name : Str} {tk : Tok} {v : Value} {x C dx : Addr} {fv : Array Value} {cd : ClassData} {b : Bool} {Q : Fin → Shared → Prop}
/-- the first field of an exception: its dict is made -/
theorem own_new (X : K.In hp) (hx : hp.get? x = some { cls := .ref C, data := .fields fv }) (hcd : W.clsIn K C = some cd) (hh : cd.hasDict = true)
    (hq : ∀ h' tk' dx, (∀ b o, b ≠ x → hp.get? b = some o → h'.get? b = some o) → hp.objs.size ≤ dx → dx ≠ x → h'.get? x = some { cls := .ref C, dict := some dx, data := .fields fv } →
      h'.Ns1 dx (fun y => if y = name then some v else none) → Q (.done (.ret .none)) ⟨h', g, d, tk', os⟩) : wpAny (model prog w) A (storeInOwnDict (.ref x) (.ref C) (.str name tk) name v b) Q E ⟨hp, g, d, t, os⟩ := by
  have hxs : x ≠ hp.objs.size := Nat.ne_of_lt (Heap.lt_size hx)
  have hcls : W.Looks (model prog w) hp (classData C) cd := W.looks_clsIn X hcd
  obtain ⟨nm, bs, mro, ns, qn, hd, sn, sb, ab, col, del⟩ := cd
  dsimp only at hh
  subst hh
  unfold storeInOwnDict ownDictForStores
  repeat (first | with_reducible refine HandSPX.store_in_new ?_ ?_ | with_reducible refine wpAny_loadPart_at hx ?_ | with_reducible refine hcls.at ?_ | wp_step)
  · exact ⟨_, #[], _, (Heap.get?_update_ne _ _ _ _ hxs.symm).trans (Heap.get?_push_at rfl rfl), rfl, fun e he => absurd he (by simp), fun _ => rfl⟩
  · intro h' tk' hn' hs
    have hx₁ : (hp.push { cls := .type "dict", data := .dict #[] }).get? x = some { cls := .ref C, data := .fields fv } := Heap.get?_push_of_some _ hx
    refine hq h' tk' hp.objs.size (fun b o hb ho => ?_) (Nat.le_refl _) hxs.symm ?_ hn'
    · exact (hs.2 b (Nat.ne_of_lt (Heap.lt_size ho))).trans ((Heap.get?_update_ne _ _ _ _ hb).trans (Heap.get?_push_of_some _ ho))
    · exact (hs.2 x hxs).trans (Heap.get?_update_self _ hx₁ rfl)
/-- a further field -/
theorem own_old {m0 : Str → Option Value} {nl : List Str} (X : K.In hp) (hx : hp.get? x = some { cls := .ref C, dict := some dx, data := .fields fv }) (hns : hp.Ns1 dx m0) (hw : Within m0 nl) (hz : nl.length ≤ 1000) (hcd : W.clsIn K C = some cd) (hh : cd.hasDict = true)
    (hq : ∀ h' tk', (∀ b o, b ≠ dx → hp.get? b = some o → h'.get? b = some o) → h'.Ns1 dx (fun y => if y = name then some v else m0 y) → Q (.done (.ret .none)) ⟨h', g, d, tk', os⟩) :
    wpAny (model prog w) A (storeInOwnDict (.ref x) (.ref C) (.str name tk) name v b) Q E ⟨hp, g, d, t, os⟩ := by
  obtain ⟨oD, esD, epD, hoD, hdD, _⟩ := hns.count hw
  have hcls : W.Looks (model prog w) hp (classData C) cd := W.looks_clsIn X hcd
  obtain ⟨nm, bs, mro, ns, qn, hd, sn, sb, ab, col, del⟩ := cd
  dsimp only at hh
  subst hh
  unfold storeInOwnDict ownDictForStores
  repeat (first | with_reducible refine OEX.store_in_old hns hw hz ?_ | with_reducible refine wpAny_loadPart_at hx ?_ | with_reducible refine hcls.at ?_ | wp_step)
  intro h' tk' hn' hs
  exact hq h' tk' (fun b o hb ho => (hs.2 b hb).trans ho) hn'
end
end BehX
end PySem
namespace Mi
open L2 PySem PySem.Spec PyProof.Rows
/-- what the written part says of an own exception class with an __init__ -/
structure XCls (K : PySem.W.Frag) (C : Addr) : Prop where
  cls : ∃ N newId B bmB nm q D bs bm sn sub ab col dd k0 k1 k2 k3 k5, K.lookup C = some (excClassObj nm q C D bs bm true sn sub ab col dd k0 k1 k2 k3 k5 newId) ∧ Beh N newId bm ∧ PySem.W.excTail bmB bm = true ∧ StoreFacts B bmB "object.__setattr__" "object"
  sa : PySem.W.findIn K (.ref C) "__setattr__" = some (some (.builtin "object.__setattr__"))
  exC : PySem.W.subIn K (.ref C) (.type "BaseException") = some true
  tyC : PySem.W.typeIn K (.ref C) = some (.type "type")
  kC : PySem.W.keepIn K (.ref C) = true
  ga : PySem.W.findIn K (.ref C) "__getattribute__" = some (some (.builtin "BaseException.__getattribute__"))
  gg : PySem.W.findIn K (.ref C) "__getattr__" = some none
theorem XCls.data {K : PySem.W.Frag} {C : Addr} (T : XCls K C) : ∃ cd B bmB, PySem.W.clsIn K C = some cd ∧ cd.hasDict = true ∧ PySem.W.excOver K C bmB = true ∧ StoreFacts B bmB "object.__setattr__" "object" := by
  obtain ⟨N, newId, B, bmB, nm, q, D, bs, bm, sn, sub, ab, col, dd, k0, k1, k2, k3, k5, hC, Z, ht, st⟩ := T.cls
  have hcl : PySem.W.clsIn K C = some { name := nm, bases := bs, mro := .ref C :: bm, ns := D, qualname := q, hasDict := true, slotNames := sn, subclasses := sub, abstract := ab, collection := col, hasDel := false } := by
    unfold PySem.W.clsIn
    rw [hC] <;> rfl
  refine ⟨_, B, bmB, hcl, rfl, ?_, st⟩
  unfold PySem.W.excOver
  rw [hcl]
  simp [ht]
section
variable {X : Cx} {pins : List (Addr × Obj)} {σ : L2.St} {H : Hp} {s : Shared} {a C dx : Addr} {f : Str} {y : V} {u : Value} {fs : List (Str × V)} {Q : Unit → Shared → Prop} {E : Value → Shared → Prop} {A : Around}
theorem xst_new (T : XCls X.K C) (I : Inv X pins σ H s) (e : H a = some (exo a C none)) (hno : PySem.W.takerIn X.K C f = some none) (ry : RelV y u)
    (h : ∀ dx s', H dx = none → dx ≠ a → Inv X pins σ (upd (upd H dx (exd dx [(f, y)])) a (exo a C (some dx))) s' → Q () s') : wpAny (model X.prog X.w) A (setAttr (.ref a) f u) Q E s := by
  obtain ⟨cd, B, bmB, hcl, hdd, hov, SF⟩ := T.data
  obtain ⟨t1, ho⟩ := exo_at I.hok e
  obtain ⟨hp, g, d, t, os⟩ := s
  refine PySem.W.set_plain I.kIn (od := none) ⟨ho, rfl, rfl, trivial⟩ T.sa (PySem.W.osa_openX (od := none) SF I.kIn ⟨ho, rfl, rfl, trivial⟩ hov hno fun b => ?_)
  refine PySem.BehX.own_new I.kIn ho hcl hdd (fun h' tk' dx k dn dne hx hn => ?_)
  have hnd : H dx = none := I.hok.fresh dn
  have nd : ∀ {b : Addr} {o : Obj}, hp.get? b = some o → b ≠ dx := fun {b o} q => Nat.ne_of_lt (Nat.lt_of_lt_of_le (Heap.lt_size q) dn)
  have na : ∀ {b : Addr}, H b = none → b ≠ a := fun {b} n z => by
    rw [z, e] at n
    cases n
  refine h dx _ hnd dne (I.un (t' := tk') (H' := upd (upd H dx (exd dx [(f, y)])) a (exo a C (some dx))) (h' := h') ?_ fun b o q => ?_)
  · exact {
      keep := fun b o q n _ _ => k b o (na n) q
      slot := fun b o q n _ _ => ⟨o.slots, k b o (na n) q⟩
      free := fun b o q n _ => by rw [upd_ne (na n), upd_ne (nd q)]; exact n
      there := fun b o q _ => by
        by_cases hb : b = a
        · exact ⟨_, by rw [hb]; exact hx⟩
        · exact ⟨o, k b o hb q⟩
      tups := fun b xs q => by rw [upd_ne (at_ne e q exo_tup), upd_ne (ne_of_none q hnd)]; exact q
      frzs := fun b o v q => by rw [upd_ne (at_ne e q exo_frz), upd_ne (ne_of_none q hnd)]; exact q
      tbls := fun b ps q => ⟨#[], by rw [upd_ne (at_ne e q exo_tbl), upd_ne (ne_of_none q hnd), q]; simp⟩ }
  by_cases hb : b = a
  · subst hb
    rw [upd_same] at q
    cases q
    exact exo_ok hx
  · rw [upd_ne hb] at q
    by_cases hd : b = dx
    · subst hd
      rw [upd_same] at q
      cases q
      exact exd_ok hn (relO_put (fs := []) ry fun g => True.intro)
    · rw [upd_ne hd] at q
      exact (I.hok b o q).stay (fun c v hc z => k c v (by
          rcases hc with hc | hc
          · rw [hc]; exact hb
          · exact at_ne e hc exo_own) z)
        (fun c hc => by rw [upd_ne (at_ne e hc exo_own), upd_ne (ne_of_none hc hnd)]; exact hc) (fun c xs hc => by rw [upd_ne (at_ne e hc exo_tup), upd_ne (ne_of_none hc hnd)]; exact hc)
theorem xst_old (T : XCls X.K C) (I : Inv X pins σ H s) (e : H a = some (exo a C (some dx))) (ed : H dx = some (exd dx fs)) (hl : fs.length ≤ 900) (hno : PySem.W.takerIn X.K C f = some none) (ry : RelV y u)
    (h : ∀ s', Inv X pins σ (upd H dx (exd dx ((f, y) :: fs))) s' → Q () s') : wpAny (model X.prog X.w) A (setAttr (.ref a) f u) Q E s := by
  obtain ⟨cd, B, bmB, hcl, hdd, hov, SF⟩ := T.data
  obtain ⟨t1, ho⟩ := exo_at I.hok e
  obtain ⟨mA, hns, rel⟩ := exd_at I.hok ed
  have hw := within_of rel
  obtain ⟨hp, g, d, t, os⟩ := s
  obtain ⟨oD, _, _, hoD, _, _⟩ := hns.count hw
  refine PySem.W.set_plain I.kIn (od := some oD) ⟨ho, rfl, rfl, hoD⟩ T.sa (PySem.W.osa_openX (od := some oD) SF I.kIn ⟨ho, rfl, rfl, hoD⟩ hov hno fun b => ?_)
  refine PySem.BehX.own_old I.kIn ho hns hw (by rw [List.length_map]; omega) hcl hdd (fun h' tk' k hn => ?_)
  have hd : ∃ o, h'.get? dx = some o := by
    obtain ⟨o, _, _, e', _⟩ := hn
    exact ⟨o, e'⟩
  exact h _ (I.write (t' := tk') (x := dx) (e := dx) (o := exd dx ((f, y) :: fs)) (by rw [ed]; exact True.intro) (.inl rfl) k hd (exd_ok hn (relO_put ry rel)))
end
/-- self.f = e -/
def tXst (K : PySem.W.Frag) (f : Str) (to te : TE) : TS := fun D σ H => te σ H fun y H1 => to σ H1 fun x H2 => ∃ a C : Addr, x = .ref a ∧ XCls K C ∧ PySem.W.takerIn K C f = some none ∧
  ((H2 a = some (exo a C none) ∧ ∀ dx, H2 dx = none → dx ≠ a → D.nx σ (upd (upd H2 dx (exd dx [(f, y)])) a (exo a C (some dx)))) ∨
    ∃ (dx : Addr) (fs : List (Str × V)), H2 a = some (exo a C (some dx)) ∧ H2 dx = some (exd dx fs) ∧ fs.length ≤ 900 ∧ D.nx σ (upd H2 dx (exd dx ((f, y) :: fs))))
theorem ps_xst {X : Cx} {o e : Expr} {to te : TE} {f : Str} {p' pos : Pos} (ho : PE X o to) (he : PE X e te) (hs : swapsWith e (some (.Attribute o f p')) pos.line X.env = pure false := by rfl) : PS X (.Assign [.Attribute o f p'] e pos) (tXst X.K f to te) := by
  refine ⟨fun pins s σ H D I h => ?_⟩
  refine plainObj_wpAny_Assign_Attribute (thn (he.run pins s σ H _ I h) fun v s1 ⟨y, H1, I1, r1, q1⟩ => thn (ho.run pins s1 σ H1 _ I1 q1) fun u s2 ⟨x, H2, I2, r2, a, C, ex, T, hno, q⟩ => ?_) hs
  subst ex
  obtain rfl : u = Value.ref a := r2
  rcases q with ⟨ea, q⟩ | ⟨dx, fs, ea, ed, hl, q⟩
  · exact xst_new T I2 ea hno r1 fun dx s' n ne J => ⟨σ, _, J, q dx n ne⟩
  · exact xst_old T I2 ea ed hl hno r1 fun s' J => ⟨σ, _, J, q⟩
end Mi

namespace Mi
open L2 PySem PySem.Spec PyProof.Rows
/-! ### __init__ of such a class -/
/-- its fields are what was handed in -/
def spX (C : Addr) (fns : List Str) : Sp := fun vs H Q _ => ∃ (a : Addr) (ws : List V), vs = .ref a :: ws ∧ ws.length = fns.length ∧ H a = some (exo a C none) ∧
  ∀ (d : Addr) (H' : Hp), H d = none → d ≠ a → H' a = some (exo a C (some d)) → H' d = some (exd d (fns.zip ws).reverse) → (∀ b, b ≠ a → b ≠ d → H' b = H b) → Q .non H'
theorem spX_len {C : Addr} {fns : List Str} {vs : List V} {H : Hp} {Q : VK} {E : XK} (h : spX C fns vs H Q E) : vs.length = (("self" : Str) :: fns).length := by
  obtain ⟨a, ws, rfl, l, _⟩ := h
  rw [List.length_cons, List.length_cons, l]
section
variable {K : PySem.W.Frag} {C : Addr} {f f1 f2 f3 : Str} {vs : List V} {H : Hp} {Q : VK} {E : XK}
theorem rd1 (T : XCls K C) (hf : PySem.W.takerIn K C f = some none) (h : spX C [f] vs H Q E) : tXst K f (tVar 0) (tVar 1) { nx := fun _ H' => Q .non H', rt := Q } (L2.start ["self", f] vs) H := by
  obtain ⟨a, ws, rfl, hl, ea, k⟩ := h
  match ws, hl with
  | [v], _ =>
    exact ⟨v, rfl, .ref a, rfl, a, C, rfl, T, hf, .inl ⟨ea, fun d n ne => k d _ n ne upd_same (by rw [upd_ne ne, upd_same]; rfl) fun b h1 h2 => by rw [upd_ne h1, upd_ne h2]⟩⟩
theorem rd3 (T : XCls K C) (hf1 : PySem.W.takerIn K C f1 = some none) (hf2 : PySem.W.takerIn K C f2 = some none) (hf3 : PySem.W.takerIn K C f3 = some none) (h : spX C [f1, f2, f3] vs H Q E) :
    tXst K f1 (tVar 0) (tVar 1) { nx := fun σ H => tXst K f2 (tVar 0) (tVar 2) { nx := fun σ H => tXst K f3 (tVar 0) (tVar 3) { nx := fun _ H' => Q .non H', rt := Q } σ H, rt := Q } σ H, rt := Q } (L2.start ["self", f1, f2, f3] vs) H := by
  obtain ⟨a, ws, rfl, hl, ea, k⟩ := h
  match ws, hl with
  | [v1, v2, v3], _ =>
    refine ⟨v1, rfl, .ref a, rfl, a, C, rfl, T, hf1, .inl ⟨ea, fun d n ne => ?_⟩⟩
    refine ⟨v2, rfl, .ref a, rfl, a, C, rfl, T, hf2, .inr ⟨d, [(f1, v1)], upd_same, by rw [upd_ne ne, upd_same], by simp, ?_⟩⟩
    refine ⟨v3, rfl, .ref a, rfl, a, C, rfl, T, hf3, .inr ⟨d, [(f2, v2), (f1, v1)], by rw [upd_ne (Ne.symm ne), upd_same], upd_same, by simp, ?_⟩⟩
    exact k d _ n ne (by rw [upd_ne (Ne.symm ne), upd_ne (Ne.symm ne), upd_same]) (by rw [upd_same]; rfl) fun b h1 h2 => by rw [upd_ne h2, upd_ne h2, upd_ne h1, upd_ne h2]
end
/-! ### C(..) -/
section
variable {X : Cx} {C fI : Addr} {fd : FuncData} {fns : List Str}
/-- what is known of C and its __init__ -/
structure XIni (P : Program) (w : World) (K : PySem.W.Frag) (mg : Str → Option Value) (base : Heap) (C : Addr) (fns : List Str) (fI : Addr) (fd : FuncData) : Prop where
  cls : XCls K C
  iC : PySem.W.findIn K (.ref C) "__init__" = some (some (.ref fI))
  tI : PySem.W.typeIn K (.ref fI) = some (.type "function")
  fn : FnOk P w K mg base L2.CX0 1 fI fd (("self" : Str) :: fns) (spX C fns)
/-- the made one, as it stands in the tracked heap -/
def XNew (C : Addr) (fns : List Str) (ws : List V) (H : Hp) (v : V) (H' : Hp) : Prop := ∃ a d : Addr, v = .ref a ∧ H a = none ∧ H d = none ∧ d ≠ a ∧ H' a = some (exo a C (some d)) ∧ H' d = some (exd d (fns.zip ws).reverse) ∧ ∀ b, b ≠ a → b ≠ d → H' b = H b
theorem run_x {pins : List (Addr × Obj)} {σ : L2.St} {H : Hp} {s : Shared} {us zs : List Value} {ws : List V} {kw : List (Str × Value)} (T : XIni X.prog X.w X.K X.mg X.base C fns fI fd) (hr : Room 2 X.A) (I : Inv X pins σ H s) (r : Vals ws zs) (hlw : ws.length = fns.length) (hus : us.length ≤ sizeLine)
    (hb : ∀ (s : Shared) (self : Value), X.K.In s.heap → BindsTo s fd ⟨self :: us, kw⟩ ((("self" : Str) :: fns).zip (self :: zs))) :
    wpAny (model X.prog X.w) X.A (call (.ref C) us kw) (EP X pins σ (XNew C fns ws H)) X.xe s := by
  obtain ⟨N, newId, B, bmB, nm, q, D, bs, bm, sn, sub, ab, col, dd, k0, k1, k2, k3, k5, hC, Z, _⟩ := T.cls.cls
  obtain ⟨hp, g, dr, tk, os⟩ := s
  have hsz : hp.objs.size ≤ hp.objs.size + 1 := Nat.le_succ _
  have hn : H (hp.objs.size + 1) = none := I.hok.fresh hsz
  have kk : ∀ b o, hp.get? b = some o → ((hp.push (PySem.W.kdv_tup us)).push (PySem.HandSPX.excO C hp.objs.size)).get? b = some o := fun b o e => Heap.get?_push_of_some _ (Heap.get?_push_of_some _ e)
  have hget : ((hp.push (PySem.W.kdv_tup us)).push (PySem.HandSPX.excO C hp.objs.size)).get? (hp.objs.size + 1) = some (PySem.HandSPX.excO C hp.objs.size) := by heap_get
  have I2 : Inv X pins σ (upd H (hp.objs.size + 1) (exo (hp.objs.size + 1) C none)) ⟨(hp.push (PySem.W.kdv_tup us)).push (PySem.HandSPX.excO C hp.objs.size), g, dr, tk, os⟩ :=
    I.laid (t' := tk) (a := hp.objs.size + 1) (o := exo (hp.objs.size + 1) C none) (h' := (hp.push (PySem.W.kdv_tup us)).push (PySem.HandSPX.excO C hp.objs.size)) kk hsz (exo_ok hget)
  have r2 : Vals (V.ref (hp.objs.size + 1) :: ws) (Value.ref (hp.objs.size + 1) :: zs) := .cons rfl r
  have hq : spX C fns (.ref (hp.objs.size + 1) :: ws) (upd H (hp.objs.size + 1) (exo (hp.objs.size + 1) C none)) (fun v H2 => v = .non ∧ XNew C fns ws H (.ref (hp.objs.size + 1)) H2) (fun _ _ _ => False) := by
    refine ⟨_, ws, rfl, hlw, upd_same, fun d H' nd ne ha hd ho => ⟨rfl, _, d, rfl, hn, ?_, ne, ha, hd, fun b h1 h2 => ?_⟩⟩
    · rw [upd_ne ne] at nd; exact nd
    · rw [ho b h1 h2, upd_ne h1]
  refine wpAny_call (PySem.BehX.call Z (I.kIn _ _ hC) (PySem.W.looks_findIn I.kIn T.iC) (fun self => PySem.W.bind_fn I.kIn self T.tI) hus
    (codeAny_mono (T.fn.run _ X.stack _ _ ⟨Value.ref (hp.objs.size + 1) :: us, kw⟩ (Value.ref (hp.objs.size + 1) :: zs) _ _ (fun _ _ _ => False) (hr.make C us kw) (I2.env0.make C us kw) (hb _ _ I2.kIn) r2 hq) fun r s' hq' => ?_))
  cases r with
  | error er => exact hq'.elim
  | ok fl =>
    cases fl with
    | ret u =>
      obtain ⟨v, H', I3, rv, ev, q3⟩ := I2.after hq'
      subst ev
      exact ⟨rv, ⟨V.ref (hp.objs.size + 1), H', I3, rfl, q3⟩⟩
    | next => exact False.elim hq'
    | brk => exact False.elim hq'
    | cont => exact False.elim hq'
end
end Mi

namespace Mi
open L2 PySem PySem.Spec PyProof.Rows
/-! ### what is made, in the store's words -/
section
variable {X : Cx} {pins : List (Addr × Obj)} {σ : L2.St} {H H' : Hp} {s : Shared} {C : Addr} {fns : List Str} {ws : List V} {v : V} {cls ts ρ : List Addr} {h : AH}
theorem ext_two {a d : Addr} (ha : H a = none) (hd : H d = none) (o : ∀ b, b ≠ a → b ≠ d → H' b = H b) (hH : RH X.K cls ts ρ H h) : Ext ts ρ ρ H H' ∧ RH X.K cls ts ρ H' h := by
  have k : ∀ b u, H b = some u → H' b = some u := fun b u e => by
    rw [o b (ne_of_none e ha) (ne_of_none e hd)]; exact e
  have e : Ext ts ρ ρ H H' := ⟨List.prefix_refl _, fun _ h n => absurd h n, fun b u e _ _ => k b u e, fun b _ e => k b _ e, fun b _ _ e => k b _ e, fun b e => by
    cases q : H b with
    | none => rfl
    | some u => rw [k b u q] at e; cases e⟩
  exact ⟨e, hH.keepAll e k⟩
theorem frz_ok {P : Program} {w : World} {H : Hp} {h : Heap} {a : Addr} {o : Obj} (e : h.get? a = some o) : ObjOk P w H h a (.frz o (.own a)) := ⟨e, o, e⟩
/-- an exception that nobody changes -/
theorem xnew_xo (I : Inv X pins σ H' s) (n : XNew C fns ws H v H') (hH : RH X.K cls ts ρ H h) : ∃ H3, Inv X pins σ H3 s ∧ Ext ts ρ ρ H H3 ∧ RH X.K cls ts ρ H3 h ∧ RV X.K ρ H3 v (.xo C) := by
  obtain ⟨a, d, rfl, na, nd, ne, ea, ed, o⟩ := n
  obtain ⟨t1, ho⟩ := exo_at I.hok ea
  obtain ⟨mA, ⟨od, es, ep, hod, hrest⟩, _⟩ := exd_at I.hok ed
  have I1 := I.write (t' := s.toks) (h' := s.heap) (x := d) (e := d) (o := .frz od (.own d)) (by rw [ed]; exact True.intro) (.inl rfl) (fun _ _ _ e => e) ⟨_, hod⟩ (frz_ok hod)
  have I2 := I1.write (t' := s.toks) (h' := s.heap) (x := a) (e := a) (o := .frz { cls := .ref C, dict := some d, data := .fields #[.ref t1, .none, .none, .none, .bool false, .none] } (.own a)) (by rw [upd_ne (Ne.symm ne), ea]; exact True.intro) (.inl rfl) (fun _ _ _ e => e) ⟨_, ho⟩ (frz_ok ho)
  obtain ⟨e, r⟩ := ext_two (H' := upd (upd H' d (.frz od (.own d))) a (.frz { cls := .ref C, dict := some d, data := .fields #[.ref t1, .none, .none, .none, .bool false, .none] } (.own a))) na nd (fun b h1 h2 => by rw [upd_ne h1, upd_ne h2, o b h1 h2]) hH
  refine ⟨_, I2, e, r, .xo ⟨_, _, upd_same, rfl, ⟨_, rfl⟩, .inr ⟨d, od, .own d, rfl, ?_⟩⟩⟩
  rw [upd_ne ne, upd_same]
end
theorem lookup_mem {f : Str} {v : V} : ∀ {l : List (Str × V)}, (l.map (·.1)).Nodup → (f, v) ∈ l → l.lookup f = some v
  | (g, u) :: l, hn, hm => by
    rw [lookup_put]
    rw [List.map_cons, List.nodup_cons] at hn
    rcases List.mem_cons.mp hm with e | hm
    · cases e; rw [if_pos rfl]
    · have ne : f ≠ g := fun z => hn.1 (z ▸ List.mem_map.mpr ⟨(f, v), hm, rfl⟩)
      rw [if_neg ne]
      exact lookup_mem hn.2 hm
theorem lookup_zip {f : Str} {v : V} {fns : List Str} {ws : List V} {i : Nat} (hn : fns.Nodup) (hl : ws.length = fns.length) (h1 : fns[i]? = some f) (h2 : ws[i]? = some v) : ((fns.zip ws).reverse).lookup f = some v := by
  refine lookup_mem ?_ (List.mem_reverse.mpr ?_)
  · rw [List.map_reverse, List.map_fst_zip (by omega)]
    exact List.pairwise_reverse.mpr (hn.imp Ne.symm)
  · refine List.mem_iff_getElem?.mpr ⟨i, ?_⟩
    rw [List.getElem?_zip_eq_some]
    exact ⟨h1, h2⟩
/-! ### C(e, ..), C(e, ..).f -/
def cMk (C : Addr) (n : Nat) (A : AF) : EF := fun ε h => (A ε h).bind fun ds h1 => if ds.length = n then .ok (.xo C) h1 else .stuck
def cMkF (n i : Nat) (gD : List D → List D) (A : AF) : EF := fun ε h => (A ε h).bind fun ds h1 => if (gD ds).length = n then match (gD ds)[i]? with
    | some d => .ok d h1
    | none => .stuck
  else .stuck
/-- how __init__ binds -/
def BdI (q : Str) (st : Stmt) (ps : List Str) : Prop := ∀ (kV doc pm : Value) (an : Option Addr) (cdv ct : Value) (us : List Value), us.length = ps.length → bindArgs (PySem.W.fnOf "__init__" q (defArgs st) (defBody st) (defScope st) .none kV doc pm an cdv ct) ⟨us, []⟩ = pure (ps.zip us)
def BdIK (q : Str) (st : Stmt) (ps ks : List Str) (g : List Value → List Value) : Prop := ∀ (kV doc pm : Value) (an : Option Addr) (cdv ct : Value) (self : Value) (ws : List Value), ws.length = ks.length →
  bindArgs (PySem.W.fnOf "__init__" q (defArgs st) (defBody st) (defScope st) .none kV doc pm an cdv ct) ⟨[self], ks.zip ws⟩ = pure (ps.zip (self :: g ws))
/-- C as a name of the text -/
structure Xc (P : Program) (w : World) (K : PySem.W.Frag) (mg : Str → Option Value) (base : Heap) (x q : Str) (st : Stmt) (C : Addr) (fns : List Str) : Prop where
  ex : ∃ fI fd, XIni P w K mg base C fns fI fd ∧ Fun K "__init__" q st fI fd
  mg : mg x = some (.ref C)
  nf : ∀ f ∈ fns, PySem.W.findIn K (.ref C) f = some none
section
variable {X : Cx} {W : WX} {cls ts : List Addr} {x q f : Str} {st : Stmt} {C : Addr} {fns ks : List Str} {p pos pos2 : Pos} {e : Expr} {es : List Expr} {kws : List Keyword} {A : AF}
/-- what is wanted of the arguments -/
def Rdx (X : Cx) (cls ts : List Addr) (n : Nat) (gD : List D → List D) (gV : List V → List V) (R : List Addr → Hp → AH → List V → List D → Prop) (zs : List V) (H : Hp) : Prop := ∃ ρ h ds, RH X.K cls ts ρ H h ∧ RVs X.K ρ H (gV zs) (gD ds) ∧ (gD ds).length = n ∧ R ρ H h (gV zs) (gD ds)
/-- the call, by places -/
theorem xcall {pins : List (Addr × Obj)} {s : Shared} {σ : L2.St} {H : Hp} {R : VK} {t : TA} (Z : Xc X.prog X.w X.K X.mg X.base x q st C fns) (b : BdI q st (("self" : Str) :: fns)) (hn : fns.length ≤ 900) (hr : Room 2 X.A) (hg : Gl X x) (ha : PA X (e :: es) t) (I : Inv X pins σ H s)
    (h : t σ H fun vs H1 => vs.length = fns.length ∧ ∀ v H2, XNew C fns vs H1 v H2 → R v H2)
    (hdb : (x == ("__debug__" : Str)) = false := by decide) (he : starEach (e :: es) X.env = (false, eval e X.env) :: starEach es X.env := by rfl) (hpl : (backTo pos (starEach es X.env)).any (·.1) = false := by rfl) :
    wpAny (model X.prog X.w) X.A (eval (.Call (.Name x p) (e :: es) [] pos) X.env) (EP X pins σ R) X.xe s := by
  obtain ⟨fI, fd, T, F⟩ := Z.ex
  refine wpAny_Call_Name_kw (ld_glob I hg Z.mg ?_ hdb)
  refine PySem.W.callWith_K (h₀ := X.base) I.ok.mod.kin T.cls.kC (thn (ha.run pos pins s σ H _ I h) fun us s1 ⟨vs, H1, I1, r, hl, k⟩ => ⟨I1.kIn, ?_⟩) he hpl
  have lu : us.length = fns.length := r.length.symm.trans hl
  refine wpAny_mono (run_x T hr I1 r hl (by show us.length ≤ _; rw [sizeLine_eq]; omega) fun s self hk => ?_) (fun u s2 ⟨v, H2, I2, rv, n⟩ => ⟨v, H2, I2, rv, k v H2 n⟩) fun _ _ z => z
  obtain ⟨oc, od, kV, doc, pm, an, cdv, ct, osl, rfl, _⟩ := F.ex
  exact .of_eq (b kV doc pm an cdv ct (self :: us) (by rw [List.length_cons, List.length_cons, lu]))
/-- the call, by names -/
theorem xcallK {pins : List (Addr × Obj)} {s : Shared} {σ : L2.St} {H : Hp} {R : VK} {t : TA} {gv : List Value → List Value} {gV : List V → List V} (Z : Xc X.prog X.w X.K X.mg X.base x q st C fns) (b : BdIK q st (("self" : Str) :: fns) ks gv) (hr : Room 2 X.A) (hg : Gl X x)
    (hV : ∀ (zs : List V) (ws : List Value), Vals zs ws → zs.length = ks.length → Vals (gV zs) (gv ws)) (hkw : PK X kws t) (I : Inv X pins σ H s)
    (h : t σ H fun vs H1 => vs.length = ks.length ∧ (gV vs).length = fns.length ∧ ∀ v H2, XNew C fns (gV vs) H1 v H2 → R v H2)
    (hall : (backToKw pos (keywordEach kws X.env)).all (·.1.isSome) = true := by rfl) (hks : (backToKw pos (keywordEach kws X.env)).filterMap (·.1) = ks := by rfl)
    (hdb : (x == ("__debug__" : Str)) = false := by decide) (hpl : (backToKw pos (keywordEach kws X.env)).any (·.1.isNone) = false := by rfl) :
    wpAny (model X.prog X.w) X.A (eval (.Call (.Name x p) [] kws pos) X.env) (EP X pins σ R) X.xe s := by
  obtain ⟨fI, fd, T, F⟩ := Z.ex
  refine wpAny_Call_Name_kw (ld_glob I hg Z.mg ?_ hdb)
  refine PySem.W.callWith_KW0 I.kIn T.cls.kC hall (thn (hkw.run pos pins s σ H _ I h) fun us s1 ⟨vs, H1, I1, r, hl, hl2, k⟩ => ⟨I1.kIn, ?_⟩) hpl
  rw [hks]
  have lu : us.length = ks.length := r.length.symm.trans hl
  refine wpAny_mono (run_x T hr I1 (hV _ _ r hl) hl2 (Nat.zero_le _) fun s self hk => ?_) (fun u s2 ⟨v, H2, I2, rv, n⟩ => ⟨v, H2, I2, rv, k v H2 n⟩) fun _ _ z => z
  obtain ⟨oc, od, kV, doc, pm, an, cdv, ct, osl, rfl, _⟩ := F.ex
  exact .of_eq (b kV doc pm an cdv ct self us lu)
/-- its field -/
theorem xfield {pins : List (Addr × Obj)} {s : Shared} {σ : L2.St} {H H' : Hp} {ws : List V} {v y : V} {u : Value} {i : Nat} {R : VK} {expr : Bool} (T : XCls X.K C) (hno : PySem.W.findIn X.K (.ref C) f = some none) (hnd : fns.Nodup) (hl : ws.length = fns.length) (h1 : fns[i]? = some f) (h2 : ws[i]? = some y)
    (I : Inv X pins σ H' s) (rv : RelV v u) (n : XNew C fns ws H v H') (k : R y H') : wpAny (model X.prog X.w) X.A (getAttr u f expr) (EP X pins σ R) X.xe s := by
  obtain ⟨a, d, rfl, na, nd, ne, ea, ed, o⟩ := n
  obtain rfl : u = Value.ref a := rv
  obtain ⟨t1, ho⟩ := exo_at I.hok ea
  obtain ⟨mA, hns, hr⟩ := exd_at I.hok ed
  obtain ⟨od, hod, hlk⟩ := lookIn_ns hns
  obtain ⟨z, hz, rz⟩ := RelO.some_of (v := y) (o := mA f) (by rw [← lookup_zip hnd hl h1 h2]; exact hr f)
  obtain ⟨cd, B, bmB, hcl, hdd, _, _⟩ := T.data
  have hdC : PySem.W.hasDictIn X.K C = true := by
    unfold PySem.W.hasDictIn
    rw [hcl]
    exact hdd
  have J : PySem.W.InstAt s.heap a { cls := .ref C, dict := some d, data := .fields #[.ref t1, .none, .none, .none, .bool false, .none] } C (some od) := ⟨ho, rfl, rfl, hod⟩
  exact HandSPX.exc_get I.kIn J T.ga T.gg T.exC (PySem.W.findObj_own hdC hno rfl (by rw [hlk, hz])) (handed_of rz) ⟨y, H', I.tok _, rz, k⟩
end
end Mi

namespace Mi
open L2 PySem PySem.Spec PyProof.Rows
section
variable {X : Cx} {W : WX} {cls ts : List Addr} {x q f : Str} {st : Stmt} {C : Addr} {fns ks : List Str} {p pos pos2 : Pos} {e : Expr} {es : List Expr} {kws : List Keyword} {A : AF}
theorem e_xmk (Z : Xc X.prog X.w X.K X.mg X.base x q st C fns) (b : BdI q st (("self" : Str) :: fns)) (hn : fns.length ≤ 900) (hr : Room 2 X.A) (hg : Gl X x) (ha : A' X cls ts W (e :: es) A)
    (hdb : (x == ("__debug__" : Str)) = false := by decide) (he : starEach (e :: es) X.env = (false, eval e X.env) :: starEach es X.env := by rfl) (hpl : (backTo pos (starEach es X.env)).any (·.1) = false := by rfl) :
    E' X cls ts W (.Call (.Name x p) (e :: es) [] pos) (cMk C fns.length A) := by
  refine ⟨fun pins s σ H Q I ⟨ρ, ε, h, hH, hE, q⟩ => ?_⟩
  have q1 : tA X.K cls ts W A σ H fun vs H1 => vs.length = fns.length ∧ ∃ ρ h, RH X.K cls ts ρ H1 h ∧ Post X.K cls ts (relD X.K) (fun c dd H' => W c dd σ H') ρ H1 (.ok (.xo C) h) Q := tG_bind hH hE q fun ρ1 H1 vs h1 ds _ e1 hH1 rv hE1 p1 => by
    by_cases c : ds.length = fns.length
    · rw [if_pos c] at p1
      exact ⟨by rw [rv.length]; exact c, ρ1, h1, hH1, p1⟩
    · rw [if_neg c] at p1
      exact p1.elim
  refine wpAny_mono (xcall (R := fun v H2 => ∃ H1 vs ρ h, XNew C fns vs H1 v H2 ∧ RH X.K cls ts ρ H1 h ∧ Post X.K cls ts (relD X.K) (fun c dd H' => W c dd σ H') ρ H1 (.ok (.xo C) h) Q) Z b hn hr hg ha I (tG_imp q1 fun vs H1 ⟨hl, ρ1, h1, hH1, p1⟩ => ⟨hl, fun v H2 n => ⟨H1, vs, ρ1, h1, n, hH1, p1⟩⟩) hdb he hpl) ?_ fun _ _ z => z
  rintro u s1 ⟨v, H2, I2, rv, H1, vs, ρ1, h1, n, hH1, p1⟩
  obtain ⟨H3, I3, e3, r3, rx⟩ := xnew_xo I2 n hH1
  exact ⟨v, H3, I3, rv, p1 ρ1 H3 v e3 r3 rx⟩
theorem e_xmkF {i : Nat} (Z : Xc X.prog X.w X.K X.mg X.base x q st C fns) (b : BdI q st (("self" : Str) :: fns)) (hn : fns.length ≤ 900) (hnd : fns.Nodup) (hi : fns[i]? = some f) (hr : Room 2 X.A) (hg : Gl X x) (ha : A' X cls ts W (e :: es) A)
    (hab : attributeBase (.Call (.Name x p) (e :: es) [] pos) f X.env (eval (.Call (.Name x p) (e :: es) [] pos) X.env) = eval (.Call (.Name x p) (e :: es) [] pos) X.env := by rfl)
    (hdb : (x == ("__debug__" : Str)) = false := by decide) (he : starEach (e :: es) X.env = (false, eval e X.env) :: starEach es X.env := by rfl) (hpl : (backTo pos (starEach es X.env)).any (·.1) = false := by rfl) :
    E' X cls ts W (.Attribute (.Call (.Name x p) (e :: es) [] pos) f pos2) (cMkF fns.length i (fun z => z) A) := by
  refine ⟨fun pins s σ H Q I ⟨ρ, ε, h, hH, hE, q⟩ => ?_⟩
  have q1 : tA X.K cls ts W A σ H fun vs H1 => vs.length = fns.length ∧ ∃ ρ h y d, vs[i]? = some y ∧ RH X.K cls ts ρ H1 h ∧ RV X.K ρ H1 y d ∧ Post X.K cls ts (relD X.K) (fun c dd H' => W c dd σ H') ρ H1 (.ok d h) Q := tG_bind hH hE q fun ρ1 H1 vs h1 ds _ e1 hH1 rv hE1 p1 => by
    dsimp only at p1
    by_cases c : ds.length = fns.length
    · rw [if_pos c] at p1
      cases z : ds[i]? with
      | none => rw [z] at p1; exact p1.elim
      | some d =>
        rw [z] at p1
        obtain ⟨y, hy, ry⟩ := rv.get z
        exact ⟨by rw [rv.length]; exact c, ρ1, h1, y, d, hy, hH1, ry, p1⟩
    · rw [if_neg c] at p1
      exact p1.elim
  obtain ⟨fI, fd, T, F⟩ := Z.ex
  refine attr_of hab (wpAny_mono (xcall (R := fun v H2 => ∃ H1 vs ρ h y d, vs.length = fns.length ∧ XNew C fns vs H1 v H2 ∧ vs[i]? = some y ∧ RH X.K cls ts ρ H1 h ∧ RV X.K ρ H1 y d ∧ Post X.K cls ts (relD X.K) (fun c dd H' => W c dd σ H') ρ H1 (.ok d h) Q) Z b hn hr hg ha I (tG_imp q1 fun vs H1 ⟨hl, ρ1, h1, y, d, hy, hH1, ry, p1⟩ => ⟨hl, fun v H2 n => ⟨H1, vs, ρ1, h1, y, d, hl, n, hy, hH1, ry, p1⟩⟩) hdb he hpl) ?_ fun _ _ z => z)
  rintro u s1 ⟨v, H2, I2, rv, H1, vs, ρ1, h1, y, d, hl, n, hy, hH1, ry, p1⟩
  obtain ⟨a, dd, _, na, nd, _, _, _, o⟩ := id n
  obtain ⟨e3, r3⟩ := ext_two na nd o hH1
  exact xfield T.cls (Z.nf f (List.mem_of_getElem? hi)) hnd hl hi hy I2 rv n (p1 ρ1 H2 y e3 r3 (ry.mono e3))
theorem e_xmkFK {i : Nat} {gv : List Value → List Value} {gV : List V → List V} {gD : List D → List D} (Z : Xc X.prog X.w X.K X.mg X.base x q st C fns) (b : BdIK q st (("self" : Str) :: fns) ks gv) (hnd : fns.Nodup) (hi : fns[i]? = some f) (hr : Room 2 X.A) (hg : Gl X x)
    (hV : ∀ (zs : List V) (ws : List Value), Vals zs ws → zs.length = ks.length → Vals (gV zs) (gv ws)) (hgD : ∀ (ρ : List Addr) (H : Hp) (zs : List V) (es : List D), RVs X.K ρ H zs es → zs.length = ks.length → RVs X.K ρ H (gV zs) (gD es))
    (hkw : PK X kws (tA X.K cls ts W A)) (hA : ALen A ks.length)
    (hab : attributeBase (.Call (.Name x p) [] kws pos) f X.env (eval (.Call (.Name x p) [] kws pos) X.env) = eval (.Call (.Name x p) [] kws pos) X.env := by rfl)
    (hall : (backToKw pos (keywordEach kws X.env)).all (·.1.isSome) = true := by rfl) (hks : (backToKw pos (keywordEach kws X.env)).filterMap (·.1) = ks := by rfl)
    (hdb : (x == ("__debug__" : Str)) = false := by decide) (hpl : (backToKw pos (keywordEach kws X.env)).any (·.1.isNone) = false := by rfl) :
    E' X cls ts W (.Attribute (.Call (.Name x p) [] kws pos) f pos2) (cMkF fns.length i gD A) := by
  refine ⟨fun pins s σ H Q I ⟨ρ, ε, h, hH, hE, q⟩ => ?_⟩
  have q1 : tA X.K cls ts W A σ H fun vs H1 => vs.length = ks.length ∧ (gV vs).length = fns.length ∧ ∃ ρ h y d, (gV vs)[i]? = some y ∧ RH X.K cls ts ρ H1 h ∧ RV X.K ρ H1 y d ∧ Post X.K cls ts (relD X.K) (fun c dd H' => W c dd σ H') ρ H1 (.ok d h) Q := tG_bind hH hE q fun ρ1 H1 vs h1 ds ee e1 hH1 rv hE1 p1 => by
    have hl : vs.length = ks.length := by rw [rv.length]; exact hA _ _ _ _ ee
    have rg := hgD _ _ _ _ rv hl
    by_cases c : (gD ds).length = fns.length
    · rw [if_pos c] at p1
      cases z : (gD ds)[i]? with
      | none => rw [z] at p1; exact p1.elim
      | some d =>
        rw [z] at p1
        obtain ⟨y, hy, ry⟩ := rg.get z
        exact ⟨hl, by rw [rg.length]; exact c, ρ1, h1, y, d, hy, hH1, ry, p1⟩
    · rw [if_neg c] at p1
      exact p1.elim
  obtain ⟨fI, fd, T, F⟩ := Z.ex
  refine attr_of hab (wpAny_mono (xcallK (R := fun v H2 => ∃ H1 vs ρ h y d, vs.length = fns.length ∧ XNew C fns vs H1 v H2 ∧ vs[i]? = some y ∧ RH X.K cls ts ρ H1 h ∧ RV X.K ρ H1 y d ∧ Post X.K cls ts (relD X.K) (fun c dd H' => W c dd σ H') ρ H1 (.ok d h) Q) Z b hr hg hV hkw I (tG_imp q1 fun vs H1 ⟨hl, hl2, ρ1, h1, y, d, hy, hH1, ry, p1⟩ => ⟨hl, hl2, fun v H2 n => ⟨H1, gV vs, ρ1, h1, y, d, hl2, n, hy, hH1, ry, p1⟩⟩) hall hks hdb hpl) ?_ fun _ _ z => z)
  rintro u s1 ⟨v, H2, I2, rv, H1, vs, ρ1, h1, y, d, hl, n, hy, hH1, ry, p1⟩
  obtain ⟨a, dd, _, na, nd, _, _, _, o⟩ := id n
  obtain ⟨e3, r3⟩ := ext_two na nd o hH1
  exact xfield T.cls (Z.nf f (List.mem_of_getElem? hi)) hnd hl hi hy I2 rv n (p1 ρ1 H2 y e3 r3 (ry.mono e3))
/-- C(), no own __init__ -/
def cMk0 (C : Addr) : EF := fun _ h => .ok (.xo C) h
structure Xc0 (K : PySem.W.Frag) (mg : Str → Option Value) (x : Str) (C : Addr) : Prop where
  ex : ∃ B newId initId bmB, ExcBaseFacts B newId initId bmB ∧ PySem.W.excIn K C bmB newId = true
  mg : mg x = some (.ref C)
  kC : PySem.W.keepIn K (.ref C) = true
theorem e_xmk0 (Z : Xc0 X.K X.mg x C) (hg : Gl X x) (hdb : (x == ("__debug__" : Str)) = false := by decide) : E' X cls ts W (.Call (.Name x p) [] [] pos) (cMk0 C) := by
  refine ⟨fun pins s σ H Q I ⟨ρ, ε, h, hH, hE, q⟩ => ?_⟩
  obtain ⟨B, newId, initId, bmB, F, qq⟩ := Z.ex
  refine wpAny_Call_Name_kw (ld_glob I hg Z.mg ?_ hdb)
  refine PySem.W.callWith_K0 I.kIn Z.kC ?_
  obtain ⟨bm, N, nm, qn, bs, hdct, sn, sub, ab, col, dd, k0, k1, k2, k3, k5, mN, hC, hN, hni, T⟩ := exc_obj I.kIn qq
  refine wpAny_call_exc_subT F T hC hN hni (fun h' a hm => ?_) (Nat.zero_le _)
  have hn : H a = none := I.hok.gone hm.new
  obtain ⟨t, ht, _, _⟩ := hm.there
  have J := I.laidN (t' := s.toks) (o := .frz _ (.own a)) hm.keeps hm.new hn (frz_ok ht)
  exact ⟨.ref a, _, J, rfl, q ρ _ _ (ext_other hn) (hH.other hn) (.xo ⟨_, _, upd_same, rfl, ⟨_, rfl⟩, .inl rfl⟩)⟩
end
end Mi

namespace Mi
open L2 PySem PySem.Spec PyProof.Rows
/-! ### isinstance of an exception -/
/-- what the table of classes tells is so -/
def XSub (K : PySem.W.Frag) (sub : Addr → D → Option Bool) : Prop := ∀ E c b, sub E c = some b → ExcC K E ∧ (PySem.W.clsIn K E).isSome = true ∧ ∃ cv, ((∃ C, c = .own C ∧ cv = .ref C) ∨ ∃ n, c = .ty n ∧ cv = .type n) ∧ PySem.W.kitOne K (.ref E) cv = some b
def fIsiX (sub : Addr → D → Option Bool) : OpN
  | [.xo E, c], h => match sub E c with
    | some b => .ok (.bl b) h
    | none => .stuck
  | _, _ => .stuck
def rIsX (K : PySem.W.Frag) : List V → Hp → VK → Prop := fun xs H Q => ∃ (a E : Addr) (c : V) (cv : Value) (b : Bool), xs = [.ref a, c] ∧ XoR H a E ∧ ExcC K E ∧ (PySem.W.clsIn K E).isSome = true ∧ (∀ u, RelV c u → u = cv) ∧ PySem.W.kitOne K (.ref E) cv = some b ∧ Q (.bl b) H
theorem xo_inst {X : Cx} {pins : List (Addr × Obj)} {σ : L2.St} {H : Hp} {s : Shared} {a E : Addr} (I : Inv X pins σ H s) (x : XoR H a E) : ∃ ox od, PySem.W.InstAt s.heap a ox E od := by
  obtain ⟨o, u, h1, h2, ⟨vs, h3⟩, h4⟩ := x
  have e1 := (I.hok _ _ h1).1
  rcases h4 with h4 | ⟨dx, od, ud, h4, h5⟩
  · exact ⟨o, none, e1, h2, by unfold PySem.W.notCls; rw [h3] <;> rfl, by rw [h4]; trivial⟩
  · exact ⟨o, some od, e1, h2, by unfold PySem.W.notCls; rw [h3] <;> rfl, by rw [h4]; exact (I.hok _ _ h5).1⟩
theorem call_isX {X : Cx} : CallR X (.builtin "isinstance") (rIsX X.K) := by
  intro pins s σ H xs us Q I r h
  obtain ⟨a, E, c, cv, b, rfl, x, C, hcl, hcv, e, q⟩ := h
  cases r with
  | cons rx rr =>
    cases rr with
    | cons rt rr =>
      cases rr
      cases rx
      have ec := hcv _ rt
      subst ec
      obtain ⟨ox, od, J⟩ := xo_inst I x
      exact PySem.W.kia_one (PySem.W.kitx_exc hcl C.hg C.hk C.hs C.ha C.hn C.ht C.hm) I.kIn J e (fun z => nomatch z) fun tk => ⟨.bl b, H, I.kept (t' := tk) fun _ _ z => z, rfl, q⟩
theorem isx_ok {K : PySem.W.Frag} {cls ts : List Addr} {sub : Addr → D → Option Bool} (hS : XSub K sub) : CallS K cls ts (rIsX K) (fIsiX sub) := by
  intro W ρ H h xs ds Q r rs p
  unfold fIsiX at p
  split at p <;> first | exact p.elim | skip
  obtain ⟨v, w, rfl, rv, rw'⟩ := rs.two
  split at p <;> first | exact p.elim | skip
  rename_i E c _ b e1
  obtain ⟨C, hcl, cv, hc, e⟩ := hS _ _ _ e1
  cases rv with
  | xo x =>
    refine ⟨_, E, w, cv, b, rfl, x, C, hcl, fun u ru => ?_, e, post_val r (.bl _) p⟩
    rcases hc with ⟨C', rfl, rfl⟩ | ⟨n, rfl, rfl⟩
    · cases rw'; exact ru
    · cases rw'; exact ru
/-! ### raise C(e, ..) -/
section
variable {X : Cx} {x q : Str} {st : Stmt} {C : Addr} {fns : List Str} {p pos : Pos} {e : Expr} {es : List Expr} {ta : TA}
theorem pmk_x (Z : Xc X.prog X.w X.K X.mg X.base x q st C fns) (b : BdI q st (("self" : Str) :: fns)) (hn : fns.length ≤ 900) (hr : Room 2 X.A) (hg : Gl X x) (ha : PA X (e :: es) ta)
    (hdb : (x == ("__debug__" : Str)) = false := by decide) (he : starEach (e :: es) X.env = (false, eval e X.env) :: starEach es X.env := by rfl) (hpl : (backTo pos (starEach es X.env)).any (·.1) = false := by rfl) :
    PMk X (.Call (.Name x p) (e :: es) [] pos) (fun σ H Q => ta σ H fun vs H1 => vs.length = fns.length ∧ ∀ d, H1 d = none → Q (.ref C) (some d) (upd H1 d (.xd (fns.zip vs).reverse))) := by
  intro pins s σ H Q I h
  obtain ⟨fI, fd, T, F⟩ := Z.ex
  obtain ⟨N, newId, B, bmB, nm, qn, D, bs, bm, sn, sub, ab, col, dd, k0, k1, k2, k3, k5, hC, Zb, _⟩ := T.cls.cls
  refine wpAny_Call_Name_kw (ld_glob I hg Z.mg ?_ hdb)
  refine PySem.W.callWith_K (h₀ := X.base) I.ok.mod.kin T.cls.kC (thn (ha.run pos pins s σ H _ I h) fun us s1 ⟨vs, H1, I1, r, hl, q1⟩ => ⟨I1.kIn, ?_⟩) he hpl
  show wpAny _ _ (call (.ref C) us) _ _ _
  have lu : us.length = fns.length := r.length.symm.trans hl
  obtain ⟨hp, g, dr, tk, os⟩ := s1
  have hsz : hp.objs.size ≤ hp.objs.size + 1 := Nat.le_succ _
  have hn0 : H1 (hp.objs.size + 1) = none := I1.hok.fresh hsz
  have kk : ∀ b o, hp.get? b = some o → ((hp.push (PySem.W.kdv_tup us)).push (PySem.HandSPX.excO C hp.objs.size)).get? b = some o := fun b o e => Heap.get?_push_of_some _ (Heap.get?_push_of_some _ e)
  have hget : ((hp.push (PySem.W.kdv_tup us)).push (PySem.HandSPX.excO C hp.objs.size)).get? (hp.objs.size + 1) = some (PySem.HandSPX.excO C hp.objs.size) := by heap_get
  have I2 : Inv X pins σ (upd H1 (hp.objs.size + 1) (exo (hp.objs.size + 1) C none)) ⟨(hp.push (PySem.W.kdv_tup us)).push (PySem.HandSPX.excO C hp.objs.size), g, dr, tk, os⟩ :=
    I1.laid (t' := tk) (a := hp.objs.size + 1) (o := exo (hp.objs.size + 1) C none) (h' := (hp.push (PySem.W.kdv_tup us)).push (PySem.HandSPX.excO C hp.objs.size)) kk hsz (exo_ok hget)
  have hq : spX C fns (.ref (hp.objs.size + 1) :: vs) (upd H1 (hp.objs.size + 1) (exo (hp.objs.size + 1) C none)) (fun v H2 => v = .non ∧ XNew C fns vs H1 (.ref (hp.objs.size + 1)) H2) (fun _ _ _ => False) := by
    refine ⟨_, vs, rfl, hl, upd_same, fun d H' nd ne ha hd ho => ⟨rfl, _, d, rfl, hn0, ?_, ne, ha, hd, fun b h1 h2 => ?_⟩⟩
    · rw [upd_ne ne] at nd; exact nd
    · rw [ho b h1 h2, upd_ne h1]
  have r2 : Vals (V.ref (hp.objs.size + 1) :: vs) (Value.ref (hp.objs.size + 1) :: us) := .cons rfl r
  have hb : BindsTo ⟨(hp.push (PySem.W.kdv_tup us)).push (PySem.HandSPX.excO C hp.objs.size), g, dr, tk, os⟩ fd ⟨Value.ref (hp.objs.size + 1) :: us, []⟩ ((("self" : Str) :: fns).zip (Value.ref (hp.objs.size + 1) :: us)) := by
    obtain ⟨oc, od, kV, doc, pm, an, cdv, ct, osl, rfl, _⟩ := F.ex
    exact .of_eq (b kV doc pm an cdv ct (Value.ref (hp.objs.size + 1) :: us) (by rw [List.length_cons, List.length_cons, lu]))
  refine wpAny_call (PySem.BehX.call Zb (I1.kIn _ _ hC) (PySem.W.looks_findIn I1.kIn T.iC) (fun self => PySem.W.bind_fn I1.kIn self T.tI) (by rw [sizeLine_eq]; omega)
    (codeAny_mono (T.fn.run _ X.stack _ _ ⟨Value.ref (hp.objs.size + 1) :: us, []⟩ (Value.ref (hp.objs.size + 1) :: us) _ _ (fun _ _ _ => False) (hr.make C us []) (I2.env0.make C us []) hb r2 hq) fun r s' hq' => ?_))
  cases r with
  | error er => exact hq'.elim
  | ok fl =>
    cases fl with
    | ret u =>
      obtain ⟨v, H2, os2, bare2, un2, hok2, rv, ev, a, d, ea0, na, nd, ne, ea, ed, o⟩ := hq'
      cases ea0
      subst ev
      obtain ⟨h2, g2, d2, t2, os'⟩ := s'
      have eH : upd (del H2 (hp.objs.size + 1)) d (.xd (fns.zip vs).reverse) = upd H1 d (.xd (fns.zip vs).reverse) := by
        funext c
        by_cases h1 : c = d
        · rw [h1, upd_same, upd_same]
        · rw [upd_ne h1, upd_ne h1]
          by_cases h3 : c = hp.objs.size + 1
          · rw [h3, del_same, hn0]
          · rw [del_ne h3, o c h3 h1]
      exact ⟨rv, mk_end (raises_own T.cls.exC T.cls.tyC) I1 hsz kk un2 hok2 os2 bare2 ea ed nd (by rw [eH]; exact q1 d nd)⟩
    | next => exact False.elim hq'
    | brk => exact False.elim hq'
    | cont => exact False.elim hq'
end
end Mi

namespace Mi
open L2 PySem PySem.Spec PyProof.Rows
/-! ### try: raise C(e, ..) except D as n: found.append(..) -/
def sTryX (n : Nat) (A : AF) (i k : Nat) (g : List D → D) : SF := fun ε h => (A ε h).st ε fun ds h1 => if ds.length = n ∧ i ≠ k then match ε[k]? with
    | some (some (.ref r)) => match h1[r]? with
      | some (.lst xs) => if xs.length < sizeLine then .nx (ε.set i none) (h1.set r (.lst (xs ++ [g ds]))) else .stuck
      | _ => .stuck
    | _ => .stuck
  else .stuck
theorem RE.gone {K : PySem.W.Frag} {ρ : List Addr} {H : Hp} {σ : L2.St} {ε : AEnv} (h : RE K ρ H σ ε) (i : Nat) (x : Option V) : RE K ρ H (σ.set i x) (ε.set i none) := by
  refine ⟨by rw [List.length_set, List.length_set]; exact h.1, fun j d q => ?_⟩
  by_cases hj : i = j
  · subst hj
    by_cases hl : i < ε.length
    · rw [List.getElem?_set_self hl] at q; cases q
    · rw [List.getElem?_eq_none (by rw [List.length_set]; omega)] at q; cases q
  · rw [List.getElem?_set_ne hj] at q ⊢
    exact h.2 j d q
section
variable {X : Cx} {W : WX} {cls ts : List Addr} {x y q nm : Str} {st : Stmt} {C : Addr} {c : Value} {fns : List Str} {p np pos pos1 pos2 pos' : Pos} {e : Expr} {es : List Expr} {A : AF} {b₀ : Stmt} {i k : Nat} {g : List D → D} {tsu : Addr → Value → Option Addr → TS} {GV : List V → Hp → V → Hp → Prop}
theorem s_tryX (hs : X.stack = X.env :: X.outer) (hf : X.env.frame = some X.env.locals) (hcm : X.calm = true) (hN : X.N.Nodup) (hi : X.N[i]? = some nm) (hln : X.env.kindOf nm = some .local) (hc : Names X y c) (hex : PySem.W.exmOne X.K (.ref C) c = some true)
    (Z : Xc X.prog X.w X.K X.mg X.base x q st C fns) (b : BdI q st (("self" : Str) :: fns)) (hn : fns.length ≤ 900) (hr : Room 2 X.A) (hg : Gl X x)
    (ha : ∀ (pn : List (Addr × Obj)) (xe : Value → Shared → Prop), A' (X.tr pn xe) cls ts W (e :: es) A)
    (hsu : ∀ (a : Addr) (oe : Obj) (cls' : Value) (d : Option Addr) (pn : List (Addr × Obj)), Zc cls' d oe → (∃ vs, oe.data = .fields vs) → PSs (X.suite a ((a, oe) :: pn)) [b₀] (tsu a cls' d))
    (hT : ∀ (a dd l : Addr) (σ : L2.St) (H : Hp) (D : Ends) (vs us : List V), σ[i]? = some (some (.ref a)) → σ[k]? = some (some (.ref l)) → H l = some (.lst us) → us.length < sizeLine → H dd = some (.xd (fns.zip vs).reverse) → vs.length = fns.length →
      (∀ v H', GV vs H v H' → H' l = some (.lst us) ∧ D.nx σ (upd H' l (.lst (us ++ [v])))) → tsu a (.ref C) (some dd) D σ H)
    (hR : ∀ (ρ : List Addr) (H : Hp) (h : AH) (vs : List V) (ds : List D) (v : V) (H' : Hp), RH X.K cls ts ρ H h → RVs X.K ρ H vs ds → vs.length = fns.length → GV vs H v H' → RV X.K ρ H' v (g ds) ∧ Ext ts ρ ρ H H' ∧ RH X.K cls ts ρ H' h ∧ ∀ b o, H b = some o → H' b = some o)
    (hdb : (x == ("__debug__" : Str)) = false := by decide) (he : starEach (e :: es) X.env = (false, eval e X.env) :: starEach es X.env := by rfl) (hpl : (backTo pos1 (starEach es X.env)).any (·.1) = false := by rfl) :
    S' X cls ts W (.Try [.Raise (some (.Call (.Name x p) (e :: es) [] pos1)) none pos2] [.ExceptHandler (some (.Name y np)) (some nm) [b₀] pos'] [] [] pos) (sTryX fns.length A i k g) := by
  refine ⟨fun pins s σ H D I ⟨ρ, ε, h, hH, hE, p0⟩ => ?_⟩
  refine (ps_try_as (X := X) (tb := fun W' _ σ H => tA X.K cls ts W A σ H fun vs H1 => vs.length = fns.length ∧ ∀ d, H1 d = none → W' (.ref C) (some d) σ (upd H1 d (.xd (fns.zip vs).reverse))) (ts := tsu) (Wout := fun _ _ _ _ => False) hs hf hN hi hln hc L2.takes0
    (fun W' pn xe tk _ => pss_one (ps_raise (X := X.tr pn xe) (by exact hcm) tk (pmk_x (X := X.tr pn xe) Z b hn hr hg (ha pn xe) hdb he hpl))) hsu).run pins s σ H D I ?_
  refine tS_bind hH hE p0 fun ρ1 H1 vs h1 ds _ e1 hH1 rv hE1 p1 => ?_
  by_cases c1 : ds.length = fns.length ∧ i ≠ k
  · rw [if_pos c1] at p1
    have lv : vs.length = fns.length := by rw [rv.length]; exact c1.1
    refine ⟨lv, fun d nd => ⟨true, hex, fun _ a na => ?_, fun z => nomatch z⟩⟩
    split at p1 <;> first | exact p1.elim | skip
    rename_i r er
    split at p1 <;> first | exact p1.elim | skip
    rename_i xs ex
    split at p1 <;> first | exact p1.elim | skip
    rename_i c2
    obtain ⟨vl, hvl, rvl⟩ := hE1.2 k _ er
    cases rvl with
    | @ref l _ ql =>
      obtain ⟨us, hl, ru⟩ := hH1.lst ql ex
      have lne : l ≠ d := ne_of_none hl nd
      have e2 := ext_other (ts := ts) (ρ := ρ1) (u := .xd (fns.zip vs).reverse) nd
      have hH2 : RH X.K cls ts ρ1 (upd H1 d (.xd (fns.zip vs).reverse)) h1 := hH1.other nd
      refine hT a d l _ _ _ vs us (List.getElem?_set_self ?_) (by rw [List.getElem?_set_ne c1.2]; exact hvl) (by rw [upd_ne lne]; exact hl) (by rw [ru.length]; exact c2) upd_same lv fun v H' gv => ?_
      · have hil : i < X.N.length := (List.getElem?_eq_some_iff.mp hi).1
        rw [← hE1.1]
        have := I.len
        have l2 := hE.1
        have l3 := hE1.1
        omega
      · obtain ⟨rg, e3, hH3, kp⟩ := hR ρ1 _ h1 vs ds v H' hH2 (rv.mono e2) lv gv
        have hl3 : H' l = some (.lst us) := kp l _ (by rw [upd_ne lne]; exact hl)
        refine ⟨hl3, ?_⟩
        have e4 := ext_put (u := .lst (us ++ [v])) (List.mem_of_getElem? ql) hH3
        have r4 := hH3.put (u := .lst (us ++ [v])) (o := .lst (xs ++ [g ds])) ql ⟨us ++ [v], upd_same, (((ru.mono e2).mono e3).mono e4).append (.cons (rg.mono e4) .nil)⟩
        have ee := (e2.trans e3).trans e4
        have hE4 := ((hE1.mono ee).gone i (some (.ref a)))
        refine p1 ρ1 _ _ ee r4 ?_
        have hh : ((σ.set i (some (.ref a))).set i none) = σ.set i none := by rw [List.set_set]
        show RE X.K ρ1 _ ((σ.set i (some (.ref a))).set i none) (ε.set i none)
        rw [hh]
        exact (hE1.mono ee).gone i none
  · rw [if_neg c1] at p1
    exact p1.elim
end
end Mi

namespace Mi
open L2 PySem PySem.Spec PyProof.Rows
/-! ### enumerate(a list) -/
def iEnu (F : EF) : IF := fun ε h => (F ε h).bind fun d h1 => match d with
  | .ref n => match h1[n]? with
    | some (.lst xs) => .ok (.enu n xs.length) h1
    | _ => .stuck
  | _ => .stuck
theorem rit_enu {K : PySem.W.Frag} {cls ts ρ : List Addr} {H : Hp} {a : Addr} {n len : Nat} (q1 : ρ[n]? = some a) : RIt K cls ts ρ H (Ite K a) (.enu n len) := by
  refine ⟨fun ρ' H' h' i d e r hi q => ?_, fun ρ' H' h' e r q => ?_⟩
  · simp only [AIt.item] at q
    split at q <;> first | (cases q; done) | skip
    rename_i xs e1
    split at q <;> first | (cases q; done) | skip
    obtain ⟨x, hx, rfl⟩ := Option.map_eq_some_iff.mp q
    obtain ⟨us, k1, r1⟩ := r.lst (e.get q1) e1
    obtain ⟨v, hv, rv⟩ := r1.get hx
    refine ⟨⟨us, v, SqL.of k1, hv⟩, fun y H'' z => ?_⟩
    obtain ⟨T, w, rfl, nT, rfl, k⟩ := z
    have z := k us (SqL.of k1)
    rw [hv] at z
    cases z
    have e2 := ext_other (ts := ts) (ρ := ρ') (u := .tup [.int (i : Nat), v]) nT
    exact ⟨e2, r.other nT, .tup (SqT.of upd_same) (.cons (.int _) (.cons (rv.mono e2) .nil))⟩
  · simp only [AIt.fin] at q
    split at q <;> first | (cases q; done) | skip
    rename_i xs e1
    obtain ⟨us, k1, r1⟩ := r.lst (e.get q1) e1
    refine ⟨us, SqL.of k1, ?_⟩
    rw [r1.length, of_decide_eq_true q]
    exact Nat.le_refl _
section
variable {X : Cx} {W : WX} {cls ts : List Addr} {e : Expr} {F : EF} {p pos tpos : Pos} {elts : List Expr} {kk : Nat}
theorem i_enu (hg : Gl X "enumerate") (hm : X.mg "enumerate" = none) (ha : E' X cls ts W e F) (hs : starEach [e] X.env = [(false, eval e X.env)] := by rfl) : I' X cls ts W (.Tuple elts kk tpos) (.Call (.Name "enumerate" p) [e] [] pos) (iEnu F) := by
  have hs' : starEach [e] X.env = (false, eval e X.env) :: starEach [] X.env := hs
  refine ⟨fun pins s σ H R I ⟨ρ, ε, h, hH, hE, q⟩ => (pi_enum hg hm (pa_cons ha pa_nil hs') hs).run pins s σ H R I (tG_bind hH hE q fun ρ1 H1 x h1 dx _ e1 hH1 rx hE1 p1 => ?_)⟩
  cases rx with
  | @ref a n ql =>
    simp only at p1
    split at p1 <;> first | exact p1.elim | skip
    rename_i xs ex
    obtain ⟨us, hl, ru⟩ := hH1.lst ql ex
    exact ⟨a, us, rfl, SqL.of hl, p1 ρ1 H1 _ .refl hH1 (rit_enu ql)⟩
  | _ => exact p1.elim
end
end Mi

namespace Mi
open L2 PySem PySem.Spec PyProof.Rows
/-! ### what an except suite asks of the caught one -/
def rIsS (K : PySem.W.Frag) (a : Addr) (cls : Value) (d : Option Addr) : List V → Hp → VK → Prop := fun xs H Q => ∃ (E : Addr) (c : V) (cv : Value) (b : Bool) (dd : Addr) (fs : List (Str × V)), xs = [.ref a, c] ∧ cls = .ref E ∧ d = some dd ∧ H dd = some (.xd fs) ∧ ExcC K E ∧ (PySem.W.clsIn K E).isSome = true ∧ (∀ u, RelV c u → u = cv) ∧ PySem.W.kitOne K (.ref E) cv = some b ∧ Q (.bl b) H
theorem call_isS {X : Cx} {a : Addr} {oe : Obj} {pn : List (Addr × Obj)} {cls : Value} {d : Option Addr} (hz : Zc cls d oe) (hf : ∃ vs, oe.data = .fields vs) : CallR (X.suite a ((a, oe) :: pn)) (.builtin "isinstance") (rIsS X.K a cls d) := by
  intro pins s σ H xs us Q I r h
  obtain ⟨E, c, cv, b, dd, fs, rfl, rfl, rfl, hd, C, hcl, hcv, e, q⟩ := h
  cases r with
  | cons rx rr =>
    cases rr with
    | cons rt rr =>
      cases rr
      cases rx
      have ec := hcv _ rt
      subst ec
      obtain ⟨hget, _⟩ := I.pin (a, oe) (List.mem_append_left _ List.mem_cons_self)
      obtain ⟨vs, hv⟩ := hf
      have hx : ObjOk X.prog X.w H s.heap dd (.xd fs) := I.hok dd _ hd
      obtain ⟨mA, ⟨od, es, ep, hod, _⟩, _⟩ := hx
      have J : PySem.W.InstAt s.heap a oe E (some od) := ⟨hget, hz.1, by unfold PySem.W.notCls; rw [hv] <;> rfl, by rw [hz.2]; exact hod⟩
      exact PySem.W.kia_one (PySem.W.kitx_exc hcl C.hg C.hk C.hs C.ha C.hn C.ht C.hm) I.kIn J e (fun z => nomatch z) fun tk => ⟨.bl b, H, I.kept (t' := tk) fun _ _ z => z, rfl, q⟩
section
variable {K : PySem.W.Frag} {C a dd l : Addr} {i k : Nat} {σ : L2.St} {H : Hp} {D : Ends} {v v1 v2 v3 : V} {us : List V} {f f1 f2 f3 : Str}
theorem hT_one (hi : σ[i]? = some (some (.ref a))) (hk : σ[k]? = some (some (.ref l))) (hl : H l = some (.lst us)) (hz : us.length < sizeLine) (hd : H dd = some (.xd (([f] : List Str).zip [v]).reverse)) (q : D.nx σ (upd H l (.lst (us ++ [v])))) :
    tDrop (tBM K "list" rAppend (tVar k) (tCons (tXf a (.ref C) (some dd) C f (tVar i)) tNil)) D σ H :=
  ⟨.ref l, hk, .inl ⟨rfl, us, SqL.of hl⟩, .ref a, hi, rfl, rfl, dd, _, v, rfl, hd, (by rw [show (([f] : List Str).zip [v]).reverse = [(f, v)] from rfl, lookup_put, if_pos rfl]), l, us, v, rfl, rfl, hl, hz, q⟩
theorem hT_three (hE : ExcC K C) (hcl : (PySem.W.clsIn K C).isSome = true) (he : PySem.W.kitOne K (.ref C) (.ref C) = some true) (hnd : ([f1, f2, f3] : List Str).Nodup)
    (hi : σ[i]? = some (some (.ref a))) (hk : σ[k]? = some (some (.ref l))) (hl : H l = some (.lst us)) (hz : us.length < sizeLine) (hd : H dd = some (.xd (([f1, f2, f3] : List Str).zip [v1, v2, v3]).reverse))
    (q : ∀ p, H p = none → D.nx σ (upd (upd H p (.tup [v1, v2, v3])) l (.lst (us ++ [.ref p])))) :
    tDrop (tBM K "list" rAppend (tVar k) (tCons (tIf (tB (tCB (rIsS K a (.ref C) (some dd)) (tCons (tVar i) (tCons (tC (.ref C)) tNil)))) (tTup (tCons (tXf a (.ref C) (some dd) C f1 (tVar i)) (tCons (tXf a (.ref C) (some dd) C f2 (tVar i)) (tCons (tXf a (.ref C) (some dd) C f3 (tVar i)) tNil)))) (tC (.str "odd"))) tNil)) D σ H := by
  have k1 : ((([f1, f2, f3] : List Str).zip [v1, v2, v3]).reverse).lookup f1 = some v1 := lookup_zip (i := 0) hnd rfl rfl rfl
  have k2 : ((([f1, f2, f3] : List Str).zip [v1, v2, v3]).reverse).lookup f2 = some v2 := lookup_zip (i := 1) hnd rfl rfl rfl
  have k3 : ((([f1, f2, f3] : List Str).zip [v1, v2, v3]).reverse).lookup f3 = some v3 := lookup_zip (i := 2) hnd rfl rfl rfl
  refine ⟨.ref l, hk, .inl ⟨rfl, us, SqL.of hl⟩, .ref a, hi, C, .ref C, .ref C, true, dd, _, rfl, rfl, rfl, hd, hE, hcl, fun u r => r, he, true, rfl, ?_⟩
  refine ⟨.ref a, hi, rfl, rfl, dd, _, v1, rfl, hd, k1, .ref a, hi, rfl, rfl, dd, _, v2, rfl, hd, k2, .ref a, hi, rfl, rfl, dd, _, v3, rfl, hd, k3, ?_, fun p np => ?_⟩
  · rw [sizeLine_eq]; exact Nat.le_of_ble_eq_true rfl
  · exact ⟨l, us, .ref p, rfl, rfl, by rw [upd_ne (ne_of_none hl np)]; exact hl, hz, q p np⟩
end
def GV1 (vs : List V) (H : Hp) (v : V) (H' : Hp) : Prop := vs = [v] ∧ H' = H
def GV3 (vs : List V) (H : Hp) (v : V) (H' : Hp) : Prop := ∃ p, H p = none ∧ v = .ref p ∧ H' = upd H p (.tup vs)
section
variable {K : PySem.W.Frag} {cls ts ρ : List Addr} {H H' : Hp} {h : AH} {vs : List V} {ds : List D} {v : V}
theorem hR1 (hH : RH K cls ts ρ H h) (rv : RVs K ρ H vs ds) (g : GV1 vs H v H') : RV K ρ H' v (ds.headD .non) ∧ Ext ts ρ ρ H H' ∧ RH K cls ts ρ H' h ∧ ∀ b o, H b = some o → H' b = some o := by
  obtain ⟨rfl, rfl⟩ := g
  cases rv with
  | cons r _ => exact ⟨r, .refl, hH, fun _ _ e => e⟩
theorem hR3 (hH : RH K cls ts ρ H h) (rv : RVs K ρ H vs ds) (g : GV3 vs H v H') : RV K ρ H' v (.tup ds) ∧ Ext ts ρ ρ H H' ∧ RH K cls ts ρ H' h ∧ ∀ b o, H b = some o → H' b = some o := by
  obtain ⟨p, np, rfl, rfl⟩ := g
  have e := ext_other (ts := ts) (ρ := ρ) (u := .tup vs) np
  exact ⟨.tup (SqT.of upd_same) (rv.mono e), e, hH.other np, fun b o q => by rw [upd_ne (ne_of_none q np)]; exact q⟩
end
end Mi

namespace Mi
open L2 PySem PySem.Spec PyProof.Rows
/-! ### classes in the written part -/
structure Cld (K : PySem.W.Frag) (C : Addr) (bm : List Value) (newId : String) : Prop where
  lk : ∃ nm q D bs sn sub ab col dd k0 k1 k2 k3 k5, K.lookup C = some (excClassObj nm q C D bs bm true sn sub ab col dd k0 k1 k2 k3 k5 newId)
  ga : PySem.W.findIn K (.ref C) "__getattribute__" = some (some (.builtin "BaseException.__getattribute__"))
  gg : PySem.W.findIn K (.ref C) "__getattr__" = some none
  ha : PySem.W.findIn K (.ref C) "__class__" = some (some (.builtin "object.__class__"))
  kC : PySem.W.keepIn K (.ref C) = true
section
variable {K : PySem.W.Frag} {C E : Addr} {bm bm' : List Value} {newId newId' : String}
theorem Cld.data (T : Cld K C bm newId) : ∃ cd, PySem.W.clsIn K C = some cd ∧ cd.hasDict = true ∧ cd.mro = .ref C :: bm := by
  obtain ⟨nm, q, D, bs, sn, sub, ab, col, dd, k0, k1, k2, k3, k5, h⟩ := T.lk
  exact ⟨_, by unfold PySem.W.clsIn; rw [h] <;> rfl, rfl, rfl⟩
theorem Cld.is (T : Cld K C bm newId) : (PySem.W.clsIn K C).isSome = true := by
  obtain ⟨cd, h, _⟩ := T.data
  rw [h]; rfl
theorem Cld.hd (T : Cld K C bm newId) : PySem.W.hasDictIn K C = true := by
  obtain ⟨cd, h, h2, _⟩ := T.data
  unfold PySem.W.hasDictIn
  rw [h]; exact h2
theorem Cld.mro (T : Cld K C bm newId) (v : Value) : PySem.W.mroIn K C v = some ((Value.ref C :: bm).contains v) := by
  obtain ⟨cd, h, _, h3⟩ := T.data
  unfold PySem.W.mroIn
  rw [h, Option.bind_some, h3]
  rfl
theorem Cld.sub (T : Cld K C bm newId) (v : Value) : PySem.W.subIn K (.ref C) v = some ((Value.ref C :: bm).contains v) := T.mro v
theorem Cld.ty (T : Cld K C bm newId) : PySem.W.typeIn K (.ref C) = some (.type "type") := by
  obtain ⟨nm, q, D, bs, sn, sub, ab, col, dd, k0, k1, k2, k3, k5, h⟩ := T.lk
  show (K.lookup C).map (·.cls) = _
  rw [h]; rfl
theorem Cld.subT (T : Cld K C bm newId) {n : String} (h : bm.contains (.type n) = true) : PySem.W.subIn K (.ref C) (.type n) = some true := by
  rw [T.sub, List.contains_cons, h, Bool.or_true]
theorem Cld.exc (T : Cld K C bm newId) (h1 : bm.contains (.type "BaseException") = true) (h2 : bm.contains (.type "object") = true) (hn : PySem.W.specialIn K (.builtin "object.__class__") "__get__" = some (some (.builtin "getset_descriptor.__get__"))) (ht : PySem.W.takesIn K (.builtin "object.__class__") = some true) : ExcC K C :=
  ⟨T.ga, T.gg, T.subT h1, T.hd, T.ha, hn, ht, T.subT h2⟩
theorem Cld.xf (T : Cld K C bm newId) (h1 : bm.contains (.type "BaseException") = true) : XfC K C := ⟨T.ga, T.gg, T.subT h1, T.hd⟩
theorem Cld.kit (T : Cld K E bm newId) (T' : Cld K C bm' newId') : PySem.W.kitOne K (.ref E) (.ref C) = some ((Value.ref E :: bm).contains (.ref C)) := by
  unfold PySem.W.kitOne
  split
  · rename_i z
    rw [beq_iff_eq] at z
    cases z
    simp
  · show (if ((PySem.W.clsIn K C).isSome && PySem.W.typeIn K (.ref C) == some (.type "type")) = true then PySem.W.subIn K (.ref E) (.ref C) else none) = _
    rw [T'.is, T'.ty, if_pos (show (true && some (Value.type "type") == some (Value.type "type")) = true by simp), T.sub]
theorem Cld.kitT (T : Cld K E bm newId) {n : String} (hm : PySem.W.kitMeta n = true) : PySem.W.kitOne K (.ref E) (.type n) = some ((Value.ref E :: bm).contains (.type n)) := by
  have z : ((Value.ref E == Value.type n) = true) = False := by simp
  unfold PySem.W.kitOne
  rw [if_neg (by rw [z]; exact id)]
  show (if PySem.W.kitMeta n = true then PySem.W.subIn K (.ref E) (.type n) else none) = _
  rw [if_pos hm, T.sub]
theorem Cld.exm (T : Cld K E bm newId) (T' : Cld K C bm' newId') (h1 : bm'.contains (.type "BaseException") = true) : PySem.W.exmOne K (.ref E) (.ref C) = some ((Value.ref E :: bm).contains (.ref C)) :=
  PySem.W.exm_ref (T'.subT h1) T'.hd T'.ty (T.sub _)
theorem Cld.xcls {N B : String} {bmB : List Value} (T : Cld K C bm newId) (Z : Beh N newId bm) (ht : PySem.W.excTail bmB bm = true) (st : StoreFacts B bmB "object.__setattr__" "object") (h1 : bm.contains (.type "BaseException") = true)
    (sa : PySem.W.findIn K (.ref C) "__setattr__" = some (some (.builtin "object.__setattr__"))) : XCls K C := by
  obtain ⟨nm, q, D, bs, sn, sub, ab, col, dd, k0, k1, k2, k3, k5, h⟩ := T.lk
  exact ⟨⟨N, newId, B, bmB, nm, q, D, bs, bm, sn, sub, ab, col, dd, k0, k1, k2, k3, k5, h, Z, ht, st⟩, sa, T.subT h1, T.ty, T.kC, T.ga, T.gg⟩
end
theorem beh_ve {S : Addr} : Beh "ValueError" "ValueError.__new__" (.ref S :: veTail') := ⟨⟨_, _, PySem.F.excBase_ValueError⟩, rfl, rfl, rfl⟩
theorem beh_ke : Beh "LookupError" "LookupError.__new__" keTail := ⟨⟨_, _, PySem.F.excBase_LookupError⟩, by decide +kernel, by decide +kernel, by decide +kernel⟩
theorem beh_ie : Beh "IndexError" "IndexError.__new__" ieTail := ⟨⟨_, _, PySem.F.excBase_IndexError⟩, by decide +kernel, by decide +kernel, by decide +kernel⟩
theorem taker_of {K : PySem.W.Frag} {C : Addr} {f : Str} (h : PySem.W.findIn K (.ref C) f = some none) : PySem.W.takerIn K C f = some none := by
  unfold PySem.W.takerIn
  rw [h]; rfl
/-! ### named arguments in another order -/
def pm120 {α : Type} : List α → List α
  | [a, b, c] => [b, c, a]
  | xs => xs
def pm201 {α : Type} : List α → List α
  | [a, b, c] => [c, a, b]
  | xs => xs
def pm021 {α : Type} : List α → List α
  | [a, b, c] => [a, c, b]
  | xs => xs
theorem pmV120 {ks : List Str} (zs : List V) (ws : List Value) (r : Vals zs ws) (hl : zs.length = ks.length) : Vals (pm120 zs) (pm120 ws) := by
  match zs, ws, r with
  | [_, _, _], _, .cons a (.cons b (.cons c .nil)) => exact .cons b (.cons c (.cons a .nil))
  | [], _, .nil => exact .nil
  | [_], _, .cons a .nil => exact .cons a .nil
  | [_, _], _, .cons a (.cons b .nil) => exact .cons a (.cons b .nil)
  | _ :: _ :: _ :: _ :: _, _, .cons a (.cons b (.cons c (.cons d r))) => exact .cons a (.cons b (.cons c (.cons d r)))
theorem pmV201 {ks : List Str} (zs : List V) (ws : List Value) (r : Vals zs ws) (hl : zs.length = ks.length) : Vals (pm201 zs) (pm201 ws) := by
  match zs, ws, r with
  | [_, _, _], _, .cons a (.cons b (.cons c .nil)) => exact .cons c (.cons a (.cons b .nil))
  | [], _, .nil => exact .nil
  | [_], _, .cons a .nil => exact .cons a .nil
  | [_, _], _, .cons a (.cons b .nil) => exact .cons a (.cons b .nil)
  | _ :: _ :: _ :: _ :: _, _, .cons a (.cons b (.cons c (.cons d r))) => exact .cons a (.cons b (.cons c (.cons d r)))
theorem pmV021 {ks : List Str} (zs : List V) (ws : List Value) (r : Vals zs ws) (hl : zs.length = ks.length) : Vals (pm021 zs) (pm021 ws) := by
  match zs, ws, r with
  | [_, _, _], _, .cons a (.cons b (.cons c .nil)) => exact .cons a (.cons c (.cons b .nil))
  | [], _, .nil => exact .nil
  | [_], _, .cons a .nil => exact .cons a .nil
  | [_, _], _, .cons a (.cons b .nil) => exact .cons a (.cons b .nil)
  | _ :: _ :: _ :: _ :: _, _, .cons a (.cons b (.cons c (.cons d r))) => exact .cons a (.cons b (.cons c (.cons d r)))
section
variable {K : PySem.W.Frag} {ρ : List Addr} {H : Hp} {ks : List Str}
theorem pmD120 (zs : List V) (es : List D) (r : RVs K ρ H zs es) (hl : zs.length = ks.length) : RVs K ρ H (pm120 zs) (pm120 es) := by
  match zs, es, r with
  | [_, _, _], _, .cons a (.cons b (.cons c .nil)) => exact .cons b (.cons c (.cons a .nil))
  | [], _, .nil => exact .nil
  | [_], _, .cons a .nil => exact .cons a .nil
  | [_, _], _, .cons a (.cons b .nil) => exact .cons a (.cons b .nil)
  | _ :: _ :: _ :: _ :: _, _, .cons a (.cons b (.cons c (.cons d r))) => exact .cons a (.cons b (.cons c (.cons d r)))
theorem pmD201 (zs : List V) (es : List D) (r : RVs K ρ H zs es) (hl : zs.length = ks.length) : RVs K ρ H (pm201 zs) (pm201 es) := by
  match zs, es, r with
  | [_, _, _], _, .cons a (.cons b (.cons c .nil)) => exact .cons c (.cons a (.cons b .nil))
  | [], _, .nil => exact .nil
  | [_], _, .cons a .nil => exact .cons a .nil
  | [_, _], _, .cons a (.cons b .nil) => exact .cons a (.cons b .nil)
  | _ :: _ :: _ :: _ :: _, _, .cons a (.cons b (.cons c (.cons d r))) => exact .cons a (.cons b (.cons c (.cons d r)))
theorem pmD021 (zs : List V) (es : List D) (r : RVs K ρ H zs es) (hl : zs.length = ks.length) : RVs K ρ H (pm021 zs) (pm021 es) := by
  match zs, es, r with
  | [_, _, _], _, .cons a (.cons b (.cons c .nil)) => exact .cons a (.cons c (.cons b .nil))
  | [], _, .nil => exact .nil
  | [_], _, .cons a .nil => exact .cons a .nil
  | [_, _], _, .cons a (.cons b .nil) => exact .cons a (.cons b .nil)
  | _ :: _ :: _ :: _ :: _, _, .cons a (.cons b (.cons c (.cons d r))) => exact .cons a (.cons b (.cons c (.cons d r)))
end
end Mi

namespace K06
open Mi L2 PySem PySem.Spec PyProof.Rows
def top (i : Nat) : Stmt := PySem.Challenge.pw_everso_k06_refusals_made.main.body.getD i (.Pass ⟨0, 0, 0, 0⟩)
structure XV where
  c : Nat → Addr
  sub : Addr → D → Option Bool
def itm (i j : Nat) : Stmt := match top i with
  | .ClassDef (body := b) .. => b.getD j (.Pass ⟨0, 0, 0, 0⟩)
  | _ => .Pass ⟨0, 0, 0, 0⟩
abbrev sI_NoText : Stmt := itm 2 0
theorem scI_NoText : FnScope [("self" : Str), ("line" : Str)] [("self" : Str), ("line" : Str)] (defScope sI_NoText) := ⟨rfl, rfl, rfl, by decide +kernel, rfl, by decide +kernel, by decide +kernel⟩
theorem bi_NoText : BdI "NoText.__init__" sI_NoText [("self" : Str), ("line" : Str)] := fun _ _ _ _ _ _ us hl => match us, hl with | [_, _], _ => rfl
section
variable {P : Program} {w : World} {K : PySem.W.Frag} {mg : Str → Option Value} {base : Heap} {C fI : Addr} {fd : FuncData}
theorem in_NoText (T : XCls K C) (F : Fun K "__init__" "NoText.__init__" sI_NoText fI fd) (h0 : PySem.W.findIn K (.ref C) ("line" : Str) = some none) : FnOk P w K mg base L2.CX0 1 fI fd [("self" : Str), ("line" : Str)] (spX C [("line" : Str)]) :=
  F.ok scI_NoText (fun vs H Q E h => spX_len h) (fun cdv A outer s H vs Q E hr h => ⟨_, pss_one (ps_xst (pv 0) (pv 1)), rd1 T (taker_of h0) h⟩)
theorem xc_NoText (T : XCls K C) (iC : PySem.W.findIn K (.ref C) "__init__" = some (some (.ref fI))) (tI : PySem.W.typeIn K (.ref fI) = some (.type "function")) (F : Fun K "__init__" "NoText.__init__" sI_NoText fI fd) (h0 : PySem.W.findIn K (.ref C) ("line" : Str) = some none) (hm : mg "NoText" = some (.ref C)) : Xc P w K mg base "NoText" "NoText.__init__" sI_NoText C [("line" : Str)] :=
  ⟨⟨fI, fd, ⟨T, iC, tI, in_NoText T F h0⟩, F⟩, hm, by intro f hf; simp only [List.mem_cons, List.not_mem_nil, or_false] at hf; rw [hf]; exact h0⟩
end
abbrev sI_NoEdit : Stmt := itm 6 0
theorem scI_NoEdit : FnScope [("self" : Str), ("k" : Str)] [("self" : Str), ("k" : Str)] (defScope sI_NoEdit) := ⟨rfl, rfl, rfl, by decide +kernel, rfl, by decide +kernel, by decide +kernel⟩
theorem bi_NoEdit : BdI "NoEdit.__init__" sI_NoEdit [("self" : Str), ("k" : Str)] := fun _ _ _ _ _ _ us hl => match us, hl with | [_, _], _ => rfl
section
variable {P : Program} {w : World} {K : PySem.W.Frag} {mg : Str → Option Value} {base : Heap} {C fI : Addr} {fd : FuncData}
theorem in_NoEdit (T : XCls K C) (F : Fun K "__init__" "NoEdit.__init__" sI_NoEdit fI fd) (h0 : PySem.W.findIn K (.ref C) ("k" : Str) = some none) : FnOk P w K mg base L2.CX0 1 fI fd [("self" : Str), ("k" : Str)] (spX C [("k" : Str)]) :=
  F.ok scI_NoEdit (fun vs H Q E h => spX_len h) (fun cdv A outer s H vs Q E hr h => ⟨_, pss_one (ps_xst (pv 0) (pv 1)), rd1 T (taker_of h0) h⟩)
theorem xc_NoEdit (T : XCls K C) (iC : PySem.W.findIn K (.ref C) "__init__" = some (some (.ref fI))) (tI : PySem.W.typeIn K (.ref fI) = some (.type "function")) (F : Fun K "__init__" "NoEdit.__init__" sI_NoEdit fI fd) (h0 : PySem.W.findIn K (.ref C) ("k" : Str) = some none) (hm : mg "NoEdit" = some (.ref C)) : Xc P w K mg base "NoEdit" "NoEdit.__init__" sI_NoEdit C [("k" : Str)] :=
  ⟨⟨fI, fd, ⟨T, iC, tI, in_NoEdit T F h0⟩, F⟩, hm, by intro f hf; simp only [List.mem_cons, List.not_mem_nil, or_false] at hf; rw [hf]; exact h0⟩
end
abbrev sI_NotYet : Stmt := itm 7 0
theorem scI_NotYet : FnScope [("self" : Str), ("many" : Str)] [("self" : Str), ("many" : Str)] (defScope sI_NotYet) := ⟨rfl, rfl, rfl, by decide +kernel, rfl, by decide +kernel, by decide +kernel⟩
theorem bi_NotYet : BdI "NotYet.__init__" sI_NotYet [("self" : Str), ("many" : Str)] := fun _ _ _ _ _ _ us hl => match us, hl with | [_, _], _ => rfl
section
variable {P : Program} {w : World} {K : PySem.W.Frag} {mg : Str → Option Value} {base : Heap} {C fI : Addr} {fd : FuncData}
theorem in_NotYet (T : XCls K C) (F : Fun K "__init__" "NotYet.__init__" sI_NotYet fI fd) (h0 : PySem.W.findIn K (.ref C) ("many" : Str) = some none) : FnOk P w K mg base L2.CX0 1 fI fd [("self" : Str), ("many" : Str)] (spX C [("many" : Str)]) :=
  F.ok scI_NotYet (fun vs H Q E h => spX_len h) (fun cdv A outer s H vs Q E hr h => ⟨_, pss_one (ps_xst (pv 0) (pv 1)), rd1 T (taker_of h0) h⟩)
theorem xc_NotYet (T : XCls K C) (iC : PySem.W.findIn K (.ref C) "__init__" = some (some (.ref fI))) (tI : PySem.W.typeIn K (.ref fI) = some (.type "function")) (F : Fun K "__init__" "NotYet.__init__" sI_NotYet fI fd) (h0 : PySem.W.findIn K (.ref C) ("many" : Str) = some none) (hm : mg "NotYet" = some (.ref C)) : Xc P w K mg base "NotYet" "NotYet.__init__" sI_NotYet C [("many" : Str)] :=
  ⟨⟨fI, fd, ⟨T, iC, tI, in_NotYet T F h0⟩, F⟩, hm, by intro f hf; simp only [List.mem_cons, List.not_mem_nil, or_false] at hf; rw [hf]; exact h0⟩
end
abbrev sI_Said : Stmt := itm 9 0
theorem scI_Said : FnScope [("self" : Str), ("k" : Str), ("one" : Str), ("other" : Str)] [("self" : Str), ("k" : Str), ("one" : Str), ("other" : Str)] (defScope sI_Said) := ⟨rfl, rfl, rfl, by decide +kernel, rfl, by decide +kernel, by decide +kernel⟩
theorem bi_Said : BdI "Said.__init__" sI_Said [("self" : Str), ("k" : Str), ("one" : Str), ("other" : Str)] := fun _ _ _ _ _ _ us hl => match us, hl with | [_, _, _, _], _ => rfl
section
variable {P : Program} {w : World} {K : PySem.W.Frag} {mg : Str → Option Value} {base : Heap} {C fI : Addr} {fd : FuncData}
theorem in_Said (T : XCls K C) (F : Fun K "__init__" "Said.__init__" sI_Said fI fd) (h0 : PySem.W.findIn K (.ref C) ("k" : Str) = some none) (h1 : PySem.W.findIn K (.ref C) ("one" : Str) = some none) (h2 : PySem.W.findIn K (.ref C) ("other" : Str) = some none) : FnOk P w K mg base L2.CX0 1 fI fd [("self" : Str), ("k" : Str), ("one" : Str), ("other" : Str)] (spX C [("k" : Str), ("one" : Str), ("other" : Str)]) :=
  F.ok scI_Said (fun vs H Q E h => spX_len h) (fun cdv A outer s H vs Q E hr h => ⟨_, pss_cons (ps_xst (pv 0) (pv 1)) (pss_cons (ps_xst (pv 0) (pv 2)) (pss_one (ps_xst (pv 0) (pv 3)))), rd3 T (taker_of h0) (taker_of h1) (taker_of h2) h⟩)
theorem xc_Said (T : XCls K C) (iC : PySem.W.findIn K (.ref C) "__init__" = some (some (.ref fI))) (tI : PySem.W.typeIn K (.ref fI) = some (.type "function")) (F : Fun K "__init__" "Said.__init__" sI_Said fI fd) (h0 : PySem.W.findIn K (.ref C) ("k" : Str) = some none) (h1 : PySem.W.findIn K (.ref C) ("one" : Str) = some none) (h2 : PySem.W.findIn K (.ref C) ("other" : Str) = some none) (hm : mg "Said" = some (.ref C)) : Xc P w K mg base "Said" "Said.__init__" sI_Said C [("k" : Str), ("one" : Str), ("other" : Str)] :=
  ⟨⟨fI, fd, ⟨T, iC, tI, in_Said T F h0 h1 h2⟩, F⟩, hm, by intro f hf; simp only [List.mem_cons, List.not_mem_nil, or_false] at hf; rcases hf with rfl | rfl | rfl <;> assumption⟩
end
abbrev sI_TooLong : Stmt := itm 10 0
theorem scI_TooLong : FnScope [("self" : Str), ("most" : Str)] [("self" : Str), ("most" : Str)] (defScope sI_TooLong) := ⟨rfl, rfl, rfl, by decide +kernel, rfl, by decide +kernel, by decide +kernel⟩
theorem bi_TooLong : BdI "TooLong.__init__" sI_TooLong [("self" : Str), ("most" : Str)] := fun _ _ _ _ _ _ us hl => match us, hl with | [_, _], _ => rfl
section
variable {P : Program} {w : World} {K : PySem.W.Frag} {mg : Str → Option Value} {base : Heap} {C fI : Addr} {fd : FuncData}
theorem in_TooLong (T : XCls K C) (F : Fun K "__init__" "TooLong.__init__" sI_TooLong fI fd) (h0 : PySem.W.findIn K (.ref C) ("most" : Str) = some none) : FnOk P w K mg base L2.CX0 1 fI fd [("self" : Str), ("most" : Str)] (spX C [("most" : Str)]) :=
  F.ok scI_TooLong (fun vs H Q E h => spX_len h) (fun cdv A outer s H vs Q E hr h => ⟨_, pss_one (ps_xst (pv 0) (pv 1)), rd1 T (taker_of h0) h⟩)
theorem xc_TooLong (T : XCls K C) (iC : PySem.W.findIn K (.ref C) "__init__" = some (some (.ref fI))) (tI : PySem.W.typeIn K (.ref fI) = some (.type "function")) (F : Fun K "__init__" "TooLong.__init__" sI_TooLong fI fd) (h0 : PySem.W.findIn K (.ref C) ("most" : Str) = some none) (hm : mg "TooLong" = some (.ref C)) : Xc P w K mg base "TooLong" "TooLong.__init__" sI_TooLong C [("most" : Str)] :=
  ⟨⟨fI, fd, ⟨T, iC, tI, in_TooLong T F h0⟩, F⟩, hm, by intro f hf; simp only [List.mem_cons, List.not_mem_nil, or_false] at hf; rw [hf]; exact h0⟩
end
abbrev sI_TooDeep : Stmt := itm 11 0
theorem scI_TooDeep : FnScope [("self" : Str), ("deep" : Str)] [("self" : Str), ("deep" : Str)] (defScope sI_TooDeep) := ⟨rfl, rfl, rfl, by decide +kernel, rfl, by decide +kernel, by decide +kernel⟩
theorem bi_TooDeep : BdI "TooDeep.__init__" sI_TooDeep [("self" : Str), ("deep" : Str)] := fun _ _ _ _ _ _ us hl => match us, hl with | [_, _], _ => rfl
section
variable {P : Program} {w : World} {K : PySem.W.Frag} {mg : Str → Option Value} {base : Heap} {C fI : Addr} {fd : FuncData}
theorem in_TooDeep (T : XCls K C) (F : Fun K "__init__" "TooDeep.__init__" sI_TooDeep fI fd) (h0 : PySem.W.findIn K (.ref C) ("deep" : Str) = some none) : FnOk P w K mg base L2.CX0 1 fI fd [("self" : Str), ("deep" : Str)] (spX C [("deep" : Str)]) :=
  F.ok scI_TooDeep (fun vs H Q E h => spX_len h) (fun cdv A outer s H vs Q E hr h => ⟨_, pss_one (ps_xst (pv 0) (pv 1)), rd1 T (taker_of h0) h⟩)
theorem xc_TooDeep (T : XCls K C) (iC : PySem.W.findIn K (.ref C) "__init__" = some (some (.ref fI))) (tI : PySem.W.typeIn K (.ref fI) = some (.type "function")) (F : Fun K "__init__" "TooDeep.__init__" sI_TooDeep fI fd) (h0 : PySem.W.findIn K (.ref C) ("deep" : Str) = some none) (hm : mg "TooDeep" = some (.ref C)) : Xc P w K mg base "TooDeep" "TooDeep.__init__" sI_TooDeep C [("deep" : Str)] :=
  ⟨⟨fI, fd, ⟨T, iC, tI, in_TooDeep T F h0⟩, F⟩, hm, by intro f hf; simp only [List.mem_cons, List.not_mem_nil, or_false] at hf; rw [hf]; exact h0⟩
end
abbrev sI_NoCell : Stmt := itm 12 0
theorem scI_NoCell : FnScope [("self" : Str), ("name" : Str)] [("self" : Str), ("name" : Str)] (defScope sI_NoCell) := ⟨rfl, rfl, rfl, by decide +kernel, rfl, by decide +kernel, by decide +kernel⟩
theorem bi_NoCell : BdI "NoCell.__init__" sI_NoCell [("self" : Str), ("name" : Str)] := fun _ _ _ _ _ _ us hl => match us, hl with | [_, _], _ => rfl
section
variable {P : Program} {w : World} {K : PySem.W.Frag} {mg : Str → Option Value} {base : Heap} {C fI : Addr} {fd : FuncData}
theorem in_NoCell (T : XCls K C) (F : Fun K "__init__" "NoCell.__init__" sI_NoCell fI fd) (h0 : PySem.W.findIn K (.ref C) ("name" : Str) = some none) : FnOk P w K mg base L2.CX0 1 fI fd [("self" : Str), ("name" : Str)] (spX C [("name" : Str)]) :=
  F.ok scI_NoCell (fun vs H Q E h => spX_len h) (fun cdv A outer s H vs Q E hr h => ⟨_, pss_one (ps_xst (pv 0) (pv 1)), rd1 T (taker_of h0) h⟩)
theorem xc_NoCell (T : XCls K C) (iC : PySem.W.findIn K (.ref C) "__init__" = some (some (.ref fI))) (tI : PySem.W.typeIn K (.ref fI) = some (.type "function")) (F : Fun K "__init__" "NoCell.__init__" sI_NoCell fI fd) (h0 : PySem.W.findIn K (.ref C) ("name" : Str) = some none) (hm : mg "NoCell" = some (.ref C)) : Xc P w K mg base "NoCell" "NoCell.__init__" sI_NoCell C [("name" : Str)] :=
  ⟨⟨fI, fd, ⟨T, iC, tI, in_NoCell T F h0⟩, F⟩, hm, by intro f hf; simp only [List.mem_cons, List.not_mem_nil, or_false] at hf; rw [hf]; exact h0⟩
end
abbrev sI_NoModule : Stmt := itm 13 0
theorem scI_NoModule : FnScope [("self" : Str), ("module" : Str)] [("self" : Str), ("module" : Str)] (defScope sI_NoModule) := ⟨rfl, rfl, rfl, by decide +kernel, rfl, by decide +kernel, by decide +kernel⟩
theorem bi_NoModule : BdI "NoModule.__init__" sI_NoModule [("self" : Str), ("module" : Str)] := fun _ _ _ _ _ _ us hl => match us, hl with | [_, _], _ => rfl
section
variable {P : Program} {w : World} {K : PySem.W.Frag} {mg : Str → Option Value} {base : Heap} {C fI : Addr} {fd : FuncData}
theorem in_NoModule (T : XCls K C) (F : Fun K "__init__" "NoModule.__init__" sI_NoModule fI fd) (h0 : PySem.W.findIn K (.ref C) ("module" : Str) = some none) : FnOk P w K mg base L2.CX0 1 fI fd [("self" : Str), ("module" : Str)] (spX C [("module" : Str)]) :=
  F.ok scI_NoModule (fun vs H Q E h => spX_len h) (fun cdv A outer s H vs Q E hr h => ⟨_, pss_one (ps_xst (pv 0) (pv 1)), rd1 T (taker_of h0) h⟩)
theorem xc_NoModule (T : XCls K C) (iC : PySem.W.findIn K (.ref C) "__init__" = some (some (.ref fI))) (tI : PySem.W.typeIn K (.ref fI) = some (.type "function")) (F : Fun K "__init__" "NoModule.__init__" sI_NoModule fI fd) (h0 : PySem.W.findIn K (.ref C) ("module" : Str) = some none) (hm : mg "NoModule" = some (.ref C)) : Xc P w K mg base "NoModule" "NoModule.__init__" sI_NoModule C [("module" : Str)] :=
  ⟨⟨fI, fd, ⟨T, iC, tI, in_NoModule T F h0⟩, F⟩, hm, by intro f hf; simp only [List.mem_cons, List.not_mem_nil, or_false] at hf; rw [hf]; exact h0⟩
end
abbrev sI_NoThing : Stmt := itm 14 0
theorem scI_NoThing : FnScope [("self" : Str), ("k" : Str)] [("self" : Str), ("k" : Str)] (defScope sI_NoThing) := ⟨rfl, rfl, rfl, by decide +kernel, rfl, by decide +kernel, by decide +kernel⟩
theorem bi_NoThing : BdI "NoThing.__init__" sI_NoThing [("self" : Str), ("k" : Str)] := fun _ _ _ _ _ _ us hl => match us, hl with | [_, _], _ => rfl
section
variable {P : Program} {w : World} {K : PySem.W.Frag} {mg : Str → Option Value} {base : Heap} {C fI : Addr} {fd : FuncData}
theorem in_NoThing (T : XCls K C) (F : Fun K "__init__" "NoThing.__init__" sI_NoThing fI fd) (h0 : PySem.W.findIn K (.ref C) ("k" : Str) = some none) : FnOk P w K mg base L2.CX0 1 fI fd [("self" : Str), ("k" : Str)] (spX C [("k" : Str)]) :=
  F.ok scI_NoThing (fun vs H Q E h => spX_len h) (fun cdv A outer s H vs Q E hr h => ⟨_, pss_one (ps_xst (pv 0) (pv 1)), rd1 T (taker_of h0) h⟩)
theorem xc_NoThing (T : XCls K C) (iC : PySem.W.findIn K (.ref C) "__init__" = some (some (.ref fI))) (tI : PySem.W.typeIn K (.ref fI) = some (.type "function")) (F : Fun K "__init__" "NoThing.__init__" sI_NoThing fI fd) (h0 : PySem.W.findIn K (.ref C) ("k" : Str) = some none) (hm : mg "NoThing" = some (.ref C)) : Xc P w K mg base "NoThing" "NoThing.__init__" sI_NoThing C [("k" : Str)] :=
  ⟨⟨fI, fd, ⟨T, iC, tI, in_NoThing T F h0⟩, F⟩, hm, by intro f hf; simp only [List.mem_cons, List.not_mem_nil, or_false] at hf; rw [hf]; exact h0⟩
end
abbrev sI_NoStep : Stmt := itm 15 0
theorem scI_NoStep : FnScope [("self" : Str), ("step" : Str)] [("self" : Str), ("step" : Str)] (defScope sI_NoStep) := ⟨rfl, rfl, rfl, by decide +kernel, rfl, by decide +kernel, by decide +kernel⟩
theorem bi_NoStep : BdI "NoStep.__init__" sI_NoStep [("self" : Str), ("step" : Str)] := fun _ _ _ _ _ _ us hl => match us, hl with | [_, _], _ => rfl
section
variable {P : Program} {w : World} {K : PySem.W.Frag} {mg : Str → Option Value} {base : Heap} {C fI : Addr} {fd : FuncData}
theorem in_NoStep (T : XCls K C) (F : Fun K "__init__" "NoStep.__init__" sI_NoStep fI fd) (h0 : PySem.W.findIn K (.ref C) ("step" : Str) = some none) : FnOk P w K mg base L2.CX0 1 fI fd [("self" : Str), ("step" : Str)] (spX C [("step" : Str)]) :=
  F.ok scI_NoStep (fun vs H Q E h => spX_len h) (fun cdv A outer s H vs Q E hr h => ⟨_, pss_one (ps_xst (pv 0) (pv 1)), rd1 T (taker_of h0) h⟩)
theorem xc_NoStep (T : XCls K C) (iC : PySem.W.findIn K (.ref C) "__init__" = some (some (.ref fI))) (tI : PySem.W.typeIn K (.ref fI) = some (.type "function")) (F : Fun K "__init__" "NoStep.__init__" sI_NoStep fI fd) (h0 : PySem.W.findIn K (.ref C) ("step" : Str) = some none) (hm : mg "NoStep" = some (.ref C)) : Xc P w K mg base "NoStep" "NoStep.__init__" sI_NoStep C [("step" : Str)] :=
  ⟨⟨fI, fd, ⟨T, iC, tI, in_NoStep T F h0⟩, F⟩, hm, by intro f hf; simp only [List.mem_cons, List.not_mem_nil, or_false] at hf; rw [hf]; exact h0⟩
end
theorem bik_TooDeep_0 : BdIK "TooDeep.__init__" sI_TooDeep [("self" : Str), ("deep" : Str)] [("deep" : Str)] pm0 := fun _ _ _ _ _ _ self ws hl => match ws, hl with | [_], _ => rfl
theorem bik_TooLong_0 : BdIK "TooLong.__init__" sI_TooLong [("self" : Str), ("most" : Str)] [("most" : Str)] pm0 := fun _ _ _ _ _ _ self ws hl => match ws, hl with | [_], _ => rfl
theorem bik_NotYet_0 : BdIK "NotYet.__init__" sI_NotYet [("self" : Str), ("many" : Str)] [("many" : Str)] pm0 := fun _ _ _ _ _ _ self ws hl => match ws, hl with | [_], _ => rfl
theorem bik_NoEdit_0 : BdIK "NoEdit.__init__" sI_NoEdit [("self" : Str), ("k" : Str)] [("k" : Str)] pm0 := fun _ _ _ _ _ _ self ws hl => match ws, hl with | [_], _ => rfl
theorem bik_NoText_0 : BdIK "NoText.__init__" sI_NoText [("self" : Str), ("line" : Str)] [("line" : Str)] pm0 := fun _ _ _ _ _ _ self ws hl => match ws, hl with | [_], _ => rfl
theorem bik_NoStep_0 : BdIK "NoStep.__init__" sI_NoStep [("self" : Str), ("step" : Str)] [("step" : Str)] pm0 := fun _ _ _ _ _ _ self ws hl => match ws, hl with | [_], _ => rfl
theorem bik_NoThing_0 : BdIK "NoThing.__init__" sI_NoThing [("self" : Str), ("k" : Str)] [("k" : Str)] pm0 := fun _ _ _ _ _ _ self ws hl => match ws, hl with | [_], _ => rfl
theorem bik_NoModule_0 : BdIK "NoModule.__init__" sI_NoModule [("self" : Str), ("module" : Str)] [("module" : Str)] pm0 := fun _ _ _ _ _ _ self ws hl => match ws, hl with | [_], _ => rfl
theorem bik_NoCell_0 : BdIK "NoCell.__init__" sI_NoCell [("self" : Str), ("name" : Str)] [("name" : Str)] pm0 := fun _ _ _ _ _ _ self ws hl => match ws, hl with | [_], _ => rfl
theorem bik_Said_201 : BdIK "Said.__init__" sI_Said [("self" : Str), ("k" : Str), ("one" : Str), ("other" : Str)] [("one" : Str), ("other" : Str), ("k" : Str)] pm201 := fun _ _ _ _ _ _ self ws hl => match ws, hl with | [_, _, _], _ => rfl
theorem bik_Said_120 : BdIK "Said.__init__" sI_Said [("self" : Str), ("k" : Str), ("one" : Str), ("other" : Str)] [("other" : Str), ("k" : Str), ("one" : Str)] pm120 := fun _ _ _ _ _ _ self ws hl => match ws, hl with | [_, _, _], _ => rfl
theorem bik_Said_021 : BdIK "Said.__init__" sI_Said [("self" : Str), ("k" : Str), ("one" : Str), ("other" : Str)] [("k" : Str), ("other" : Str), ("one" : Str)] pm021 := fun _ _ _ _ _ _ self ws hl => match ws, hl with | [_, _, _], _ => rfl
structure HX (P : Program) (w : World) (K : PySem.W.Frag) (mg : Str → Option Value) (base : Heap) (V : XV) : Prop where
  m_SoError : mg "SoError" = some (.ref (V.c 0))
  m_NoText : mg "NoText" = some (.ref (V.c 1))
  z_NoText : Xc P w K mg base "NoText" "NoText.__init__" sI_NoText (V.c 1) [("line" : Str)]
  m_NoProgram : mg "NoProgram" = some (.ref (V.c 2))
  z_NoProgram : Xc0 K mg "NoProgram" (V.c 2)
  m_NoName : mg "NoName" = some (.ref (V.c 3))
  z_NoName : Xc0 K mg "NoName" (V.c 3)
  m_NoWorth : mg "NoWorth" = some (.ref (V.c 4))
  z_NoWorth : Xc0 K mg "NoWorth" (V.c 4)
  m_NoEdit : mg "NoEdit" = some (.ref (V.c 5))
  z_NoEdit : Xc P w K mg base "NoEdit" "NoEdit.__init__" sI_NoEdit (V.c 5) [("k" : Str)]
  m_NotYet : mg "NotYet" = some (.ref (V.c 6))
  z_NotYet : Xc P w K mg base "NotYet" "NotYet.__init__" sI_NotYet (V.c 6) [("many" : Str)]
  m_Busy : mg "Busy" = some (.ref (V.c 7))
  z_Busy : Xc0 K mg "Busy" (V.c 7)
  m_Said : mg "Said" = some (.ref (V.c 8))
  z_Said : Xc P w K mg base "Said" "Said.__init__" sI_Said (V.c 8) [("k" : Str), ("one" : Str), ("other" : Str)]
  m_TooLong : mg "TooLong" = some (.ref (V.c 9))
  z_TooLong : Xc P w K mg base "TooLong" "TooLong.__init__" sI_TooLong (V.c 9) [("most" : Str)]
  m_TooDeep : mg "TooDeep" = some (.ref (V.c 10))
  z_TooDeep : Xc P w K mg base "TooDeep" "TooDeep.__init__" sI_TooDeep (V.c 10) [("deep" : Str)]
  m_NoCell : mg "NoCell" = some (.ref (V.c 11))
  z_NoCell : Xc P w K mg base "NoCell" "NoCell.__init__" sI_NoCell (V.c 11) [("name" : Str)]
  m_NoModule : mg "NoModule" = some (.ref (V.c 12))
  z_NoModule : Xc P w K mg base "NoModule" "NoModule.__init__" sI_NoModule (V.c 12) [("module" : Str)]
  m_NoThing : mg "NoThing" = some (.ref (V.c 13))
  z_NoThing : Xc P w K mg base "NoThing" "NoThing.__init__" sI_NoThing (V.c 13) [("k" : Str)]
  m_NoStep : mg "NoStep" = some (.ref (V.c 14))
  z_NoStep : Xc P w K mg base "NoStep" "NoStep.__init__" sI_NoStep (V.c 14) [("step" : Str)]
  hS : XSub K V.sub
  x_Said : XfC K (V.c 8)
  t_Said_SoError : PySem.W.exmOne K (.ref (V.c 8)) (.ref (V.c 0)) = some true
  x_NoCell : XfC K (V.c 11)
  t_NoCell_NoCell : PySem.W.exmOne K (.ref (V.c 11)) (.ref (V.c 11)) = some true
  x_NoStep : XfC K (V.c 14)
  t_NoStep_NoStep : PySem.W.exmOne K (.ref (V.c 14)) (.ref (V.c 14)) = some true
  e_Said : ExcC K (V.c 8)
  i_Said : (PySem.W.clsIn K (V.c 8)).isSome = true
  k_Said : PySem.W.kitOne K (.ref (V.c 8)) (.ref (V.c 8)) = some true
abbrev st_l_begun : Stmt := top 20
abbrev N_l_begun : List Str := [("_law_script" : Str), ("_law_cell" : Str), ("_law_cells" : Str), ("_law_total" : Str)]
abbrev ps_l_begun : List Str := [("_law_script" : Str)]
theorem sc_l_begun : FnScope N_l_begun ps_l_begun (defScope st_l_begun) := ⟨rfl, rfl, rfl, by decide +kernel, rfl, by decide +kernel, by decide +kernel⟩
theorem bd_l_begun : Bd ("_law_begun" : Str) st_l_begun ps_l_begun := fun _ _ _ _ _ _ us hl => match us, hl with | [_], _ => rfl
def b_l_begun : SF := (sSeq (sPar2 2 3 (cCall fList (aCons (cCut (cVar 0) oNone (oSome (cC (.int 63)))) aNil)) (cC (.int 50021)))
    (sSeq (sFor (iAny (cVar 2)) (gN 1) (sSet 3 (cBin opMod (cBin opAdd (cBin opAdd (cBin opMul (cVar 3) (cC (.int 48271))) (cBin opMod (cVar 1) (cC (.int 2147483563)))) (cC (.int 17))) (cC (.int 2147483629)))))
    (sRet (cLst (aCons (cRev (cVar 2)) (aCons (cVar 3) (aCons (cC (.int 0)) aNil)))))))
def f_l_begun : FN := runB ps_l_begun.length N_l_begun.length (b_l_begun)
abbrev st_l_dealt : Stmt := top 21
abbrev N_l_dealt : List Str := [("_law_hand" : Str), ("_law_lots" : Str), ("_law_cell" : Str), ("_law_mixed" : Str)]
abbrev ps_l_dealt : List Str := [("_law_hand" : Str), ("_law_lots" : Str)]
theorem sc_l_dealt : FnScope N_l_dealt ps_l_dealt (defScope st_l_dealt) := ⟨rfl, rfl, rfl, by decide +kernel, rfl, by decide +kernel, by decide +kernel⟩
theorem bd_l_dealt : Bd ("_law_dealt" : Str) st_l_dealt ps_l_dealt := fun _ _ _ _ _ _ us hl => match us, hl with | [_, _], _ => rfl
def b_l_dealt : SF := (sSeq (sPut (cBin opAdd (cBin opIx (cVar 0) (cC (.int 2))) (cC (.int 1))) (cVar 0) (cC (.int 2)))
    (sSeq (sSet 2 (cBin opIx (cVar 0) (cC (.int 1))))
    (sSeq (sIf (tVal (cBin opNe (cBin opIx (cVar 0) (cC (.int 0))) (cLst aNil)))
      (sSeq (sSet 2 (cMeth "list" mPop (cBin opIx (cVar 0) (cC (.int 0))) aNil))
    (sIf (tVal (cBin opGe (cVar 2) (cBin opPow (cC (.int 10)) (cC (.int 18)))))
      (sSeq (sExpr (cMeth "list" mAppend (cBin opIx (cVar 0) (cC (.int 0))) (aCons (cBin opFdiv (cVar 2) (cVar 1)) aNil)))
    (sRet (cBin opMod (cVar 2) (cVar 1))))
      sPass))
      sPass)
    (sSeq (sSet 3 (cBin opAdd (cBin opAdd (cBin opAdd (cBin opMod (cVar 2) (cC (.int 2147483629))) (cBin opMul (cBin opMul (cC (.int 16807)) (cBin opIx (cVar 0) (cC (.int 2)))) (cBin opIx (cVar 0) (cC (.int 2))))) (cBin opIx (cVar 0) (cC (.int 1)))) (cC (.int 97))))
    (sSeq (sSet 3 (cBin opMod (cBin opMul (cVar 3) (cC (.int 48271))) (cC (.int 2147483647))))
    (sSeq (sSet 3 (cBin opMod (cBin opAdd (cBin opAdd (cBin opMul (cVar 3) (cVar 3)) (cBin opMul (cC (.int 69621)) (cBin opIx (cVar 0) (cC (.int 2))))) (cC (.int 11))) (cC (.int 2147483587))))
    (sRet (cBin opMod (cBin opFdiv (cBin opMod (cBin opMul (cVar 3) (cBin opAdd (cBin opFdiv (cVar 3) (cC (.int 5))) (cC (.int 39373)))) (cC (.int 2147483563))) (cC (.int 128))) (cVar 1)))))))))
def f_l_dealt : FN := runB ps_l_dealt.length N_l_dealt.length (b_l_dealt)
abbrev st_l_pick : Stmt := top 22
abbrev N_l_pick : List Str := [("_law_hand" : Str), ("_law_some" : Str)]
abbrev ps_l_pick : List Str := [("_law_hand" : Str), ("_law_some" : Str)]
theorem sc_l_pick : FnScope N_l_pick ps_l_pick (defScope st_l_pick) := ⟨rfl, rfl, rfl, by decide +kernel, rfl, by decide +kernel, by decide +kernel⟩
theorem bd_l_pick : Bd ("_law_pick" : Str) st_l_pick ps_l_pick := fun _ _ _ _ _ _ us hl => match us, hl with | [_, _], _ => rfl
def b_l_pick : SF := (sRet (cBin opIx (cVar 1) (cFn f_l_dealt (aCons (cVar 0) (aCons (cCall fLen (aCons (cVar 1) aNil)) aNil)))))
def f_l_pick : FN := runB ps_l_pick.length N_l_pick.length (b_l_pick)
abbrev st_l_thing : Stmt := top 23
abbrev N_l_thing : List Str := [("_law_hand" : Str), ("_law_some" : Str)]
abbrev ps_l_thing : List Str := [("_law_hand" : Str)]
theorem sc_l_thing : FnScope N_l_thing ps_l_thing (defScope st_l_thing) := ⟨rfl, rfl, rfl, by decide +kernel, rfl, by decide +kernel, by decide +kernel⟩
theorem bd_l_thing : Bd ("_law_thing" : Str) st_l_thing ps_l_thing := fun _ _ _ _ _ _ us hl => match us, hl with | [_], _ => rfl
def b_l_thing : SF := (sSeq (sSet 1 (cLst (aCons (cC .non) (aCons (cC (.bl true)) (aCons (cC (.int 0)) (aCons (cNeg (cC (.int 1))) (aCons (cC (.int 7)) (aCons (cBin opPow (cC (.int 10)) (cC (.int 39))) (aCons (cC (.str ("" : Str))) (aCons (cC (.str ("main" : Str))) (aCons (cTup (aCons (cC (.str ("row" : Str))) (aCons (cTup (aCons (cC (.int 1)) (aCons (cC (.str ("a" : Str))) aNil))) aNil))) (aCons (cTup aNil) (aCons (cTup (aCons (cC (.str ("told" : Str))) (aCons (cC (.str ("w" : Str))) (aCons (cC (.int 3)) aNil)))) (aCons (cTup (aCons (cC (.str ("thing" : Str))) (aCons (cC (.int 4)) aNil))) aNil))))))))))))))
    (sRet (cFn f_l_pick (aCons (cVar 0) (aCons (cVar 1) aNil)))))
def f_l_thing : FN := runB ps_l_thing.length N_l_thing.length (b_l_thing)
abbrev st_l_all_of : Stmt := top 24
abbrev N_l_all_of : List Str := [("_law_it" : Str), ("_law_found" : Str)]
abbrev ps_l_all_of : List Str := [("_law_it" : Str)]
theorem sc_l_all_of : FnScope N_l_all_of ps_l_all_of (defScope st_l_all_of) := ⟨rfl, rfl, rfl, by decide +kernel, rfl, by decide +kernel, by decide +kernel⟩
theorem bd_l_all_of : Bd ("_law_all_of" : Str) st_l_all_of ps_l_all_of := fun _ _ _ _ _ _ us hl => match us, hl with | [_], _ => rfl
def b_l_all_of (V : XV) : SF := (sSeq (sSet 1 (cLst (aCons (cCall (fIsiX V.sub) (aCons (cVar 0) (aCons (cC (.own (V.c 1))) aNil))) (aCons (cCall (fIsiX V.sub) (aCons (cVar 0) (aCons (cC (.own (V.c 2))) aNil))) (aCons (cCall (fIsiX V.sub) (aCons (cVar 0) (aCons (cC (.own (V.c 3))) aNil))) (aCons (cCall (fIsiX V.sub) (aCons (cVar 0) (aCons (cC (.own (V.c 4))) aNil))) aNil))))))
    (sSeq (sSet 1 (cBin opAdd (cVar 1) (cLst (aCons (cCall (fIsiX V.sub) (aCons (cVar 0) (aCons (cC (.own (V.c 5))) aNil))) (aCons (cCall (fIsiX V.sub) (aCons (cVar 0) (aCons (cC (.own (V.c 6))) aNil))) (aCons (cCall (fIsiX V.sub) (aCons (cVar 0) (aCons (cC (.own (V.c 7))) aNil))) (aCons (cCall (fIsiX V.sub) (aCons (cVar 0) (aCons (cC (.own (V.c 8))) aNil))) aNil)))))))
    (sSeq (sSet 1 (cBin opAdd (cVar 1) (cLst (aCons (cCall (fIsiX V.sub) (aCons (cVar 0) (aCons (cC (.own (V.c 9))) aNil))) (aCons (cCall (fIsiX V.sub) (aCons (cVar 0) (aCons (cC (.own (V.c 10))) aNil))) (aCons (cCall (fIsiX V.sub) (aCons (cVar 0) (aCons (cC (.own (V.c 11))) aNil))) (aCons (cCall (fIsiX V.sub) (aCons (cVar 0) (aCons (cC (.own (V.c 12))) aNil))) aNil)))))))
    (sSeq (sSet 1 (cBin opAdd (cVar 1) (cLst (aCons (cCall (fIsiX V.sub) (aCons (cVar 0) (aCons (cC (.own (V.c 13))) aNil))) (aCons (cCall (fIsiX V.sub) (aCons (cVar 0) (aCons (cC (.own (V.c 14))) aNil))) aNil)))))
    (sSeq (sSet 1 (cBin opAdd (cVar 1) (cLst (aCons (cCall (fIsiX V.sub) (aCons (cVar 0) (aCons (cC (.own (V.c 0))) aNil))) (aCons (cCall (fIsiX V.sub) (aCons (cVar 0) (aCons (cC (.ty "ValueError")) aNil))) (aCons (cCall (fIsiX V.sub) (aCons (cVar 0) (aCons (cC (.ty "KeyError")) aNil))) aNil))))))
    (sRet (cBin opAdd (cVar 1) (cLst (aCons (cCall (fIsiX V.sub) (aCons (cVar 0) (aCons (cC (.ty "IndexError")) aNil))) aNil)))))))))
def f_l_all_of (V : XV) : FN := runB ps_l_all_of.length N_l_all_of.length (b_l_all_of V)
abbrev st_l_made : Stmt := top 25
abbrev N_l_made : List Str := [("_law_it" : Str), ("_law_there" : Str), ("_law_last" : Str), ("_law_found" : Str)]
abbrev ps_l_made : List Str := [("_law_it" : Str), ("_law_there" : Str), ("_law_last" : Str)]
theorem sc_l_made : FnScope N_l_made ps_l_made (defScope st_l_made) := ⟨rfl, rfl, rfl, by decide +kernel, rfl, by decide +kernel, by decide +kernel⟩
theorem bd_l_made : Bd ("_law_made" : Str) st_l_made ps_l_made := fun _ _ _ _ _ _ us hl => match us, hl with | [_, _, _], _ => rfl
def b_l_made (V : XV) : SF := (sSeq (sSet 3 (cLst (aCons (cMk (V.c 1) 1 (aCons (cVar 0) aNil)) (aCons (cMk0 (V.c 2)) (aCons (cMk0 (V.c 3)) (aCons (cMk0 (V.c 4)) (aCons (cMk (V.c 5) 1 (aCons (cVar 0) aNil)) (aCons (cMk (V.c 6) 1 (aCons (cVar 0) aNil)) (aCons (cMk0 (V.c 7)) (aCons (cMk (V.c 8) 3 (aCons (cVar 0) (aCons (cVar 1) (aCons (cVar 2) aNil)))) aNil))))))))))
    (sRet (cBin opAdd (cVar 3) (cLst (aCons (cMk (V.c 9) 1 (aCons (cVar 0) aNil)) (aCons (cMk (V.c 10) 1 (aCons (cVar 0) aNil)) (aCons (cMk (V.c 11) 1 (aCons (cVar 0) aNil)) (aCons (cMk (V.c 12) 1 (aCons (cVar 0) aNil)) (aCons (cMk (V.c 13) 1 (aCons (cVar 0) aNil)) (aCons (cMk (V.c 14) 1 (aCons (cVar 0) aNil)) aNil))))))))))
def f_l_made (V : XV) : FN := runB ps_l_made.length N_l_made.length (b_l_made V)
abbrev st_l_taken : Stmt := top 26
abbrev N_l_taken : List Str := [("_law_it" : Str), ("_law_there" : Str), ("_law_last" : Str), ("_law_found" : Str), ("e" : Str)]
abbrev ps_l_taken : List Str := [("_law_it" : Str), ("_law_there" : Str), ("_law_last" : Str)]
theorem sc_l_taken : FnScope N_l_taken ps_l_taken (defScope st_l_taken) := ⟨rfl, rfl, rfl, by decide +kernel, rfl, by decide +kernel, by decide +kernel⟩
theorem bd_l_taken : Bd ("_law_taken" : Str) st_l_taken ps_l_taken := fun _ _ _ _ _ _ us hl => match us, hl with | [_, _, _], _ => rfl
def b_l_taken (V : XV) : SF := (sSeq (sSet 3 (cLst aNil))
    (sSeq (sTryX 3 (aCons (cVar 0) (aCons (cVar 1) (aCons (cVar 2) aNil))) 4 3 (fun ds => .tup ds))
    (sSeq (sTryX 1 (aCons (cVar 0) aNil) 4 3 (fun ds => ds.headD .non))
    (sSeq (sTryX 1 (aCons (cVar 0) aNil) 4 3 (fun ds => ds.headD .non))
    (sRet (cVar 3))))))
def f_l_taken (V : XV) : FN := runB ps_l_taken.length N_l_taken.length (b_l_taken V)
abbrev st_l_fields_right : Stmt := top 27
abbrev N_l_fields_right : List Str := [("_law_it" : Str), ("_law_there" : Str), ("_law_last" : Str), ("_law_found" : Str), ("_law_named" : Str)]
abbrev ps_l_fields_right : List Str := [("_law_it" : Str), ("_law_there" : Str), ("_law_last" : Str)]
theorem sc_l_fields_right : FnScope N_l_fields_right ps_l_fields_right (defScope st_l_fields_right) := ⟨rfl, rfl, rfl, by decide +kernel, rfl, by decide +kernel, by decide +kernel⟩
theorem bd_l_fields_right : Bd ("_law_fields_right" : Str) st_l_fields_right ps_l_fields_right := fun _ _ _ _ _ _ us hl => match us, hl with | [_, _, _], _ => rfl
def b_l_fields_right (V : XV) : SF := (sSeq (sSet 3 (cLst (aCons (cMkF 1 0 (fun z => z) (aCons (cVar 0) aNil)) (aCons (cMkF 1 0 (fun z => z) (aCons (cVar 0) aNil)) (aCons (cMkF 1 0 (fun z => z) (aCons (cVar 0) aNil)) (aCons (cMkF 1 0 (fun z => z) (aCons (cVar 0) aNil)) (aCons (cMkF 1 0 (fun z => z) (aCons (cVar 0) aNil)) (aCons (cMkF 1 0 (fun z => z) (aCons (cVar 0) aNil)) aNil))))))))
    (sSeq (sSet 3 (cBin opAdd (cVar 3) (cLst (aCons (cMkF 1 0 (fun z => z) (aCons (cVar 0) aNil)) (aCons (cMkF 1 0 (fun z => z) (aCons (cVar 0) aNil)) (aCons (cMkF 1 0 (fun z => z) (aCons (cVar 0) aNil)) (aCons (cMkF 3 0 (fun z => z) (aCons (cVar 0) (aCons (cVar 1) (aCons (cVar 2) aNil)))) aNil)))))))
    (sSeq (sSet 3 (cBin opAdd (cVar 3) (cLst (aCons (cMkF 3 1 (fun z => z) (aCons (cVar 0) (aCons (cVar 1) (aCons (cVar 2) aNil)))) (aCons (cMkF 3 2 (fun z => z) (aCons (cVar 0) (aCons (cVar 1) (aCons (cVar 2) aNil)))) aNil)))))
    (sSeq (sSet 4 (cLst (aCons (cMkF 1 0 pm0 (aCons (cVar 0) aNil)) (aCons (cMkF 1 0 pm0 (aCons (cVar 0) aNil)) (aCons (cMkF 1 0 pm0 (aCons (cVar 0) aNil)) (aCons (cMkF 1 0 pm0 (aCons (cVar 0) aNil)) (aCons (cMkF 1 0 pm0 (aCons (cVar 0) aNil)) aNil)))))))
    (sSeq (sSet 4 (cBin opAdd (cVar 4) (cLst (aCons (cMkF 1 0 pm0 (aCons (cVar 0) aNil)) (aCons (cMkF 1 0 pm0 (aCons (cVar 0) aNil)) (aCons (cMkF 1 0 pm0 (aCons (cVar 0) aNil)) (aCons (cMkF 1 0 pm0 (aCons (cVar 0) aNil)) aNil)))))))
    (sSeq (sSet 4 (cBin opAdd (cVar 4) (cLst (aCons (cMkF 3 0 pm120 (aCons (cVar 2) (aCons (cVar 0) (aCons (cVar 1) aNil)))) (aCons (cMkF 3 1 pm201 (aCons (cVar 1) (aCons (cVar 2) (aCons (cVar 0) aNil)))) aNil)))))
    (sSeq (sExpr (cMeth "list" mAppend (cVar 4) (aCons (cMkF 3 2 pm021 (aCons (cVar 0) (aCons (cVar 2) (aCons (cVar 1) aNil)))) aNil)))
    (sRet (cBin opEq2 (cCall fRepr2 (aCons (cLst (aCons (cVar 3) (aCons (cVar 4) aNil))) aNil)) (cCall fRepr2 (aCons (cBin opMul (cLst (aCons (cBin opAdd (cBin opMul (cLst (aCons (cVar 0) aNil)) (cC (.int 10))) (cLst (aCons (cVar 1) (aCons (cVar 2) aNil)))) aNil)) (cC (.int 2))) aNil)))))))))))
def f_l_fields_right (V : XV) : FN := runB ps_l_fields_right.length N_l_fields_right.length (b_l_fields_right V)
abbrev st_law : Stmt := top 28
abbrev N_law : List Str := [("_law_script" : Str), ("_law_hand" : Str), ("_law_turn" : Str), ("_law_due" : Str), ("_law_it" : Str), ("_law_there" : Str), ("_law_last" : Str), ("_law_number" : Str), ("_law_made_here" : Str), ("_law_place" : Str)]
abbrev ps_law : List Str := [("_law_script" : Str)]
theorem sc_law : FnScope N_law ps_law (defScope st_law) := ⟨rfl, rfl, rfl, by decide +kernel, rfl, by decide +kernel, by decide +kernel⟩
theorem bd_law : Bd ("law" : Str) st_law ps_law := fun _ _ _ _ _ _ us hl => match us, hl with | [_], _ => rfl
def b_law (V : XV) : SF := (sSeq (sSet 1 (cFn f_l_begun (aCons (cVar 0) aNil)))
    (sSeq (sFor (iRange1 (cC (.int 4))) (gN 2) (sSeq (sPar3 4 5 6 (cFn f_l_thing (aCons (cVar 1) aNil)) (cFn f_l_thing (aCons (cVar 1) aNil)) (cFn f_l_thing (aCons (cVar 1) aNil)))
    (sSeq (sIf (tNot' (tVal (cFn (f_l_fields_right V) (aCons (cVar 4) (aCons (cVar 5) (aCons (cVar 6) aNil))))))
      (sRet (cC (.bl false)))
      sPass)
    (sSeq (sSet 3 (cLst (aCons (cTup (aCons (cVar 4) (aCons (cVar 5) (aCons (cVar 6) aNil)))) (aCons (cVar 4) (aCons (cVar 4) aNil)))))
    (sSeq (sIf (tVal (cBin opNe (cCall fRepr2 (aCons (cFn (f_l_taken V) (aCons (cVar 4) (aCons (cVar 5) (aCons (cVar 6) aNil)))) aNil)) (cCall fRepr2 (aCons (cVar 3) aNil))))
      (sRet (cC (.bl false)))
      sPass)
    (sFor (iEnu (cFn (f_l_made V) (aCons (cVar 4) (aCons (cVar 5) (aCons (cVar 6) aNil))))) (gT 2 (gCons' (gN 7) (gCons' (gN 8) gNil'))) (sSeq (sSet 3 (cBin opAdd (cComp (iRange1 (cC (.int 14))) (gN 9) tYes' (cBin opEq2 (cVar 9) (cVar 7)) [9]) (cBin opMul (cLst (aCons (cBin opLt (cVar 7) (cC (.int 10))) aNil)) (cC (.int 2)))))
    (sSeq (sSet 3 (cBin opAdd (cVar 3) (cLst (aCons (cBin opIn2 (cVar 7) (cTup (aCons (cC (.int 10)) (aCons (cC (.int 11)) aNil)))) (aCons (cBin opGt (cVar 7) (cC (.int 11))) aNil)))))
    (sIf (tVal (cBin opNe (cCall fRepr2 (aCons (cFn (f_l_all_of V) (aCons (cVar 8) aNil)) aNil)) (cCall fRepr2 (aCons (cVar 3) aNil))))
      (sRet (cC (.bl false)))
      sPass)))))))))
    (sRet (cBin opEq2 (cCall fRepr2 (aCons (cTup (aCons (cC (.int 2000)) (aCons (cC (.int 10)) (aCons (cC (.int 200)) aNil)))) aNil)) (cCall fRepr2 (aCons (cTup (aCons (cC (.int 2000)) (aCons (cC (.int 10)) (aCons (cC (.int 200)) aNil)))) aNil))))))
def f_law (V : XV) : FN := runB ps_law.length N_law.length (b_law V)
structure Txt (K : PySem.W.Frag) (mg : Str → Option Value) : Prop where
  b_IndexError : mg ("IndexError" : Str) = none
  b_KeyError : mg ("KeyError" : Str) = none
  b_ValueError : mg ("ValueError" : Str) = none
  b_enumerate : mg ("enumerate" : Str) = none
  b_isinstance : mg ("isinstance" : Str) = none
  b_len : mg ("len" : Str) = none
  b_list : mg ("list" : Str) = none
  b_range : mg ("range" : Str) = none
  b_repr : mg ("repr" : Str) = none
  g_DEEP : ∃ u, mg ("DEEP" : Str) = some u ∧ RelV (.int 10) u
  g_KEEP : ∃ u, mg ("KEEP" : Str) = some u ∧ RelV (.int 200) u
  g_MOST : ∃ u, mg ("MOST" : Str) = some u ∧ RelV (.int 2000) u
section
variable {P : Program} {w : World} {K : PySem.W.Frag} {mg : Str → Option Value} {base : Heap} {cls ts : List Addr}
theorem ok_l_begun (T : Txt K mg) {f : Addr} {cdv : Value} {fd : FuncData} (D : Kd K mg ("_law_begun" : Str) st_l_begun f cdv fd) : Ca P w K mg base cls ts 1 ("_law_begun" : Str) st_l_begun ps_l_begun f_l_begun :=
  ⟨f, cdv, fd, D, D.fn sc_l_begun fun A outer s H E hg hr tk =>
    (ss_cons (s_par2 (i := 2) (j := 3) rfl sc_l_begun.nd rfl rfl (by decide) rfl rfl (e_callTy call_list_of list_ok (by rfl) T.b_list boot_list (a_cons (e_cut (e_var 0) o_none (o_some e_int)) a_nil)) e_int rfl)
    (ss_cons (s_for (passes_of rfl) rfl (i_any (e_var 2)) (g_name (i := 1) sc_l_begun.nd rfl (Or.inl rfl)) (ss_one (s_set (i := 3) sc_l_begun.nd rfl (Or.inl rfl) (e_bin op_modN opMod_ok (e_bin op_addM opAdd_ok (e_bin op_addM opAdd_ok (e_bin op_mulM opMul_ok (e_var 3) e_int) (e_bin op_modN opMod_ok (e_var 1) e_int)) e_int) e_int))))
    (ss_one (s_ret (e_lst (a_cons (e_rev (e_var 2)) (a_cons (e_var 3) (a_cons e_int a_nil))))))))⟩
theorem ok_l_dealt (T : Txt K mg) {f : Addr} {cdv : Value} {fd : FuncData} (D : Kd K mg ("_law_dealt" : Str) st_l_dealt f cdv fd) : Ca P w K mg base cls ts 1 ("_law_dealt" : Str) st_l_dealt ps_l_dealt f_l_dealt :=
  ⟨f, cdv, fd, D, D.fn sc_l_dealt fun A outer s H E hg hr tk =>
    (ss_cons (s_put (e_bin op_addM opAdd_ok (e_ix (e_var 0) e_int) e_int) (e_var 0) e_int)
    (ss_cons (s_set (i := 2) sc_l_dealt.nd rfl (Or.inl rfl) (e_ix (e_var 0) e_int))
    (ss_cons (s_if (t_cmp (op_neM hr.units) opNe_ok (e_ix (e_var 0) e_int) (e_lst a_nil) (by rfl))
      (ss_cons (s_set (i := 2) sc_l_dealt.nd rfl (Or.inl rfl) (e_meth0 (.inl rfl) PySem.F.plainAttrs_list PySem.F.slot_list_pop PySem.F.type_list_pop mt_pop pop_ok (e_ix (e_var 0) e_int)))
    (ss_one (s_if (t_cmp op_geM opGe_ok (e_var 2) (e_bin op_pow opPow_ok e_int e_int) (by rfl))
      (ss_cons (s_expr (e_meth (.inl rfl) PySem.F.plainAttrs_list PySem.F.slot_list_append PySem.F.type_list_append mt_append append_ok (e_ix (e_var 0) e_int) (a_cons (e_bin op_fdivN opFdiv_ok (e_var 2) (e_var 1)) a_nil)))
    (ss_one (s_ret (e_bin op_modN opMod_ok (e_var 2) (e_var 1)))))
      ss_nil)))
      ss_nil)
    (ss_cons (s_set (i := 3) sc_l_dealt.nd rfl (Or.inl rfl) (e_bin op_addM opAdd_ok (e_bin op_addM opAdd_ok (e_bin op_addM opAdd_ok (e_bin op_modN opMod_ok (e_var 2) e_int) (e_bin op_mulM opMul_ok (e_bin op_mulM opMul_ok e_int (e_ix (e_var 0) e_int)) (e_ix (e_var 0) e_int))) (e_ix (e_var 0) e_int)) e_int))
    (ss_cons (s_set (i := 3) sc_l_dealt.nd rfl (Or.inl rfl) (e_bin op_modN opMod_ok (e_bin op_mulM opMul_ok (e_var 3) e_int) e_int))
    (ss_cons (s_set (i := 3) sc_l_dealt.nd rfl (Or.inl rfl) (e_bin op_modN opMod_ok (e_bin op_addM opAdd_ok (e_bin op_addM opAdd_ok (e_bin op_mulM opMul_ok (e_var 3) (e_var 3)) (e_bin op_mulM opMul_ok e_int (e_ix (e_var 0) e_int))) e_int) e_int))
    (ss_one (s_ret (e_bin op_modN opMod_ok (e_bin op_fdivN opFdiv_ok (e_bin op_modN opMod_ok (e_bin op_mulM opMul_ok (e_var 3) (e_bin op_addM opAdd_ok (e_bin op_fdivN opFdiv_ok (e_var 3) e_int) e_int)) e_int) e_int) (e_var 1))))))))))⟩
theorem ok_l_pick (T : Txt K mg) (C_l_dealt : Ca P w K mg base cls ts 1 ("_law_dealt" : Str) st_l_dealt ps_l_dealt f_l_dealt) {f : Addr} {cdv : Value} {fd : FuncData} (D : Kd K mg ("_law_pick" : Str) st_l_pick f cdv fd) : Ca P w K mg base cls ts 2 ("_law_pick" : Str) st_l_pick ps_l_pick f_l_pick :=
  ⟨f, cdv, fd, D, D.fn sc_l_pick fun A outer s H E hg hr tk =>
    (ss_one (s_ret (e_ix (e_var 1) (e_ca C_l_dealt bd_l_dealt hg (hr.mono (by decide)) tk (by rfl) (a_cons (e_var 0) (a_cons (e_callB call_lenM len_ok (by rfl) T.b_len PySem.boot_len (a_cons (e_var 1) a_nil)) a_nil))))))⟩
theorem ok_l_thing (T : Txt K mg) (C_l_pick : Ca P w K mg base cls ts 2 ("_law_pick" : Str) st_l_pick ps_l_pick f_l_pick) {f : Addr} {cdv : Value} {fd : FuncData} (D : Kd K mg ("_law_thing" : Str) st_l_thing f cdv fd) : Ca P w K mg base cls ts 3 ("_law_thing" : Str) st_l_thing ps_l_thing f_l_thing :=
  ⟨f, cdv, fd, D, D.fn sc_l_thing fun A outer s H E hg hr tk =>
    (ss_cons (s_set (i := 1) sc_l_thing.nd rfl (Or.inl rfl) (e_lst (a_cons e_non (a_cons e_bl (a_cons e_int (a_cons (e_neg e_int) (a_cons e_int (a_cons (e_bin op_pow opPow_ok e_int e_int) (a_cons e_str (a_cons e_str (a_cons (e_tup (a_cons e_str (a_cons (e_tup (a_cons e_int (a_cons e_str a_nil))) a_nil))) (a_cons (e_tup a_nil) (a_cons (e_tup (a_cons e_str (a_cons e_str (a_cons e_int a_nil)))) (a_cons (e_tup (a_cons e_str (a_cons e_int a_nil))) a_nil))))))))))))))
    (ss_one (s_ret (e_ca C_l_pick bd_l_pick hg (hr.mono (by decide)) tk (by rfl) (a_cons (e_var 0) (a_cons (e_var 1) a_nil))))))⟩
theorem ok_l_all_of (T : Txt K mg) {V : XV} (hX : HX P w K mg base V) {f : Addr} {cdv : Value} {fd : FuncData} (D : Kd K mg ("_law_all_of" : Str) st_l_all_of f cdv fd) : Ca P w K mg base cls ts 3 ("_law_all_of" : Str) st_l_all_of ps_l_all_of (f_l_all_of V) :=
  ⟨f, cdv, fd, D, D.fn sc_l_all_of fun A outer s H E hg hr tk =>
    (ss_cons (s_set (i := 1) sc_l_all_of.nd rfl (Or.inl rfl) (e_lst (a_cons (e_callB call_isX (isx_ok hX.hS) (by rfl) T.b_isinstance (by decide +kernel) (a_cons (e_var 0) (a_cons (e_fun (by rfl) hX.m_NoText) a_nil))) (a_cons (e_callB call_isX (isx_ok hX.hS) (by rfl) T.b_isinstance (by decide +kernel) (a_cons (e_var 0) (a_cons (e_fun (by rfl) hX.m_NoProgram) a_nil))) (a_cons (e_callB call_isX (isx_ok hX.hS) (by rfl) T.b_isinstance (by decide +kernel) (a_cons (e_var 0) (a_cons (e_fun (by rfl) hX.m_NoName) a_nil))) (a_cons (e_callB call_isX (isx_ok hX.hS) (by rfl) T.b_isinstance (by decide +kernel) (a_cons (e_var 0) (a_cons (e_fun (by rfl) hX.m_NoWorth) a_nil))) a_nil))))))
    (ss_cons (s_set (i := 1) sc_l_all_of.nd rfl (Or.inl rfl) (e_bin op_addM opAdd_ok (e_var 1) (e_lst (a_cons (e_callB call_isX (isx_ok hX.hS) (by rfl) T.b_isinstance (by decide +kernel) (a_cons (e_var 0) (a_cons (e_fun (by rfl) hX.m_NoEdit) a_nil))) (a_cons (e_callB call_isX (isx_ok hX.hS) (by rfl) T.b_isinstance (by decide +kernel) (a_cons (e_var 0) (a_cons (e_fun (by rfl) hX.m_NotYet) a_nil))) (a_cons (e_callB call_isX (isx_ok hX.hS) (by rfl) T.b_isinstance (by decide +kernel) (a_cons (e_var 0) (a_cons (e_fun (by rfl) hX.m_Busy) a_nil))) (a_cons (e_callB call_isX (isx_ok hX.hS) (by rfl) T.b_isinstance (by decide +kernel) (a_cons (e_var 0) (a_cons (e_fun (by rfl) hX.m_Said) a_nil))) a_nil)))))))
    (ss_cons (s_set (i := 1) sc_l_all_of.nd rfl (Or.inl rfl) (e_bin op_addM opAdd_ok (e_var 1) (e_lst (a_cons (e_callB call_isX (isx_ok hX.hS) (by rfl) T.b_isinstance (by decide +kernel) (a_cons (e_var 0) (a_cons (e_fun (by rfl) hX.m_TooLong) a_nil))) (a_cons (e_callB call_isX (isx_ok hX.hS) (by rfl) T.b_isinstance (by decide +kernel) (a_cons (e_var 0) (a_cons (e_fun (by rfl) hX.m_TooDeep) a_nil))) (a_cons (e_callB call_isX (isx_ok hX.hS) (by rfl) T.b_isinstance (by decide +kernel) (a_cons (e_var 0) (a_cons (e_fun (by rfl) hX.m_NoCell) a_nil))) (a_cons (e_callB call_isX (isx_ok hX.hS) (by rfl) T.b_isinstance (by decide +kernel) (a_cons (e_var 0) (a_cons (e_fun (by rfl) hX.m_NoModule) a_nil))) a_nil)))))))
    (ss_cons (s_set (i := 1) sc_l_all_of.nd rfl (Or.inl rfl) (e_bin op_addM opAdd_ok (e_var 1) (e_lst (a_cons (e_callB call_isX (isx_ok hX.hS) (by rfl) T.b_isinstance (by decide +kernel) (a_cons (e_var 0) (a_cons (e_fun (by rfl) hX.m_NoThing) a_nil))) (a_cons (e_callB call_isX (isx_ok hX.hS) (by rfl) T.b_isinstance (by decide +kernel) (a_cons (e_var 0) (a_cons (e_fun (by rfl) hX.m_NoStep) a_nil))) a_nil)))))
    (ss_cons (s_set (i := 1) sc_l_all_of.nd rfl (Or.inl rfl) (e_bin op_addM opAdd_ok (e_var 1) (e_lst (a_cons (e_callB call_isX (isx_ok hX.hS) (by rfl) T.b_isinstance (by decide +kernel) (a_cons (e_var 0) (a_cons (e_fun (by rfl) hX.m_SoError) a_nil))) (a_cons (e_callB call_isX (isx_ok hX.hS) (by rfl) T.b_isinstance (by decide +kernel) (a_cons (e_var 0) (a_cons (e_bty (by rfl) T.b_ValueError (by decide +kernel)) a_nil))) (a_cons (e_callB call_isX (isx_ok hX.hS) (by rfl) T.b_isinstance (by decide +kernel) (a_cons (e_var 0) (a_cons (e_bty (by rfl) T.b_KeyError (by decide +kernel)) a_nil))) a_nil))))))
    (ss_one (s_ret (e_bin op_addM opAdd_ok (e_var 1) (e_lst (a_cons (e_callB call_isX (isx_ok hX.hS) (by rfl) T.b_isinstance (by decide +kernel) (a_cons (e_var 0) (a_cons (e_bty (by rfl) T.b_IndexError (by decide +kernel)) a_nil))) a_nil))))))))))⟩
theorem ok_l_made (T : Txt K mg) {V : XV} (hX : HX P w K mg base V) {f : Addr} {cdv : Value} {fd : FuncData} (D : Kd K mg ("_law_made" : Str) st_l_made f cdv fd) : Ca P w K mg base cls ts 3 ("_law_made" : Str) st_l_made ps_l_made (f_l_made V) :=
  ⟨f, cdv, fd, D, D.fn sc_l_made fun A outer s H E hg hr tk =>
    (ss_cons (s_set (i := 3) sc_l_made.nd rfl (Or.inl rfl) (e_lst (a_cons (e_xmk hX.z_NoText bi_NoText (by decide) (hr.mono (by decide)) (by rfl) (a_cons (e_var 0) a_nil)) (a_cons (e_xmk0 hX.z_NoProgram (by rfl)) (a_cons (e_xmk0 hX.z_NoName (by rfl)) (a_cons (e_xmk0 hX.z_NoWorth (by rfl)) (a_cons (e_xmk hX.z_NoEdit bi_NoEdit (by decide) (hr.mono (by decide)) (by rfl) (a_cons (e_var 0) a_nil)) (a_cons (e_xmk hX.z_NotYet bi_NotYet (by decide) (hr.mono (by decide)) (by rfl) (a_cons (e_var 0) a_nil)) (a_cons (e_xmk0 hX.z_Busy (by rfl)) (a_cons (e_xmk hX.z_Said bi_Said (by decide) (hr.mono (by decide)) (by rfl) (a_cons (e_var 0) (a_cons (e_var 1) (a_cons (e_var 2) a_nil)))) a_nil))))))))))
    (ss_one (s_ret (e_bin op_addM opAdd_ok (e_var 3) (e_lst (a_cons (e_xmk hX.z_TooLong bi_TooLong (by decide) (hr.mono (by decide)) (by rfl) (a_cons (e_var 0) a_nil)) (a_cons (e_xmk hX.z_TooDeep bi_TooDeep (by decide) (hr.mono (by decide)) (by rfl) (a_cons (e_var 0) a_nil)) (a_cons (e_xmk hX.z_NoCell bi_NoCell (by decide) (hr.mono (by decide)) (by rfl) (a_cons (e_var 0) a_nil)) (a_cons (e_xmk hX.z_NoModule bi_NoModule (by decide) (hr.mono (by decide)) (by rfl) (a_cons (e_var 0) a_nil)) (a_cons (e_xmk hX.z_NoThing bi_NoThing (by decide) (hr.mono (by decide)) (by rfl) (a_cons (e_var 0) a_nil)) (a_cons (e_xmk hX.z_NoStep bi_NoStep (by decide) (hr.mono (by decide)) (by rfl) (a_cons (e_var 0) a_nil)) a_nil)))))))))))⟩
theorem ok_l_taken (T : Txt K mg) {V : XV} (hX : HX P w K mg base V) {f : Addr} {cdv : Value} {fd : FuncData} (D : Kd K mg ("_law_taken" : Str) st_l_taken f cdv fd) : Ca P w K mg base cls ts 3 ("_law_taken" : Str) st_l_taken ps_l_taken (f_l_taken V) :=
  ⟨f, cdv, fd, D, D.fn sc_l_taken fun A outer s H E hg hr tk =>
    (ss_cons (s_set (i := 3) sc_l_taken.nd rfl (Or.inl rfl) (e_lst a_nil))
    (ss_cons (s_tryX (i := 4) (k := 3) (GV := GV3) (tsu := fun a cls' d => tDrop (tBM K "list" rAppend (tVar 3) (tCons (tIf (tB (tCB (rIsS K a cls' d) (tCons (tVar 4) (tCons (tC (.ref (V.c 8))) tNil)))) (tTup (tCons (tXf a cls' d (V.c 8) ("k" : Str) (tVar 4)) (tCons (tXf a cls' d (V.c 8) ("one" : Str) (tVar 4)) (tCons (tXf a cls' d (V.c 8) ("other" : Str) (tVar 4)) tNil)))) (tC (.str "odd"))) tNil))) rfl rfl rfl sc_l_taken.nd rfl rfl ⟨by rfl, by decide, .inl hX.m_SoError⟩ hX.t_Said_SoError hX.z_Said bi_Said (by decide) (hr.mono (by decide)) (by rfl) (fun pn xe => (a_cons (e_var 0) (a_cons (e_var 1) (a_cons (e_var 2) a_nil)))) (fun a oe cls' d pn hz hf => pss_one (ps_expr (by exact (pe_bm PySem.F.plainAttrs_list PySem.F.slot_list_append PySem.F.type_list_append mt_append (pv 3) (pa_cons (by exact (pe_ifExp (pt_val (pe_callB (call_isS hz hf) (by rfl) T.b_isinstance (by decide +kernel) (pa_cons (pv 4) (pa_cons (pe_glob (v := .ref (V.c 8)) (by rfl) hX.m_Said rfl) pa_nil)))) (pe_tup (pa_cons (pe_xf hX.x_Said (hX.z_Said.nf _ (by simp)) hz hf (pv 4)) (pa_cons (pe_xf hX.x_Said (hX.z_Said.nf _ (by simp)) hz hf (pv 4)) (pa_cons (pe_xf hX.x_Said (hX.z_Said.nf _ (by simp)) hz hf (pv 4)) pa_nil)))) pe_str)) pa_nil))))) (fun a dd l σ H D vs us hi hk hl hz hd hv kq => match vs, hv with | [v1, v2, v3], _ => hT_three hX.e_Said hX.i_Said hX.k_Said (by decide) hi hk hl hz hd (fun p np => (kq (.ref p) _ ⟨p, np, rfl, rfl⟩).2)) (fun ρ H h vs ds v H' hH rv _ gv => hR3 hH rv gv))
    (ss_cons (s_tryX (i := 4) (k := 3) (GV := GV1) (tsu := fun a cls' d => tDrop (tBM K "list" rAppend (tVar 3) (tCons (tXf a cls' d (V.c 11) ("name" : Str) (tVar 4)) tNil))) rfl rfl rfl sc_l_taken.nd rfl rfl ⟨by rfl, by decide, .inl hX.m_NoCell⟩ hX.t_NoCell_NoCell hX.z_NoCell bi_NoCell (by decide) (hr.mono (by decide)) (by rfl) (fun pn xe => (a_cons (e_var 0) a_nil)) (fun a oe cls' d pn hz hf => pss_one (ps_expr (by exact (pe_bm PySem.F.plainAttrs_list PySem.F.slot_list_append PySem.F.type_list_append mt_append (pv 3) (pa_cons (by exact (pe_xf hX.x_NoCell (hX.z_NoCell.nf _ (by simp)) hz hf (pv 4))) pa_nil))))) (fun a dd l σ H D vs us hi hk hl hz hd hv kq => match vs, hv with | [v], _ => hT_one hi hk hl hz hd (kq v H ⟨rfl, rfl⟩).2) (fun ρ H h vs ds v H' hH rv _ gv => hR1 hH rv gv))
    (ss_cons (s_tryX (i := 4) (k := 3) (GV := GV1) (tsu := fun a cls' d => tDrop (tBM K "list" rAppend (tVar 3) (tCons (tXf a cls' d (V.c 14) ("step" : Str) (tVar 4)) tNil))) rfl rfl rfl sc_l_taken.nd rfl rfl ⟨by rfl, by decide, .inl hX.m_NoStep⟩ hX.t_NoStep_NoStep hX.z_NoStep bi_NoStep (by decide) (hr.mono (by decide)) (by rfl) (fun pn xe => (a_cons (e_var 0) a_nil)) (fun a oe cls' d pn hz hf => pss_one (ps_expr (by exact (pe_bm PySem.F.plainAttrs_list PySem.F.slot_list_append PySem.F.type_list_append mt_append (pv 3) (pa_cons (by exact (pe_xf hX.x_NoStep (hX.z_NoStep.nf _ (by simp)) hz hf (pv 4))) pa_nil))))) (fun a dd l σ H D vs us hi hk hl hz hd hv kq => match vs, hv with | [v], _ => hT_one hi hk hl hz hd (kq v H ⟨rfl, rfl⟩).2) (fun ρ H h vs ds v H' hH rv _ gv => hR1 hH rv gv))
    (ss_one (s_ret (e_var 3)))))))⟩
theorem ok_l_fields_right (T : Txt K mg) {V : XV} (hX : HX P w K mg base V) {f : Addr} {cdv : Value} {fd : FuncData} (D : Kd K mg ("_law_fields_right" : Str) st_l_fields_right f cdv fd) : Ca P w K mg base cls ts 3 ("_law_fields_right" : Str) st_l_fields_right ps_l_fields_right (f_l_fields_right V) :=
  ⟨f, cdv, fd, D, D.fn sc_l_fields_right fun A outer s H E hg hr tk =>
    (ss_cons (s_set (i := 3) sc_l_fields_right.nd rfl (Or.inl rfl) (e_lst (a_cons (e_xmkF (i := 0) hX.z_NoText bi_NoText (by decide) (by decide) rfl (hr.mono (by decide)) (by rfl) (a_cons (e_var 0) a_nil)) (a_cons (e_xmkF (i := 0) hX.z_NoEdit bi_NoEdit (by decide) (by decide) rfl (hr.mono (by decide)) (by rfl) (a_cons (e_var 0) a_nil)) (a_cons (e_xmkF (i := 0) hX.z_NotYet bi_NotYet (by decide) (by decide) rfl (hr.mono (by decide)) (by rfl) (a_cons (e_var 0) a_nil)) (a_cons (e_xmkF (i := 0) hX.z_TooLong bi_TooLong (by decide) (by decide) rfl (hr.mono (by decide)) (by rfl) (a_cons (e_var 0) a_nil)) (a_cons (e_xmkF (i := 0) hX.z_TooDeep bi_TooDeep (by decide) (by decide) rfl (hr.mono (by decide)) (by rfl) (a_cons (e_var 0) a_nil)) (a_cons (e_xmkF (i := 0) hX.z_NoCell bi_NoCell (by decide) (by decide) rfl (hr.mono (by decide)) (by rfl) (a_cons (e_var 0) a_nil)) a_nil))))))))
    (ss_cons (s_set (i := 3) sc_l_fields_right.nd rfl (Or.inl rfl) (e_bin op_addM opAdd_ok (e_var 3) (e_lst (a_cons (e_xmkF (i := 0) hX.z_NoModule bi_NoModule (by decide) (by decide) rfl (hr.mono (by decide)) (by rfl) (a_cons (e_var 0) a_nil)) (a_cons (e_xmkF (i := 0) hX.z_NoThing bi_NoThing (by decide) (by decide) rfl (hr.mono (by decide)) (by rfl) (a_cons (e_var 0) a_nil)) (a_cons (e_xmkF (i := 0) hX.z_NoStep bi_NoStep (by decide) (by decide) rfl (hr.mono (by decide)) (by rfl) (a_cons (e_var 0) a_nil)) (a_cons (e_xmkF (i := 0) hX.z_Said bi_Said (by decide) (by decide) rfl (hr.mono (by decide)) (by rfl) (a_cons (e_var 0) (a_cons (e_var 1) (a_cons (e_var 2) a_nil)))) a_nil)))))))
    (ss_cons (s_set (i := 3) sc_l_fields_right.nd rfl (Or.inl rfl) (e_bin op_addM opAdd_ok (e_var 3) (e_lst (a_cons (e_xmkF (i := 1) hX.z_Said bi_Said (by decide) (by decide) rfl (hr.mono (by decide)) (by rfl) (a_cons (e_var 0) (a_cons (e_var 1) (a_cons (e_var 2) a_nil)))) (a_cons (e_xmkF (i := 2) hX.z_Said bi_Said (by decide) (by decide) rfl (hr.mono (by decide)) (by rfl) (a_cons (e_var 0) (a_cons (e_var 1) (a_cons (e_var 2) a_nil)))) a_nil)))))
    (ss_cons (s_set (i := 4) sc_l_fields_right.nd rfl (Or.inl rfl) (e_lst (a_cons (e_xmkFK (i := 0) (gv := pm0) (gV := pm0) (gD := pm0) hX.z_NoText bik_NoText_0 (by decide) rfl (hr.mono (by decide)) (by rfl) pmV0 (fun _ _ => pmD0) (k_cons (e_var 0) k_nil) (aLenS aLen0)) (a_cons (e_xmkFK (i := 0) (gv := pm0) (gV := pm0) (gD := pm0) hX.z_NoEdit bik_NoEdit_0 (by decide) rfl (hr.mono (by decide)) (by rfl) pmV0 (fun _ _ => pmD0) (k_cons (e_var 0) k_nil) (aLenS aLen0)) (a_cons (e_xmkFK (i := 0) (gv := pm0) (gV := pm0) (gD := pm0) hX.z_NotYet bik_NotYet_0 (by decide) rfl (hr.mono (by decide)) (by rfl) pmV0 (fun _ _ => pmD0) (k_cons (e_var 0) k_nil) (aLenS aLen0)) (a_cons (e_xmkFK (i := 0) (gv := pm0) (gV := pm0) (gD := pm0) hX.z_TooLong bik_TooLong_0 (by decide) rfl (hr.mono (by decide)) (by rfl) pmV0 (fun _ _ => pmD0) (k_cons (e_var 0) k_nil) (aLenS aLen0)) (a_cons (e_xmkFK (i := 0) (gv := pm0) (gV := pm0) (gD := pm0) hX.z_TooDeep bik_TooDeep_0 (by decide) rfl (hr.mono (by decide)) (by rfl) pmV0 (fun _ _ => pmD0) (k_cons (e_var 0) k_nil) (aLenS aLen0)) a_nil)))))))
    (ss_cons (s_set (i := 4) sc_l_fields_right.nd rfl (Or.inl rfl) (e_bin op_addM opAdd_ok (e_var 4) (e_lst (a_cons (e_xmkFK (i := 0) (gv := pm0) (gV := pm0) (gD := pm0) hX.z_NoCell bik_NoCell_0 (by decide) rfl (hr.mono (by decide)) (by rfl) pmV0 (fun _ _ => pmD0) (k_cons (e_var 0) k_nil) (aLenS aLen0)) (a_cons (e_xmkFK (i := 0) (gv := pm0) (gV := pm0) (gD := pm0) hX.z_NoModule bik_NoModule_0 (by decide) rfl (hr.mono (by decide)) (by rfl) pmV0 (fun _ _ => pmD0) (k_cons (e_var 0) k_nil) (aLenS aLen0)) (a_cons (e_xmkFK (i := 0) (gv := pm0) (gV := pm0) (gD := pm0) hX.z_NoThing bik_NoThing_0 (by decide) rfl (hr.mono (by decide)) (by rfl) pmV0 (fun _ _ => pmD0) (k_cons (e_var 0) k_nil) (aLenS aLen0)) (a_cons (e_xmkFK (i := 0) (gv := pm0) (gV := pm0) (gD := pm0) hX.z_NoStep bik_NoStep_0 (by decide) rfl (hr.mono (by decide)) (by rfl) pmV0 (fun _ _ => pmD0) (k_cons (e_var 0) k_nil) (aLenS aLen0)) a_nil)))))))
    (ss_cons (s_set (i := 4) sc_l_fields_right.nd rfl (Or.inl rfl) (e_bin op_addM opAdd_ok (e_var 4) (e_lst (a_cons (e_xmkFK (i := 0) (gv := pm120) (gV := pm120) (gD := pm120) hX.z_Said bik_Said_120 (by decide) rfl (hr.mono (by decide)) (by rfl) pmV120 (fun _ _ => pmD120) (k_cons (e_var 2) (k_cons (e_var 0) (k_cons (e_var 1) k_nil))) (aLenS (aLenS (aLenS aLen0)))) (a_cons (e_xmkFK (i := 1) (gv := pm201) (gV := pm201) (gD := pm201) hX.z_Said bik_Said_201 (by decide) rfl (hr.mono (by decide)) (by rfl) pmV201 (fun _ _ => pmD201) (k_cons (e_var 1) (k_cons (e_var 2) (k_cons (e_var 0) k_nil))) (aLenS (aLenS (aLenS aLen0)))) a_nil)))))
    (ss_cons (s_expr (e_meth (.inl rfl) PySem.F.plainAttrs_list PySem.F.slot_list_append PySem.F.type_list_append mt_append append_ok (e_var 4) (a_cons (e_xmkFK (i := 2) (gv := pm021) (gV := pm021) (gD := pm021) hX.z_Said bik_Said_021 (by decide) rfl (hr.mono (by decide)) (by rfl) pmV021 (fun _ _ => pmD021) (k_cons (e_var 0) (k_cons (e_var 2) (k_cons (e_var 1) k_nil))) (aLenS (aLenS (aLenS aLen0)))) a_nil)))
    (ss_one (s_ret (e_cmp (op_eq2 hr.units) opEq2_ok (e_callB (call_reprX hg hr.units) repr_ok2 (by rfl) T.b_repr (by decide +kernel) (a_cons (e_lst (a_cons (e_var 3) (a_cons (e_var 4) a_nil))) a_nil)) (e_callB (call_reprX hg hr.units) repr_ok2 (by rfl) T.b_repr (by decide +kernel) (a_cons (e_bin op_mulM opMul_ok (e_lst (a_cons (e_bin op_addM opAdd_ok (e_bin op_mulM opMul_ok (e_lst (a_cons (e_var 0) a_nil)) e_int) (e_lst (a_cons (e_var 1) (a_cons (e_var 2) a_nil)))) a_nil)) e_int) a_nil)) (by rfl)))))))))))⟩
theorem fn_law (T : Txt K mg) {V : XV} (hX : HX P w K mg base V) (C_l_begun : Ca P w K mg base cls ts 1 ("_law_begun" : Str) st_l_begun ps_l_begun f_l_begun) (C_l_thing : Ca P w K mg base cls ts 3 ("_law_thing" : Str) st_l_thing ps_l_thing f_l_thing) (C_l_fields_right : Ca P w K mg base cls ts 3 ("_law_fields_right" : Str) st_l_fields_right ps_l_fields_right (f_l_fields_right V)) (C_l_taken : Ca P w K mg base cls ts 3 ("_law_taken" : Str) st_l_taken ps_l_taken (f_l_taken V)) (C_l_made : Ca P w K mg base cls ts 3 ("_law_made" : Str) st_l_made ps_l_made (f_l_made V)) (C_l_all_of : Ca P w K mg base cls ts 3 ("_law_all_of" : Str) st_l_all_of ps_l_all_of (f_l_all_of V)) {f : Addr} {cdv : Value} {fd : FuncData} (D : Kd K mg ("law" : Str) st_law f cdv fd) : FnG P w K mg base cls ts 4 f fd ps_law (f_law V) :=
  D.fn sc_law fun A outer s H E hg hr tk =>
    (ss_cons (s_set (i := 1) sc_law.nd rfl (Or.inl rfl) (e_ca C_l_begun bd_l_begun hg (hr.mono (by decide)) tk (by rfl) (a_cons (e_var 0) a_nil)))
    (ss_cons (s_for (passes_of rfl) rfl (i_range1 (by rfl) T.b_range e_int) (g_name (i := 2) sc_law.nd rfl (Or.inl rfl)) (ss_cons (s_par3 (i := 4) (j := 5) (k := 6) rfl sc_law.nd rfl rfl rfl (by decide) (by decide) (by decide) rfl rfl rfl (e_ca C_l_thing bd_l_thing hg (hr.mono (by decide)) tk (by rfl) (a_cons (e_var 1) a_nil)) (e_ca C_l_thing bd_l_thing hg (hr.mono (by decide)) tk (by rfl) (a_cons (e_var 1) a_nil)) (e_ca C_l_thing bd_l_thing hg (hr.mono (by decide)) tk (by rfl) (a_cons (e_var 1) a_nil)) rfl)
    (ss_cons (s_if (t_not (t_val (e_ca C_l_fields_right bd_l_fields_right hg (hr.mono (by decide)) tk (by rfl) (a_cons (e_var 4) (a_cons (e_var 5) (a_cons (e_var 6) a_nil))))))
      (ss_one (s_ret e_bl))
      ss_nil)
    (ss_cons (s_set (i := 3) sc_law.nd rfl (Or.inl rfl) (e_lst (a_cons (e_tup (a_cons (e_var 4) (a_cons (e_var 5) (a_cons (e_var 6) a_nil)))) (a_cons (e_var 4) (a_cons (e_var 4) a_nil)))))
    (ss_cons (s_if (t_cmp (op_neM hr.units) opNe_ok (e_callB (call_reprX hg hr.units) repr_ok2 (by rfl) T.b_repr (by decide +kernel) (a_cons (e_ca C_l_taken bd_l_taken hg (hr.mono (by decide)) tk (by rfl) (a_cons (e_var 4) (a_cons (e_var 5) (a_cons (e_var 6) a_nil)))) a_nil)) (e_callB (call_reprX hg hr.units) repr_ok2 (by rfl) T.b_repr (by decide +kernel) (a_cons (e_var 3) a_nil)) (by rfl))
      (ss_one (s_ret e_bl))
      ss_nil)
    (ss_one (s_for (passes_of rfl) rfl (i_enu (by rfl) T.b_enumerate (e_ca C_l_made bd_l_made hg (hr.mono (by decide)) tk (by rfl) (a_cons (e_var 4) (a_cons (e_var 5) (a_cons (e_var 6) a_nil))))) (g_tup rfl (gs_cons (g_name (i := 7) sc_law.nd rfl (Or.inr rfl)) (gs_cons (g_name (i := 8) sc_law.nd rfl (Or.inl rfl)) gs_nil))) (ss_cons (s_set (i := 3) sc_law.nd rfl (Or.inl rfl) (e_bin op_addM opAdd_ok (e_comp (own := [(("_law_place" : Str), 9)]) rfl sc_law.nd (i_range1 (by rfl) T.b_range e_int) (blkOk_by (N := N_law) (sc := defScope st_law) (by decide +kernel)) (by decide) (fun _ _ _ _ _ => (g_name (i := 9) sc_law.nd rfl (Or.inl rfl))) (fun _ _ _ _ _ => ts_nil) (fun _ _ _ _ _ => (e_cmp (op_eq2 hr.units) opEq2_ok (e_var 9) (e_var 7) (by rfl)))) (e_bin op_mulM opMul_ok (e_lst (a_cons (e_cmp op_ltM opLt_ok (e_var 7) e_int (by rfl)) a_nil)) e_int)))
    (ss_cons (s_set (i := 3) sc_law.nd rfl (Or.inl rfl) (e_bin op_addM opAdd_ok (e_var 3) (e_lst (a_cons (e_cmp (op_in2 (hu65 hr)) opIn2_ok (e_var 7) (e_tup (a_cons e_int (a_cons e_int a_nil))) (by rfl)) (a_cons (e_cmp op_gtM opGt_ok (e_var 7) e_int (by rfl)) a_nil)))))
    (ss_one (s_if (t_cmp (op_neM hr.units) opNe_ok (e_callB (call_reprX hg hr.units) repr_ok2 (by rfl) T.b_repr (by decide +kernel) (a_cons (e_ca C_l_all_of bd_l_all_of hg (hr.mono (by decide)) tk (by rfl) (a_cons (e_var 8) a_nil)) a_nil)) (e_callB (call_reprX hg hr.units) repr_ok2 (by rfl) T.b_repr (by decide +kernel) (a_cons (e_var 3) a_nil)) (by rfl))
      (ss_one (s_ret e_bl))
      ss_nil)))))))))))
    (ss_one (s_ret (e_cmp (op_eq2 hr.units) opEq2_ok (e_callB (call_reprX hg hr.units) repr_ok2 (by rfl) T.b_repr (by decide +kernel) (a_cons (e_tup (a_cons (e_globE (by rfl) T.g_MOST) (a_cons (e_globE (by rfl) T.g_DEEP) (a_cons (e_globE (by rfl) T.g_KEEP) a_nil)))) a_nil)) (e_callB (call_reprX hg hr.units) repr_ok2 (by rfl) T.b_repr (by decide +kernel) (a_cons (e_tup (a_cons e_int (a_cons e_int (a_cons e_int a_nil)))) a_nil)) (by rfl))))))
end
end K06

namespace K06
open Mi L2 PySem PySem.Spec PyProof.Rows
/-! ### texts of data -/
theorem pdx_pre {h h' : AH} (p : h <+: h') : ∀ (n : Nat) (d : D) (q : PyData), pdx n h d = some q → pdx n h' d = some q := by
  intro n
  induction n with
  | zero =>
    intro d q e
    cases d <;> simp only [pdx] at e ⊢ <;> first | exact e | cases e
  | succ n ih =>
    intro d q e
    cases d with
    | tup xs =>
      simp only [pdx, Option.map_eq_some_iff] at e ⊢
      obtain ⟨ps, z, rfl⟩ := e
      exact ⟨ps, omap_imp ih z, rfl⟩
    | ref r =>
      simp only [pdx] at e ⊢
      split at e <;> first | (cases e; done) | skip
      · rename_i xs q1
        rw [getElem_pre p q1]
        obtain ⟨ps, z, rfl⟩ := Option.map_eq_some_iff.mp e
        exact Option.map_eq_some_iff.mpr ⟨ps, omap_imp ih z, rfl⟩
      · rename_i kvs q1
        rw [getElem_pre p q1]
        obtain ⟨ps, z, rfl⟩ := Option.map_eq_some_iff.mp e
        exact Option.map_eq_some_iff.mpr ⟨ps, omap_imp ih z, rfl⟩
    | _ => simp only [pdx] at e ⊢ <;> first | exact e | cases e
theorem reprX_pre {h h' : AH} (p : h <+: h') {d : D} {s : Str} (e : reprX d h = some s) : reprX d h' = some s := by
  unfold reprX at e ⊢
  cases q : pdx 60 h d with
  | none => rw [q] at e; cases e
  | some x =>
    rw [q] at e
    rw [pdx_pre p _ _ _ q]
    exact e
theorem pdx_up {h : AH} : ∀ (n : Nat) (d : D) (p : PyData), pdx n h d = some p → pdx (n + 1) h d = some p := by
  intro n
  induction n with
  | zero => intro d p e; cases d <;> simp only [pdx] at e ⊢ <;> first | exact e | cases e
  | succ n ih =>
    intro d p e
    cases d with
    | tup xs =>
      rw [pdx, Option.map_eq_some_iff] at e
      obtain ⟨ps, z, rfl⟩ := e
      rw [pdx, omap_imp ih z]
      rfl
    | ref r =>
      rw [pdx] at e ⊢
      split at e <;> first | (cases e; done) | skip
      · rename_i xs q1
        obtain ⟨ps, z, rfl⟩ := Option.map_eq_some_iff.mp e
        simp only [omap_imp ih z]
        rfl
      · rename_i kvs q1
        obtain ⟨ps, z, rfl⟩ := Option.map_eq_some_iff.mp e
        simp only [omap_imp ih z]
        rfl
    | _ => simp only [pdx] at e ⊢ <;> first | exact e | cases e
theorem pdx_le {h : AH} {n : Nat} {d : D} {p : PyData} (e : pdx n h d = some p) : ∀ m, n ≤ m → pdx m h d = some p := by
  intro m hm
  induction hm with
  | refl => exact e
  | step _ ih => exact pdx_up _ _ _ ih
def Sm (h : AH) (k L : Nat) (d : D) : Prop := ∃ p, pdx k h d = some p ∧ p.showable = true ∧ p.shown.length ≤ L
theorem Sm.pre {h h' : AH} (p : h <+: h') {k L : Nat} {d : D} : Sm h k L d → Sm h' k L d := fun ⟨q, a, b, c⟩ => ⟨q, pdx_pre p _ _ _ a, b, c⟩
theorem Sm.mono {h : AH} {k k' L L' : Nat} {d : D} (hk : k ≤ k') (hL : L ≤ L') : Sm h k L d → Sm h k' L' d := fun ⟨q, a, b, c⟩ => ⟨q, pdx_le a _ hk, b, Nat.le_trans c hL⟩
theorem Sm.repr {h : AH} {k L : Nat} {d : D} (hk : k ≤ 60) (hL : L ≤ 10000000) : Sm h k L d → ∃ s, reprX d h = some s := fun ⟨q, a, b, c⟩ => by
  refine ⟨q.shown, ?_⟩
  unfold reprX
  rw [pdx_le a 60 hk]
  simp only
  rw [if_pos ⟨b, by rw [sizeLine_eq]; omega⟩]
theorem sm_all {h : AH} {k L : Nat} : ∀ {ds : List D}, (∀ d ∈ ds, Sm h k L d) → ∃ ps, omap (pdx k h) ds = some ps ∧ ps.length = ds.length ∧ PyData.showableAll ps = true ∧ ((PyData.shownAll ps).map (·.length)).sum ≤ ds.length * L ∧ (PyData.shownAll ps).length = ds.length
  | [], _ => ⟨[], rfl, rfl, by simp [PyData.showableAll], by simp [PyData.shownAll], by simp [PyData.shownAll]⟩
  | d :: ds, g => by
    obtain ⟨p, a, b, c⟩ := g d List.mem_cons_self
    obtain ⟨ps, e1, e2, e3, e4, e5⟩ := sm_all fun x hx => g x (List.mem_cons_of_mem _ hx)
    refine ⟨p :: ps, by simp only [omap, a, e1], by simp [e2], by simp [PyData.showableAll, b, e3], ?_, by simp [PyData.shownAll, e5]⟩
    simp only [PyData.shownAll, List.map_cons, List.sum_cons, List.length_cons]
    rw [Nat.succ_mul]
    omega
theorem Sm.tup {h : AH} {k L : Nat} {ds : List D} (g : ∀ d ∈ ds, Sm h k L d) : Sm h (k + 1) (ds.length * (L + 2) + 3) (.tup ds) := by
  obtain ⟨ps, e1, e2, e3, e4, e5⟩ := sm_all g
  refine ⟨.tuple ps, by rw [pdx, e1]; rfl, by simp [PyData.showable, e3], ?_⟩
  rw [PyData.shown]
  have l := tupleText_len_le (PyData.shownAll ps)
  rw [e5] at l
  rw [Nat.mul_add]
  omega
theorem Sm.lst {h : AH} {k L n : Nat} {ds : List D} (e : h[n]? = some (.lst ds)) (g : ∀ d ∈ ds, Sm h k L d) : Sm h (k + 1) (ds.length * (L + 2) + 3) (.ref n) := by
  obtain ⟨ps, e1, e2, e3, e4, e5⟩ := sm_all g
  refine ⟨.list ps, by rw [pdx]; simp only [e, e1]; rfl, by simp [PyData.showable, e3], ?_⟩
  rw [PyData.shown]
  have l := listText_len_le (PyData.shownAll ps)
  rw [e5] at l
  rw [Nat.mul_add]
  omega
theorem sm_bl {h : AH} (b : Bool) : Sm h 0 100 (.bl b) := ⟨.bool b, rfl, by simp [PyData.showable], by rw [PyData.shown]; cases b <;> exact Nat.le_of_ble_eq_true (by decide +kernel)⟩
/-- two of the same data -/
theorem rep_same {h1 h2 : AH} {x y : D} {ε : AEnv} {F G : EF} {h : AH} (p : h1 <+: h2) (eF : F ε h = .ok x h1) (eG : G ε h1 = .ok y h2) {k L : Nat} (hk : k ≤ 60) (hL : L ≤ 10000000) (s1 : Sm h1 k L x) (same : pdx 60 h2 y = pdx 60 h2 x) :
    cBin opEq2 (cCall fRepr2 (aCons F aNil)) (cCall fRepr2 (aCons G aNil)) ε h = .ok (.bl true) h2 ∧ cBin opNe (cCall fRepr2 (aCons F aNil)) (cCall fRepr2 (aCons G aNil)) ε h = .ok (.bl false) h2 := by
  obtain ⟨s, es⟩ := s1.repr hk hL
  have e2 : reprX y h2 = some s := by
    have := reprX_pre p es
    unfold reprX at this ⊢
    rw [same]
    exact this
  have q1 : cCall fRepr2 (aCons F aNil) ε h = .ok (.str s) h1 := (cCall_eq (aCons_eq eF aNil_eq)).trans (by simp only [fRepr2, es])
  have q2 : cCall fRepr2 (aCons G aNil) ε h1 = .ok (.str s) h2 := (cCall_eq (aCons_eq eG aNil_eq)).trans (by simp only [fRepr2, e2])
  refine ⟨(cBin_eq q1 q2).trans ?_, (cBin_eq q1 q2).trans ?_⟩
  · simp [opEq2, eqX, isBox, opEq, scalEq]
  · simp [opNe, scalEq]
theorem pdx_lst {h : AH} {k r1 r2 : Nat} {ds : List D} (e1 : h[r1]? = some (.lst ds)) (e2 : h[r2]? = some (.lst ds)) : pdx k h (.ref r1) = pdx k h (.ref r2) := by
  cases k with
  | zero => rfl
  | succ k => simp only [pdx, e1, e2]
theorem szl {n : Nat} (h : Nat.ble n 1000 = true) : n ≤ sizeLine := by
  have q := Nat.le_of_ble_eq_true h
  rw [sizeLine_eq]
  omega
theorem add_l {h : AH} {a b : Nat} {xs ys : List D} (ha : h[a]? = some (.lst xs)) (hb : h[b]? = some (.lst ys)) (hz : xs.length + ys.length ≤ 1000) : opAdd (.ref a) (.ref b) h = .ok (.ref h.length) (h ++ [.lst (xs ++ ys)]) := by
  have : xs.length + ys.length ≤ sizeLine := by rw [sizeLine_eq]; omega
  simp only [opAdd, ha, hb, if_pos this]
theorem mul_l {h : AH} {a k : Nat} {xs : List D} (ha : h[a]? = some (.lst xs)) (hz : xs.length * k ≤ 1000) (hk : k ≤ 1000) : opMul (.ref a) (.int k) h = .ok (.ref h.length) (h ++ [.lst (List.replicate k xs).flatten]) := by
  have c : (decide (-(2 ^ 63) ≤ (k : Int)) && decide ((k : Int) < 2 ^ 63) && decide (xs.length * (k : Int).toNat ≤ sizeLine)) = true := by
    rw [Int.toNat_natCast, sizeLine_eq, Bool.and_eq_true, Bool.and_eq_true, decide_eq_true_eq, decide_eq_true_eq, decide_eq_true_eq]
    refine ⟨⟨by omega, by omega⟩, by omega⟩
  simp only [opMul, ha]
  rw [if_pos c, Int.toNat_natCast]
/-! ### what is drawn -/
def thg : List D := [.non, .bl true, .int 0, .int (-1), .int 7, .int 1000000000000000000000000000000000000000, .str "", .str "main", .tup [.str "row", .tup [.int 1, .str "a"]], .tup [], .tup [.str "told", .str "w", .int 3], .tup [.str "thing", .int 4]]
def ckT (d : D) : Bool := match pdx 2 [] d with
  | some p => p.showable && decide (p.shown.length ≤ 100)
  | none => false
theorem thg_ck : thg.all ckT = true := by decide +kernel
theorem thg_sm {h : AH} {d : D} (hd : d ∈ thg) : Sm h 2 100 d := by
  have e := List.all_eq_true.mp thg_ck d hd
  unfold ckT at e
  split at e <;> first | (cases e; done) | skip
  rename_i p q
  rw [Bool.and_eq_true, decide_eq_true_eq] at e
  exact ⟨p, pdx_pre (List.nil_prefix) _ _ _ q, e.1, e.2⟩
theorem thing_ok {h : AH} {n m : Nat} {c : Int} (H : Hand h n m c) (hc : 0 ≤ c) (hc2 : c < 100000) : ∃ (d : D) (h' : AH), f_l_thing [.ref n] h = .ok d h' ∧ d ∈ thg ∧ Hand h' n m (c + 1) ∧ Step n m h h' := by
  have lt := H.lt
  have tt : ∀ {ε : AEnv} {h : AH}, cTup (aCons (cC (.int 1)) (aCons (cC (.str ("a" : Str))) aNil)) ε h = .ok (.tup [.int 1, .str "a"]) h := cTup_eq rfl (szl rfl)
  have q1 : sSet 1 (cLst (aCons (cC .non) (aCons (cC (.bl true)) (aCons (cC (.int 0)) (aCons (cNeg (cC (.int 1))) (aCons (cC (.int 7)) (aCons (cBin opPow (cC (.int 10)) (cC (.int 39))) (aCons (cC (.str ("" : Str))) (aCons (cC (.str ("main" : Str))) (aCons (cTup (aCons (cC (.str ("row" : Str))) (aCons (cTup (aCons (cC (.int 1)) (aCons (cC (.str ("a" : Str))) aNil))) aNil))) (aCons (cTup aNil) (aCons (cTup (aCons (cC (.str ("told" : Str))) (aCons (cC (.str ("w" : Str))) (aCons (cC (.int 3)) aNil)))) (aCons (cTup (aCons (cC (.str ("thing" : Str))) (aCons (cC (.int 4)) aNil))) aNil))))))))))))) [some (.ref n), none] h = .nx [some (.ref n), some (.ref h.length)] (h ++ [.lst thg]) :=
    sSet_eq (i := 1) (cLst_eq (ds := thg) (aCons_eq rfl (aCons_eq rfl (aCons_eq rfl (aCons_eq rfl (aCons_eq rfl (aCons_eq rfl (aCons_eq rfl (aCons_eq rfl (aCons_eq (cTup_eq (aCons_eq rfl (aCons_eq tt aNil_eq)) (szl rfl)) (aCons_eq (cTup_eq rfl (szl rfl)) (aCons_eq (cTup_eq rfl (szl rfl)) (aCons_eq (cTup_eq rfl (szl rfl)) aNil_eq)))))))))))) (szl rfl))
  obtain ⟨d, h', e, hd, H', s'⟩ := pick_ok (ds := thg) (s := h.length) (H.app (os := [.lst thg])) hc (by omega) get_last (by omega) (by omega) (by simp [thg]) (Nat.lt_of_le_of_lt (Nat.le_of_ble_eq_true rfl : thg.length ≤ 12) (by decide))
  exact ⟨d, h', runB_ret rfl ((sSeq_nx q1).trans (sRet_eq ((cFn_eq (A := aCons (cVar 0) (aCons (cVar 1) aNil)) rfl).trans e))), hd, H', Step.app.trans s'⟩
theorem taken_ok {V : XV} {h : AH} {a b c : D} : f_l_taken V [a, b, c] h = .ok (.ref h.length) (h ++ [.lst [.tup [a, b, c], a, a]]) := by
  have st : ∀ (xs ys : List D), (h ++ [O.lst xs]).set h.length (.lst ys) = h ++ [.lst ys] := fun xs ys => by
    rw [List.set_append_right (h := Nat.le_refl _), Nat.sub_self]; rfl
  have gl : ∀ (xs : List D), (h ++ [O.lst xs])[h.length]? = some (.lst xs) := fun xs => get_last
  have q1 : sSet 3 (cLst aNil) [some a, some b, some c, none, none] h = .nx [some a, some b, some c, some (.ref h.length), none] (h ++ [.lst []]) := sSet_eq (i := 3) (cLst_eq (ds := []) rfl (Nat.zero_le _))
  let ε : AEnv := [some a, some b, some c, some (.ref h.length), none]
  have q2 : sTryX 3 (aCons (cVar 0) (aCons (cVar 1) (aCons (cVar 2) aNil))) 4 3 (fun ds => D.tup ds) ε (h ++ [.lst []]) = .nx ε (h ++ [.lst [.tup [a, b, c]]]) := by
    have e : aCons (cVar 0) (aCons (cVar 1) (aCons (cVar 2) aNil)) ε (h ++ [.lst []]) = .ok [a, b, c] (h ++ [.lst []]) := rfl
    unfold sTryX
    rw [e, Res.st_ok, if_pos ⟨rfl, by decide⟩]
    show (match (h ++ [O.lst []])[h.length]? with | some (.lst xs) => if xs.length < sizeLine then SR.nx ε ((h ++ [O.lst []]).set h.length (.lst (xs ++ [D.tup [a, b, c]]))) else .stuck | _ => .stuck) = _
    rw [gl]
    show (if ([] : List D).length < sizeLine then _ else _) = _
    rw [if_pos (by rw [sizeLine_eq]; decide), st]
    rfl
  have q3 : ∀ xs : List D, xs.length ≤ 10 → sTryX 1 (aCons (cVar 0) aNil) 4 3 (fun ds => ds.headD .non) ε (h ++ [.lst xs]) = .nx ε (h ++ [.lst (xs ++ [a])]) := fun xs hx => by
    have e : aCons (cVar 0) aNil ε (h ++ [.lst xs]) = .ok [a] (h ++ [.lst xs]) := rfl
    unfold sTryX
    rw [e, Res.st_ok, if_pos ⟨rfl, by decide⟩]
    show (match (h ++ [O.lst xs])[h.length]? with | some (.lst ys) => if ys.length < sizeLine then SR.nx ε ((h ++ [O.lst xs]).set h.length (.lst (ys ++ [a]))) else .stuck | _ => .stuck) = _
    rw [gl]
    show (if xs.length < sizeLine then _ else _) = _
    rw [if_pos (by rw [sizeLine_eq]; omega), st]
  exact runB_ret rfl ((sSeq_nx q1).trans ((sSeq_nx q2).trans ((sSeq_nx (q3 _ (by simp))).trans ((sSeq_nx (q3 _ (by simp))).trans (sRet_eq rfl)))))
def madeL (V : XV) : List D := (List.range 14).map fun i => .xo (V.c (i + 1))
theorem made_ok {V : XV} {h : AH} {a b c : D} : ∃ s h', f_l_made V [a, b, c] h = .ok (.ref s) h' ∧ h <+: h' ∧ h'[s]? = some (.lst (madeL V)) := by
  let A : List D := [.xo (V.c 1), .xo (V.c 2), .xo (V.c 3), .xo (V.c 4), .xo (V.c 5), .xo (V.c 6), .xo (V.c 7), .xo (V.c 8)]
  let B : List D := [.xo (V.c 9), .xo (V.c 10), .xo (V.c 11), .xo (V.c 12), .xo (V.c 13), .xo (V.c 14)]
  let h1 : AH := h ++ [.lst A]
  let h2 : AH := h1 ++ [.lst B]
  have q1 := sSet_eq (i := 3) (ε := [some a, some b, some c, none]) (cLst_eq (A := (aCons (cMk (V.c 1) 1 (aCons (cVar 0) aNil)) (aCons (cMk0 (V.c 2)) (aCons (cMk0 (V.c 3)) (aCons (cMk0 (V.c 4)) (aCons (cMk (V.c 5) 1 (aCons (cVar 0) aNil)) (aCons (cMk (V.c 6) 1 (aCons (cVar 0) aNil)) (aCons (cMk0 (V.c 7)) (aCons (cMk (V.c 8) 3 (aCons (cVar 0) (aCons (cVar 1) (aCons (cVar 2) aNil)))) aNil))))))))) (ε := [some a, some b, some c, none]) (h := h) (ds := A) rfl (szl rfl))
  have q2 := cLst_eq (A := (aCons (cMk (V.c 9) 1 (aCons (cVar 0) aNil)) (aCons (cMk (V.c 10) 1 (aCons (cVar 0) aNil)) (aCons (cMk (V.c 11) 1 (aCons (cVar 0) aNil)) (aCons (cMk (V.c 12) 1 (aCons (cVar 0) aNil)) (aCons (cMk (V.c 13) 1 (aCons (cVar 0) aNil)) (aCons (cMk (V.c 14) 1 (aCons (cVar 0) aNil)) aNil))))))) (ε := [some a, some b, some c, some (.ref h.length)]) (h := h1) (ds := B) rfl (szl rfl)
  have ad := add_l (h := h2) (a := h.length) (b := h1.length) (xs := A) (ys := B) (get_old get_last) get_last (Nat.le_of_ble_eq_true rfl)
  refine ⟨h2.length, h2 ++ [.lst (A ++ B)], runB_ret rfl ((sSeq_nx q1).trans (sRet_eq ((cBin_eq (F := cVar 3) (x := .ref h.length) rfl q2).trans ad))), ?_, get_last⟩
  simp only [h2, h1, List.append_assoc]
  exact List.prefix_append _ _
end K06

namespace K06
open Mi L2 PySem PySem.Spec PyProof.Rows
/-- what the table of classes tells -/
structure HT (V : XV) : Prop where
  own : ∀ i, i < 14 → ∀ j, j < 14 → V.sub (V.c (i + 1)) (.own (V.c (j + 1))) = some (decide (j = i))
  so : ∀ i, i < 14 → V.sub (V.c (i + 1)) (.own (V.c 0)) = some (decide (i < 10))
  ve : ∀ i, i < 14 → V.sub (V.c (i + 1)) (.ty "ValueError") = some (decide (i < 10))
  ke : ∀ i, i < 14 → V.sub (V.c (i + 1)) (.ty "KeyError") = some (decide (i = 10) || decide (i = 11))
  ie : ∀ i, i < 14 → V.sub (V.c (i + 1)) (.ty "IndexError") = some (decide (11 < i))
def boolsL (i : Nat) : List D := ((List.range 14).map fun j => D.bl (decide (j = i))) ++ [.bl (decide (i < 10)), .bl (decide (i < 10)), .bl (decide (i = 10) || decide (i = 11)), .bl (decide (11 < i))]
theorem cV_eq {i : Nat} {ε : AEnv} {h : AH} {d : D} (e : ε[i]? = some (some d)) : cVar i ε h = .ok d h := by simp only [cVar, e]
theorem isx {V : XV} {E : Addr} {c : D} {b : Bool} {ε : AEnv} {h : AH} (e : V.sub E c = some b) (e0 : ε[0]? = some (some (.xo E))) : cCall (fIsiX V.sub) (aCons (cVar 0) (aCons (cC c) aNil)) ε h = .ok (.bl b) h := by
  refine (cCall_eq (aCons_eq (x := .xo E) (cV_eq e0) (aCons_eq rfl aNil_eq))).trans ?_
  simp only [fIsiX, e]
theorem all_of_ok {V : XV} (T : HT V) {h : AH} {i : Nat} (hi : i < 14) : ∃ s h', f_l_all_of V [.xo (V.c (i + 1))] h = .ok (.ref s) h' ∧ h <+: h' ∧ h'[s]? = some (.lst (boolsL i)) := by
  have o : ∀ (j : Nat) (hj : j < 14) {ε : AEnv} {h : AH}, ε[0]? = some (some (.xo (V.c (i + 1)))) → cCall (fIsiX V.sub) (aCons (cVar 0) (aCons (cC (.own (V.c (j + 1)))) aNil)) ε h = .ok (.bl (decide (j = i))) h := fun j hj _ _ e => isx (T.own i hi j hj) e
  let E : D := .xo (V.c (i + 1))
  let A1 : List D := [.bl (decide (0 = i)), .bl (decide (1 = i)), .bl (decide (2 = i)), .bl (decide (3 = i))]
  let A2 : List D := [.bl (decide (4 = i)), .bl (decide (5 = i)), .bl (decide (6 = i)), .bl (decide (7 = i))]
  let A3 : List D := [.bl (decide (8 = i)), .bl (decide (9 = i)), .bl (decide (10 = i)), .bl (decide (11 = i))]
  let A4 : List D := [.bl (decide (12 = i)), .bl (decide (13 = i))]
  let A5 : List D := [.bl (decide (i < 10)), .bl (decide (i < 10)), .bl (decide (i = 10) || decide (i = 11))]
  let A6 : List D := [.bl (decide (11 < i))]
  let h1 : AH := h ++ [.lst A1]
  let h2 : AH := (h1 ++ [.lst A2]) ++ [.lst (A1 ++ A2)]
  let h3 : AH := (h2 ++ [.lst A3]) ++ [.lst ((A1 ++ A2) ++ A3)]
  let h4 : AH := (h3 ++ [.lst A4]) ++ [.lst (((A1 ++ A2) ++ A3) ++ A4)]
  let h5 : AH := (h4 ++ [.lst A5]) ++ [.lst ((((A1 ++ A2) ++ A3) ++ A4) ++ A5)]
  let h6 : AH := (h5 ++ [.lst A6]) ++ [.lst (((((A1 ++ A2) ++ A3) ++ A4) ++ A5) ++ A6)]
  have r1 := sSet_eq (i := 1) (cLst_eq (ε := [some E, none]) (h := h) (ds := A1) (aCons_eq (o 0 (by omega) rfl) (aCons_eq (o 1 (by omega) rfl) (aCons_eq (o 2 (by omega) rfl) (aCons_eq (o 3 (by omega) rfl) aNil_eq)))) (szl rfl))
  have r2 := sSet_eq (i := 1) ((cBin_eq (F := cVar 1) (f := opAdd) (ε := [some E, some (.ref h.length)]) (x := .ref h.length) (h := h1) rfl (cLst_eq (ds := A2) (aCons_eq (o 4 (by omega) rfl) (aCons_eq (o 5 (by omega) rfl) (aCons_eq (o 6 (by omega) rfl) (aCons_eq (o 7 (by omega) rfl) aNil_eq)))) (szl rfl))).trans (add_l (h := h1 ++ [.lst A2]) (a := h.length) (b := h1.length) (xs := A1) (ys := A2) (get_old get_last) get_last (Nat.le_of_ble_eq_true rfl)))
  have r3 := sSet_eq (i := 1) ((cBin_eq (F := cVar 1) (f := opAdd) (ε := [some E, some (.ref (h1 ++ [O.lst A2]).length)]) (x := .ref (h1 ++ [O.lst A2]).length) (h := h2) rfl (cLst_eq (ds := A3) (aCons_eq (o 8 (by omega) rfl) (aCons_eq (o 9 (by omega) rfl) (aCons_eq (o 10 (by omega) rfl) (aCons_eq (o 11 (by omega) rfl) aNil_eq)))) (szl rfl))).trans (add_l (h := h2 ++ [.lst A3]) (a := (h1 ++ [O.lst A2]).length) (b := h2.length) (xs := A1 ++ A2) (ys := A3) (get_old get_last) get_last (Nat.le_of_ble_eq_true rfl)))
  have r4 := sSet_eq (i := 1) ((cBin_eq (F := cVar 1) (f := opAdd) (ε := [some E, some (.ref (h2 ++ [O.lst A3]).length)]) (x := .ref (h2 ++ [O.lst A3]).length) (h := h3) rfl (cLst_eq (ds := A4) (aCons_eq (o 12 (by omega) rfl) (aCons_eq (o 13 (by omega) rfl) aNil_eq)) (szl rfl))).trans (add_l (h := h3 ++ [.lst A4]) (a := (h2 ++ [O.lst A3]).length) (b := h3.length) (xs := (A1 ++ A2) ++ A3) (ys := A4) (get_old get_last) get_last (Nat.le_of_ble_eq_true rfl)))
  have r5 := sSet_eq (i := 1) ((cBin_eq (F := cVar 1) (f := opAdd) (ε := [some E, some (.ref (h3 ++ [O.lst A4]).length)]) (x := .ref (h3 ++ [O.lst A4]).length) (h := h4) rfl (cLst_eq (ds := A5) (aCons_eq (isx (T.so i hi) rfl) (aCons_eq (isx (T.ve i hi) rfl) (aCons_eq (isx (T.ke i hi) rfl) aNil_eq))) (szl rfl))).trans (add_l (h := h4 ++ [.lst A5]) (a := (h3 ++ [O.lst A4]).length) (b := h4.length) (xs := ((A1 ++ A2) ++ A3) ++ A4) (ys := A5) (get_old get_last) get_last (Nat.le_of_ble_eq_true rfl)))
  have r6 := (cBin_eq (F := cVar 1) (f := opAdd) (ε := [some E, some (.ref (h4 ++ [O.lst A5]).length)]) (x := .ref (h4 ++ [O.lst A5]).length) (h := h5) rfl (cLst_eq (ds := A6) (aCons_eq (isx (T.ie i hi) rfl) aNil_eq) (szl rfl))).trans (add_l (h := h5 ++ [.lst A6]) (a := (h4 ++ [O.lst A5]).length) (b := h5.length) (xs := (((A1 ++ A2) ++ A3) ++ A4) ++ A5) (ys := A6) (get_old get_last) get_last (Nat.le_of_ble_eq_true rfl))
  refine ⟨_, h6, runB_ret rfl ((sSeq_nx r1).trans ((sSeq_nx r2).trans ((sSeq_nx r3).trans ((sSeq_nx r4).trans ((sSeq_nx r5).trans (sRet_eq r6)))))), ?_, get_last⟩
  simp only [h6, h5, h4, h3, h2, h1, List.append_assoc]
  exact List.prefix_append _ _
theorem mkf1 {ε : AEnv} {h : AH} {a : D} {gD : List D → List D} (hg : gD [a] = [a]) (e0 : ε[0]? = some (some a)) : cMkF 1 0 gD (aCons (cVar 0) aNil) ε h = .ok a h := by
  unfold cMkF
  rw [aCons_eq (F := cVar 0) (x := a) (cV_eq e0) aNil_eq, Res.bind_ok, hg]
  rfl
theorem fields_ok {V : XV} {h : AH} {a b c : D} (ha : a ∈ thg) (hb : b ∈ thg) (hc : c ∈ thg) : ∃ h', h <+: h' ∧ f_l_fields_right V [a, b, c] h = .ok (.bl true) h' := by
  let F : List D := [a, a, a, a, a, a, a, a, a, a, b, c]
  let A6 : List D := [a, a, a, a, a, a]
  let A4 : List D := [a, a, a, a]
  let A5 : List D := [a, a, a, a, a]
  let h1 : AH := h ++ [.lst A6]
  let h2 : AH := (h1 ++ [.lst A4]) ++ [.lst (A6 ++ A4)]
  let h3 : AH := (h2 ++ [.lst [b, c]]) ++ [.lst ((A6 ++ A4) ++ [b, c])]
  let n3 := (h2 ++ [O.lst [b, c]]).length
  let h4 : AH := h3 ++ [.lst A5]
  let h5 : AH := (h4 ++ [.lst A4]) ++ [.lst (A5 ++ A4)]
  let h6 : AH := (h5 ++ [.lst [a, b]]) ++ [.lst ((A5 ++ A4) ++ [a, b])]
  let n6 := (h5 ++ [O.lst [a, b]]).length
  let h7 : AH := (h5 ++ [.lst [a, b]]) ++ [.lst (((A5 ++ A4) ++ [a, b]) ++ [c])]
  have m : ∀ {ε : AEnv} {h : AH}, ε[0]? = some (some a) → cMkF 1 0 (fun z => z) (aCons (cVar 0) aNil) ε h = .ok a h := fun e => mkf1 rfl e
  have k : ∀ {ε : AEnv} {h : AH}, ε[0]? = some (some a) → cMkF 1 0 pm0 (aCons (cVar 0) aNil) ε h = .ok a h := fun e => mkf1 rfl e
  let ε0 : AEnv := [some a, some b, some c, none, none]
  let ε1 : AEnv := [some a, some b, some c, some (.ref h.length), none]
  have r1 := sSet_eq (i := 3) (cLst_eq (ε := ε0) (h := h) (ds := A6) (aCons_eq (m rfl) (aCons_eq (m rfl) (aCons_eq (m rfl) (aCons_eq (m rfl) (aCons_eq (m rfl) (aCons_eq (m rfl) aNil_eq)))))) (szl rfl))
  have r2 := sSet_eq (i := 3) ((cBin_eq (F := cVar 3) (f := opAdd) (ε := ε1) (x := .ref h.length) (h := h1) rfl (cLst_eq (A := (aCons (cMkF 1 0 (fun z => z) (aCons (cVar 0) aNil)) (aCons (cMkF 1 0 (fun z => z) (aCons (cVar 0) aNil)) (aCons (cMkF 1 0 (fun z => z) (aCons (cVar 0) aNil)) (aCons (cMkF 3 0 (fun z => z) (aCons (cVar 0) (aCons (cVar 1) (aCons (cVar 2) aNil)))) aNil))))) (ds := A4) (aCons_eq (m rfl) (aCons_eq (m rfl) (aCons_eq (m rfl) (aCons_eq rfl aNil_eq)))) (szl rfl))).trans (add_l (h := h1 ++ [.lst A4]) (a := h.length) (b := h1.length) (xs := A6) (ys := A4) (get_old get_last) get_last (Nat.le_of_ble_eq_true rfl)))
  have r3 := sSet_eq (i := 3) ((cBin_eq (F := cVar 3) (f := opAdd) (ε := [some a, some b, some c, some (.ref (h1 ++ [O.lst A4]).length), none]) (x := .ref (h1 ++ [O.lst A4]).length) (h := h2) rfl (cLst_eq (A := (aCons (cMkF 3 1 (fun z => z) (aCons (cVar 0) (aCons (cVar 1) (aCons (cVar 2) aNil)))) (aCons (cMkF 3 2 (fun z => z) (aCons (cVar 0) (aCons (cVar 1) (aCons (cVar 2) aNil)))) aNil))) (ds := [b, c]) (aCons_eq rfl (aCons_eq rfl aNil_eq)) (szl rfl))).trans (add_l (h := h2 ++ [.lst [b, c]]) (a := (h1 ++ [O.lst A4]).length) (b := h2.length) (xs := A6 ++ A4) (ys := [b, c]) (get_old get_last) get_last (Nat.le_of_ble_eq_true rfl)))
  let ε3 : AEnv := [some a, some b, some c, some (.ref n3), none]
  have r4 := sSet_eq (i := 4) (cLst_eq (ε := ε3) (h := h3) (ds := A5) (aCons_eq (k rfl) (aCons_eq (k rfl) (aCons_eq (k rfl) (aCons_eq (k rfl) (aCons_eq (k rfl) aNil_eq))))) (szl rfl))
  have r5 := sSet_eq (i := 4) ((cBin_eq (F := cVar 4) (f := opAdd) (ε := [some a, some b, some c, some (.ref n3), some (.ref h3.length)]) (x := .ref h3.length) (h := h4) rfl (cLst_eq (ds := A4) (aCons_eq (k rfl) (aCons_eq (k rfl) (aCons_eq (k rfl) (aCons_eq (k rfl) aNil_eq)))) (szl rfl))).trans (add_l (h := h4 ++ [.lst A4]) (a := h3.length) (b := h4.length) (xs := A5) (ys := A4) (get_old get_last) get_last (Nat.le_of_ble_eq_true rfl)))
  have r6 := sSet_eq (i := 4) ((cBin_eq (F := cVar 4) (f := opAdd) (ε := [some a, some b, some c, some (.ref n3), some (.ref (h4 ++ [O.lst A4]).length)]) (x := .ref (h4 ++ [O.lst A4]).length) (h := h5) rfl (cLst_eq (A := (aCons (cMkF 3 0 pm120 (aCons (cVar 2) (aCons (cVar 0) (aCons (cVar 1) aNil)))) (aCons (cMkF 3 1 pm201 (aCons (cVar 1) (aCons (cVar 2) (aCons (cVar 0) aNil)))) aNil))) (ds := [a, b]) (aCons_eq rfl (aCons_eq rfl aNil_eq)) (szl rfl))).trans (add_l (h := h5 ++ [.lst [a, b]]) (a := (h4 ++ [O.lst A4]).length) (b := h5.length) (xs := A5 ++ A4) (ys := [a, b]) (get_old get_last) get_last (Nat.le_of_ble_eq_true rfl)))
  let ε6 : AEnv := [some a, some b, some c, some (.ref n3), some (.ref n6)]
  have g6 : h6[n6]? = some (.lst ((A5 ++ A4) ++ [a, b])) := get_last
  have r7 : sExpr (cMeth "list" mAppend (cVar 4) (aCons (cMkF 3 2 pm021 (aCons (cVar 0) (aCons (cVar 2) (aCons (cVar 1) aNil)))) aNil)) ε6 h6 = .nx ε6 h7 := by
    refine sExpr_eq (d := .non) ((cMeth_eq (F := cVar 4) (d := .ref n6) (h1 := h6) (ds := [c]) rfl (by simp [isTy, tyD, g6]) (aCons_eq rfl aNil_eq)).trans ?_)
    simp only [mAppend, g6]
    rw [if_pos (show ((A5 ++ A4) ++ [a, b]).length < sizeLine by rw [sizeLine_eq]; exact Nat.lt_of_le_of_lt (Nat.le_of_ble_eq_true rfl : ((A5 ++ A4) ++ [a, b]).length ≤ 12) (by decide)), List.set_append_right (h := Nat.le_refl _), Nat.sub_self]
    rfl
  -- the texts
  have f3 : h7[n3]? = some (.lst F) := by
    have : h3[n3]? = some (.lst F) := get_last
    exact get_old (get_old (get_old (get_old (get_old this))))
  have f6 : h7[n6]? = some (.lst F) := get_last
  let h8 : AH := h7 ++ [.lst [.ref n3, .ref n6]]
  have w1 : cLst (aCons (cVar 3) (aCons (cVar 4) aNil)) ε6 h7 = .ok (.ref h7.length) h8 := cLst_eq rfl (szl rfl)
  let h9 : AH := h8 ++ [.lst [a]]
  let h10 : AH := h9 ++ [.lst (List.replicate 10 [a]).flatten]
  let h11 : AH := h10 ++ [.lst [b, c]]
  let h12 : AH := h11 ++ [.lst F]
  let h13 : AH := h12 ++ [.lst [.ref h11.length]]
  let h14 : AH := h13 ++ [.lst [.ref h11.length, .ref h11.length]]
  have v1 : cBin opMul (cLst (aCons (cVar 0) aNil)) (cC (.int 10)) ε6 h8 = .ok (.ref h9.length) h10 := (cBin_eq (cLst_eq (ds := [a]) rfl (szl rfl)) rfl).trans (mul_l (k := 10) get_last (by simp) (by omega))
  have v2 : cLst (aCons (cVar 1) (aCons (cVar 2) aNil)) ε6 h10 = .ok (.ref h10.length) h11 := cLst_eq rfl (szl rfl)
  have v3 := (cBin_eq (f := opAdd) v1 v2).trans (add_l (h := h11) (a := h9.length) (b := h10.length) (xs := (List.replicate 10 [a]).flatten) (ys := [b, c]) (get_old get_last) get_last (Nat.le_of_ble_eq_true rfl))
  have v4 : cLst (aCons (cBin opAdd (cBin opMul (cLst (aCons (cVar 0) aNil)) (cC (.int 10))) (cLst (aCons (cVar 1) (aCons (cVar 2) aNil)))) aNil) ε6 h8 = .ok (.ref h12.length) h13 := cLst_eq (aCons_eq v3 aNil_eq) (szl rfl)
  have v5 : cBin opMul (cLst (aCons (cBin opAdd (cBin opMul (cLst (aCons (cVar 0) aNil)) (cC (.int 10))) (cLst (aCons (cVar 1) (aCons (cVar 2) aNil)))) aNil)) (cC (.int 2)) ε6 h8 = .ok (.ref h13.length) h14 := (cBin_eq v4 rfl).trans (mul_l (k := 2) get_last (by simp) (by omega))
  have p814 : h8 <+: h14 := by
    simp only [h14, h13, h12, h11, h10, h9, List.append_assoc]
    exact List.prefix_append _ _
  have smF : ∀ {hh : AH} {r : Nat}, hh[r]? = some (.lst F) → Sm hh 3 2000 (.ref r) := fun e => (Sm.lst e (k := 2) (L := 100) fun d hd => by
    simp only [F, List.mem_cons, List.not_mem_nil, or_false] at hd
    have : d = a ∨ d = b ∨ d = c := by
      rcases hd with z | z | z | z | z | z | z | z | z | z | z | z <;> first | exact .inl z | exact .inr (.inl z) | exact .inr (.inr z)
    rcases this with rfl | rfl | rfl
    · exact thg_sm ha
    · exact thg_sm hb
    · exact thg_sm hc).mono (Nat.le_refl _) (by simp [F])
  have s1 : Sm h8 4 5000 (.ref h7.length) := (Sm.lst (ds := [.ref n3, .ref n6]) get_last fun d hd => by
    simp only [List.mem_cons, List.not_mem_nil, or_false] at hd
    rcases hd with rfl | rfl
    · exact smF (get_old f3)
    · exact smF (get_old f6)).mono (Nat.le_refl _) (by simp)
  have same : pdx 60 h14 (.ref h13.length) = pdx 60 h14 (.ref h7.length) := by
    have e1 : h14[h13.length]? = some (.lst [.ref h11.length, .ref h11.length]) := get_last
    have e2 : h14[h7.length]? = some (.lst [.ref n3, .ref n6]) := getElem_pre p814 get_last
    have g11 : h14[h11.length]? = some (.lst F) := get_old (get_old get_last)
    have g3 : h14[n3]? = some (.lst F) := getElem_pre p814 (get_old f3)
    have g6' : h14[n6]? = some (.lst F) := getElem_pre p814 (get_old f6)
    have q1 : pdx 59 h14 (.ref h11.length) = pdx 59 h14 (.ref n3) := pdx_lst g11 g3
    have q2 : pdx 59 h14 (.ref h11.length) = pdx 59 h14 (.ref n6) := pdx_lst g11 g6'
    rw [pdx, pdx]
    simp only [e1, e2, omap]
    rw [← q1, ← q2]
  refine ⟨h14, ?_, runB_ret rfl ((sSeq_nx r1).trans ((sSeq_nx r2).trans ((sSeq_nx r3).trans ((sSeq_nx r4).trans ((sSeq_nx r5).trans ((sSeq_nx r6).trans ((sSeq_nx r7).trans (sRet_eq (rep_same p814 w1 v5 (by omega) (by omega) s1 same).1))))))))⟩
  simp only [h14, h13, h12, h11, h10, h9, h8, h7, h5, h4, h3, h2, h1, List.append_assoc]
  exact List.prefix_append _ _
end K06

namespace K06
open Mi L2 PySem PySem.Spec PyProof.Rows
def inner (V : XV) : SF := sSeq (sSet 3 (cBin opAdd (cComp (iRange1 (cC (.int 14))) (gN 9) tYes' (cBin opEq2 (cVar 9) (cVar 7)) [9]) (cBin opMul (cLst (aCons (cBin opLt (cVar 7) (cC (.int 10))) aNil)) (cC (.int 2)))))
    (sSeq (sSet 3 (cBin opAdd (cVar 3) (cLst (aCons (cBin opIn2 (cVar 7) (cTup (aCons (cC (.int 10)) (aCons (cC (.int 11)) aNil)))) (aCons (cBin opGt (cVar 7) (cC (.int 11))) aNil)))))
    (sIf (tVal (cBin opNe (cCall fRepr2 (aCons (cFn (f_l_all_of V) (aCons (cVar 8) aNil)) aNil)) (cCall fRepr2 (aCons (cVar 3) aNil))))
      (sRet (cC (.bl false)))
      sPass))
theorem in_ok {ε : AEnv} {h : AH} {i : Nat} : opIn2 (.int i) (.tup [.int 10, .int 11]) h = .ok (.bl (decide (i = 10) || decide (i = 11))) h := by
  have e : inD (.int i) (.tup [.int 10, .int 11]) h = some (decide (i = 10) || decide (i = 11)) := by
    have : inD (.int i) (.tup [.int 10, .int 11]) h = some (inV (.int (i : Int)) [.int 10, .int 11]) := rfl
    rw [this]
    congr 1
    rw [Bool.eq_iff_iff]
    simp [inV, eqV]
    omega
  unfold opIn2
  rw [show inX (.int (i : Int)) (.tup [.int 10, .int 11]) h = false from rfl, if_neg Bool.false_ne_true, opIn, e]
theorem inner_ok {V : XV} (T : HT V) {h : AH} {i : Nat} (hi : i < 14) {x0 x1 x2 x3 a b c x9 : Option D} :
    ∃ r h', inner V [x0, x1, x2, x3, a, b, c, some (.int i), some (.xo (V.c (i + 1))), x9] h = .nx [x0, x1, x2, some (.ref r), a, b, c, some (.int i), some (.xo (V.c (i + 1))), x9] h' ∧ h <+: h' := by
  let A1 : List D := (List.range 14).map fun j => D.bl (decide (j = i))
  have l1 : A1.length = 14 := by simp [A1]
  obtain ⟨A1', eA⟩ : ∃ A, A = A1 := ⟨_, rfl⟩
  let h1 : AH := h ++ [.lst A1']
  let h2 : AH := h1 ++ [.lst [.bl (decide (i < 10))]]
  let h3 : AH := h2 ++ [.lst [.bl (decide (i < 10)), .bl (decide (i < 10))]]
  let h4 : AH := h3 ++ [.lst (A1' ++ [.bl (decide (i < 10)), .bl (decide (i < 10))])]
  let h5 : AH := h4 ++ [.lst [.bl (decide (i = 10) || decide (i = 11)), .bl (decide (11 < i))]]
  let h6 : AH := h5 ++ [.lst ((A1' ++ [.bl (decide (i < 10)), .bl (decide (i < 10))]) ++ [.bl (decide (i = 10) || decide (i = 11)), .bl (decide (11 < i))])]
  let ε : AEnv := [x0, x1, x2, x3, a, b, c, some (.int i), some (.xo (V.c (i + 1))), x9]
  have w1 : cComp (iRange1 (cC (.int 14))) (gN 9) tYes' (cBin opEq2 (cVar 9) (cVar 7)) [9] ε h = .ok (.ref h.length) h1 := by
    refine (cComp_filter (ds := (List.range (14 : Int).toNat).map fun (i : Nat) => D.int (0 + i)) (h1 := h) rfl (by rw [sizeLine_eq]; simp) (fun d => [x0, x1, x2, x3, a, b, c, some (.int i), some (.xo (V.c (i + 1))), some d]) (fun _ => true) (fun d => match d with | .int z => .bl (decide (z = (i : Int))) | _ => .non) ?_ ?_ ?_).trans ?_
    · intro d _ h; rfl
    · intro d _ h; rfl
    · intro d hd h
      obtain ⟨z, _, rfl⟩ := List.mem_map.mp hd
      rfl
    · have : ((((List.range (14 : Int).toNat).map fun (i : Nat) => D.int (0 + i)).filter fun _ => true).map fun d => match d with | .int z => D.bl (decide (z = (i : Int))) | _ => .non) = A1 := by
        rw [List.filter_eq_self.mpr (fun _ _ => rfl), List.map_map]
        refine List.map_congr_left fun j _ => ?_
        show D.bl (decide ((0 : Int) + (j : Int) = (i : Int))) = D.bl (decide (j = i))
        congr 1
        rw [Bool.eq_iff_iff, decide_eq_true_eq, decide_eq_true_eq]
        omega
      rw [this, ← eA]
  have lt : opLt (.int i) (.int 10) h1 = .ok (.bl (decide (i < 10))) h1 := by
    show Res.ok (D.bl (decide ((i : Int) < 10))) h1 = _
    rw [show decide ((i : Int) < 10) = decide (i < 10) from by rw [Bool.eq_iff_iff, decide_eq_true_eq, decide_eq_true_eq]; omega]
  have w2 : cBin opMul (cLst (aCons (cBin opLt (cVar 7) (cC (.int 10))) aNil)) (cC (.int 2)) ε h1 = .ok (.ref h2.length) h3 :=
    (cBin_eq (cLst_eq (ds := [.bl (decide (i < 10))]) (aCons_eq ((cBin_eq rfl rfl).trans lt) aNil_eq) (szl rfl)) rfl).trans (mul_l (k := 2) get_last (by simp) (by omega))
  have lA : A1'.length = 14 := by rw [eA]; exact l1
  have w3 := sSet_eq (i := 3) ((cBin_eq (f := opAdd) w1 w2).trans (add_l (h := h3) (xs := A1') (ys := [.bl (decide (i < 10)), .bl (decide (i < 10))]) (get_old (get_old get_last)) get_last (by rw [lA]; exact Nat.le_of_ble_eq_true rfl)))
  let ε1 : AEnv := [x0, x1, x2, some (.ref h3.length), a, b, c, some (.int i), some (.xo (V.c (i + 1))), x9]
  have gt : ∀ {h : AH}, opGt (.int i) (.int 11) h = .ok (.bl (decide (11 < i))) h := fun {h} => by
    show Res.ok (D.bl (decide ((11 : Int) < (i : Int)))) h = _
    rw [show decide ((11 : Int) < (i : Int)) = decide (11 < i) from by rw [Bool.eq_iff_iff, decide_eq_true_eq, decide_eq_true_eq]; omega]
  have w4 : cLst (aCons (cBin opIn2 (cVar 7) (cTup (aCons (cC (.int 10)) (aCons (cC (.int 11)) aNil)))) (aCons (cBin opGt (cVar 7) (cC (.int 11))) aNil)) ε1 h4 = .ok (.ref h4.length) h5 :=
    cLst_eq (ds := [.bl (decide (i = 10) || decide (i = 11)), .bl (decide (11 < i))]) (aCons_eq ((cBin_eq rfl (cTup_eq rfl (szl rfl))).trans (in_ok (ε := ε1))) (aCons_eq ((cBin_eq rfl rfl).trans gt) aNil_eq)) (szl rfl)
  have w5 := sSet_eq (i := 3) ((cBin_eq (F := cVar 3) (f := opAdd) (ε := ε1) (x := .ref h3.length) (h1 := h4) rfl w4).trans (add_l (h := h5) (xs := A1' ++ [.bl (decide (i < 10)), .bl (decide (i < 10))]) (ys := [.bl (decide (i = 10) || decide (i = 11)), .bl (decide (11 < i))]) (get_old get_last) get_last (by rw [List.length_append, lA]; exact Nat.le_of_ble_eq_true rfl)))
  let ε2 : AEnv := [x0, x1, x2, some (.ref h5.length), a, b, c, some (.int i), some (.xo (V.c (i + 1))), x9]
  obtain ⟨s, h7, e7, p7, k7⟩ := all_of_ok T (h := h6) hi
  have eF : cFn (f_l_all_of V) (aCons (cVar 8) aNil) ε2 h6 = .ok (.ref s) h7 := (cFn_eq (aCons_eq rfl aNil_eq)).trans e7
  have k5 : h7[h5.length]? = some (.lst (boolsL i)) := by
    have : h6[h5.length]? = some (.lst (boolsL i)) := by
      refine get_last.trans ?_
      rw [eA, boolsL, List.append_assoc]
      rfl
    exact getElem_pre p7 this
  have s1 : Sm h7 1 5000 (.ref s) := (Sm.lst (k := 0) (L := 100) k7 fun d hd => by
    have : ∃ b, d = .bl b := by
      rcases List.mem_append.mp hd with hd | hd
      · obtain ⟨_, _, rfl⟩ := List.mem_map.mp hd; exact ⟨_, rfl⟩
      · simp only [List.mem_cons, List.not_mem_nil, or_false] at hd
        rcases hd with rfl | rfl | rfl | rfl <;> exact ⟨_, rfl⟩
    obtain ⟨b, rfl⟩ := this
    exact sm_bl b).mono (Nat.le_refl _) (by simp [boolsL])
  have w6 := (rep_same (ε := ε2) (h := h6) (F := cFn (f_l_all_of V) (aCons (cVar 8) aNil)) (G := cVar 3) (List.prefix_refl h7) eF (y := .ref h5.length) rfl (by omega) (by omega) s1 (pdx_lst k5 k7)).2
  refine ⟨h5.length, h7, (sSeq_nx w3).trans ((sSeq_nx w5).trans ((sIf_f (tVal_eq w6)).trans rfl)), List.IsPrefix.trans ?_ p7⟩
  simp only [h6, h5, h4, h3, h2, h1, List.append_assoc]
  exact List.prefix_append _ _
theorem law_ok {V : XV} (T : HT V) {ns : List Int} (hl : ns.length ≤ 63) (_ : ∀ z ∈ ns, Builtin.Int.intBits z ≤ 1048576) : ∃ h', f_law V [.rol (ns.map D.int)] [] = .ok (.bl true) h' := by
  obtain ⟨n, m, h1, e1, H1⟩ := begun_ok hl
  obtain ⟨S, eS⟩ : ∃ S : D, S = .rol (ns.map D.int) := ⟨_, rfl⟩
  rw [← eS] at e1 ⊢
  have w1 : sSet 1 (cFn f_l_begun (aCons (cVar 0) aNil)) [some S, none, none, none, none, none, none, none, none, none] [] = .nx [some S, some (.ref n), none, none, none, none, none, none, none, none] h1 := sSet_eq (i := 1) ((cFn_eq (aCons_eq rfl aNil_eq)).trans e1)
  obtain ⟨ε2, h2, e2, x2, x3, x4, x5, x6, x7, x8, x9, rfl, c2, H2, a2, b2⟩ := sFor_inv (iF := iRange1 (cC (.int 4))) (it := .fix ((List.range (4 : Int).toNat).map fun (i : Nat) => .int (0 + i))) (g := gN 2) (B := sSeq (sPar3 4 5 6 (cFn f_l_thing (aCons (cVar 1) aNil)) (cFn f_l_thing (aCons (cVar 1) aNil)) (cFn f_l_thing (aCons (cVar 1) aNil)))
    (sSeq (sIf (tNot' (tVal (cFn (f_l_fields_right V) (aCons (cVar 4) (aCons (cVar 5) (aCons (cVar 6) aNil))))))
      (sRet (cC (.bl false)))
      sPass)
    (sSeq (sSet 3 (cLst (aCons (cTup (aCons (cVar 4) (aCons (cVar 5) (aCons (cVar 6) aNil)))) (aCons (cVar 4) (aCons (cVar 4) aNil)))))
    (sSeq (sIf (tVal (cBin opNe (cCall fRepr2 (aCons (cFn (f_l_taken V) (aCons (cVar 4) (aCons (cVar 5) (aCons (cVar 6) aNil)))) aNil)) (cCall fRepr2 (aCons (cVar 3) aNil))))
      (sRet (cC (.bl false)))
      sPass)
    (sFor (iEnu (cFn (f_l_made V) (aCons (cVar 4) (aCons (cVar 5) (aCons (cVar 6) aNil))))) (gT 2 (gCons' (gN 7) (gCons' (gN 8) gNil'))) (inner V))))))
    (ε := [some S, some (.ref n), none, none, none, none, none, none, none, none]) (h := h1) (h1 := h1) rfl
    (fun i ε h => ∃ x2 x3 x4 x5 x6 x7 x8 x9, ε = [some S, some (.ref n), x2, x3, x4, x5, x6, x7, x8, x9] ∧ ∃ c : Int, Hand h n m c ∧ 0 ≤ c ∧ c ≤ 3 * i) 4 (by simp [AIt.len])
    ⟨none, none, none, none, none, none, none, none, rfl, 0, H1, by omega, by omega⟩
    (by
      rintro i ε h hi ⟨x2, x3, x4, x5, x6, x7, x8, x9, rfl, c0, H0, q0, r0⟩
      obtain ⟨a, ha1, ea, ma, Ha, _⟩ := thing_ok H0 q0 (by omega)
      obtain ⟨b, hb1, eb, mb, Hb, _⟩ := thing_ok Ha (by omega) (by omega)
      obtain ⟨c, hc1, ec, mc, Hc, _⟩ := thing_ok Hb (by omega) (by omega)
      let E0 : AEnv := [some S, some (.ref n), some (.int (0 + (i : Int))), x3, x4, x5, x6, x7, x8, x9]
      let E1 : AEnv := [some S, some (.ref n), some (.int (0 + (i : Int))), x3, some a, some b, some c, x7, x8, x9]
      have v1 : sPar3 4 5 6 (cFn f_l_thing (aCons (cVar 1) aNil)) (cFn f_l_thing (aCons (cVar 1) aNil)) (cFn f_l_thing (aCons (cVar 1) aNil)) E0 h = .nx E1 hc1 :=
        sPar3_eq ((cFn_eq (aCons_eq rfl aNil_eq)).trans ea) ((cFn_eq (aCons_eq rfl aNil_eq)).trans eb) ((cFn_eq (aCons_eq rfl aNil_eq)).trans ec)
      obtain ⟨hd1, pd1, ed⟩ := fields_ok (V := V) (h := hc1) ma mb mc
      have v2 := sIf_f (a := sRet (cC (.bl false))) (b := sPass) (tNot_eq (tVal_eq ((cFn_eq (A := aCons (cVar 4) (aCons (cVar 5) (aCons (cVar 6) aNil))) (ε := E1) rfl).trans ed)))
      let due : List D := [.tup [a, b, c], a, a]
      let he : AH := hd1 ++ [.lst due]
      let E2 : AEnv := [some S, some (.ref n), some (.int (0 + (i : Int))), some (.ref hd1.length), some a, some b, some c, x7, x8, x9]
      have v3 : sSet 3 (cLst (aCons (cTup (aCons (cVar 4) (aCons (cVar 5) (aCons (cVar 6) aNil)))) (aCons (cVar 4) (aCons (cVar 4) aNil)))) E1 hd1 = .nx E2 he :=
        sSet_eq (i := 3) (cLst_eq (ds := due) (aCons_eq (cTup_eq rfl (szl rfl)) rfl) (szl rfl))
      let hf : AH := he ++ [.lst due]
      have k1 : hf[he.length]? = some (.lst due) := get_last
      have k2 : hf[hd1.length]? = some (.lst due) := get_old get_last
      have st : Sm hf 4 5000 (.ref he.length) := by
        have sa : ∀ d, d = a ∨ d = b ∨ d = c → Sm hf 2 100 d := fun d hd => by
          rcases hd with rfl | rfl | rfl
          · exact thg_sm ma
          · exact thg_sm mb
          · exact thg_sm mc
        have s1 : Sm hf 3 1000 (.tup [a, b, c]) := (Sm.tup (k := 2) (L := 100) fun d hd => sa d (by simpa using hd)).mono (Nat.le_refl _) (by simp)
        refine (Sm.lst (k := 3) (L := 1000) k1 fun d hd => ?_).mono (Nat.le_refl _) (by simp [due])
        simp only [due, List.mem_cons, List.not_mem_nil, or_false] at hd
        rcases hd with rfl | rfl | rfl
        · exact s1
        · exact (sa _ (.inl rfl)).mono (by omega) (by omega)
        · exact (sa _ (.inl rfl)).mono (by omega) (by omega)
      have v4 := sIf_f (a := sRet (cC (.bl false))) (b := sPass) (tVal_eq (rep_same (ε := E2) (h := he) (F := cFn (f_l_taken V) (aCons (cVar 4) (aCons (cVar 5) (aCons (cVar 6) aNil)))) (G := cVar 3) (List.prefix_refl hf) ((cFn_eq (A := aCons (cVar 4) (aCons (cVar 5) (aCons (cVar 6) aNil))) (ε := E2) rfl).trans taken_ok) (y := .ref hd1.length) rfl (by omega) (by omega) st (pdx_lst k2 k1)).2)
      obtain ⟨s, hg, eg, pg, kg⟩ := made_ok (V := V) (h := hf) (a := a) (b := b) (c := c)
      have ie : iEnu (cFn (f_l_made V) (aCons (cVar 4) (aCons (cVar 5) (aCons (cVar 6) aNil)))) E2 hf = .ok (.enu s 14) hg := by
        unfold iEnu
        rw [(cFn_eq (A := aCons (cVar 4) (aCons (cVar 5) (aCons (cVar 6) aNil))) (ε := E2) rfl).trans eg, Res.bind_ok]
        simp only [kg]
        rw [show (madeL V).length = 14 from by simp [madeL]]
      obtain ⟨ε9, h9, e9, y3, y7, y8, y9, rfl, p9⟩ := sFor_inv (g := gT 2 (gCons' (gN 7) (gCons' (gN 8) gNil'))) (B := inner V) ie
        (fun _ ε h' => ∃ y3 y7 y8 y9, ε = [some S, some (.ref n), some (.int (0 + (i : Int))), y3, some a, some b, some c, y7, y8, y9] ∧ hg <+: h') 14 rfl ⟨_, _, _, _, rfl, List.prefix_refl _⟩
        (by
          rintro j ε h' hj ⟨y3, y7, y8, y9, rfl, p'⟩
          have k' : h'[s]? = some (.lst (madeL V)) := getElem_pre p' kg
          obtain ⟨r, h'', er, p''⟩ := inner_ok T (h := h') hj (x0 := some S) (x1 := some (.ref n)) (x2 := some (.int (0 + (i : Int)))) (x3 := y3) (a := some a) (b := some b) (c := some c) (x9 := y9)
          refine ⟨.tup [.int j, .xo (V.c (j + 1))], _, _, h'', ?_, rfl, .inl er, ⟨_, _, _, _, rfl, p'.trans p''⟩⟩
          simp only [AIt.item, k']
          rw [if_pos (by simp [madeL])]
          have : (madeL V)[j]? = some (.xo (V.c (j + 1))) := by
            unfold madeL
            rw [List.getElem?_map, List.getElem?_range hj]
            rfl
          rw [this]
          rfl)
        (by
          rintro ε h' ⟨_, _, _, _, rfl, p'⟩
          have k' : h'[s]? = some (.lst (madeL V)) := getElem_pre p' kg
          simp only [AIt.fin, k']
          simp [madeL])
      have pa : hc1 <+: h9 := pd1.trans ((List.prefix_append _ _).trans ((List.prefix_append _ _).trans (pg.trans p9)))
      have Hl := Hc.lt
      have H9 : Hand h9 n m (c0 + 1 + 1 + 1) := by
        refine Hc.get ?_ ?_
        · rw [List.getElem?_eq_getElem Hl.1]; exact getElem_pre pa (List.getElem?_eq_getElem Hl.1)
        · rw [List.getElem?_eq_getElem Hl.2]; exact getElem_pre pa (List.getElem?_eq_getElem Hl.2)
      refine ⟨.int (0 + (i : Int)), E0, _, h9, ?_, rfl, .inl ((sSeq_nx v1).trans ((sSeq_nx (v2.trans rfl)).trans ((sSeq_nx v3).trans ((sSeq_nx (v4.trans rfl)).trans e9)))), _, _, _, _, _, _, _, _, rfl, c0 + 1 + 1 + 1, H9, by omega, by omega⟩
      have q : (List.range (4 : Int).toNat)[i]? = some i := List.getElem?_range (show i < 4 from hi)
      simp only [AIt.item, List.getElem?_map, q]
      rfl)
    (by rintro ε h _; rfl)
  have tt : ∀ {ε : AEnv} {h : AH}, cTup (aCons (cC (.int 2000)) (aCons (cC (.int 10)) (aCons (cC (.int 200)) aNil))) ε h = .ok (.tup [.int 2000, .int 10, .int 200]) h := cTup_eq rfl (szl rfl)
  have sc : ckT (.tup [.int 2000, .int 10, .int 200]) = true := by decide +kernel
  have sm : Sm h2 2 100 (.tup [.int 2000, .int 10, .int 200]) := by
    unfold ckT at sc
    split at sc <;> first | (cases sc; done) | skip
    rename_i p q
    rw [Bool.and_eq_true, decide_eq_true_eq] at sc
    exact ⟨p, pdx_pre (List.nil_prefix) _ _ _ q, sc.1, sc.2⟩
  exact ⟨h2, runB_ret rfl ((sSeq_nx w1).trans ((sSeq_nx e2).trans (sRet_eq (rep_same (List.prefix_refl h2) tt tt (by omega) (by omega) sm rfl).1)))⟩
end K06

namespace K06
open Mi L2 PySem PySem.Spec PyProof.Rows
/-! ### the table of classes -/
def tabX (c : Nat → Addr) : List (Addr × List Value) := [(c 0, veTail'), (c 1, .ref (c 0) :: veTail'), (c 2, .ref (c 0) :: veTail'), (c 3, .ref (c 0) :: veTail'), (c 4, .ref (c 0) :: veTail'), (c 5, .ref (c 0) :: veTail'), (c 6, .ref (c 0) :: veTail'), (c 7, .ref (c 0) :: veTail'), (c 8, .ref (c 0) :: veTail'), (c 9, .ref (c 0) :: veTail'), (c 10, .ref (c 0) :: veTail'), (c 11, keTail), (c 12, keTail), (c 13, ieTail), (c 14, ieTail)]
def subX (tab : List (Addr × List Value)) (E : Addr) (c : D) : Option Bool := match tab.lookup E with
  | none => none
  | some bm => match c with
    | .own C => if (tab.lookup C).isSome = true then some ((Value.ref E :: bm).contains (.ref C)) else none
    | .ty n => if (n == "ValueError" || n == "KeyError" || n == "IndexError") = true then some ((Value.ref E :: bm).contains (.type n)) else none
    | _ => none
def vOf (cs : List Addr) : XV := ⟨fun i => cs.getD i 0, subX (tabX fun i => cs.getD i 0)⟩
theorem lookup_mem {α β : Type} [BEq α] [LawfulBEq α] {a : α} {b : β} : ∀ {l : List (α × β)}, l.lookup a = some b → (a, b) ∈ l
  | [], h => by simp at h
  | (x, y) :: l, h => by
    rw [List.lookup_cons] at h
    split at h
    · rename_i e
      cases h
      rw [beq_iff_eq] at e
      rw [e]
      exact List.mem_cons_self
    · exact List.mem_cons_of_mem _ (lookup_mem h)
theorem subX_ok {K : PySem.W.Frag} {tab : List (Addr × List Value)} (h : ∀ p ∈ tab, ∃ n, Cld K p.1 p.2 n ∧ p.2.contains (.type "BaseException") = true ∧ p.2.contains (.type "object") = true)
    (hn : PySem.W.specialIn K (.builtin "object.__class__") "__get__" = some (some (.builtin "getset_descriptor.__get__"))) (ht : PySem.W.takesIn K (.builtin "object.__class__") = some true) : XSub K (subX tab) := by
  have hm : ∀ n : String, (n == "ValueError" || n == "KeyError" || n == "IndexError") = true → PySem.W.kitMeta n = true := fun n z => by
    rw [Bool.or_eq_true, Bool.or_eq_true, beq_iff_eq, beq_iff_eq, beq_iff_eq] at z
    rcases z with (rfl | rfl) | rfl <;> decide +kernel
  intro E c b e
  unfold subX at e
  split at e <;> first | (cases e; done) | skip
  rename_i bm q
  obtain ⟨n, T, h1, h2⟩ := h _ (lookup_mem q)
  refine ⟨T.exc h1 h2 hn ht, T.is, ?_⟩
  split at e <;> first | (cases e; done) | skip
  · rename_i C
    split at e <;> first | (cases e; done) | skip
    rename_i q2
    cases e
    obtain ⟨bm', q'⟩ := Option.isSome_iff_exists.mp q2
    obtain ⟨n', T', _⟩ := h _ (lookup_mem q')
    exact ⟨.ref C, .inl ⟨C, rfl, rfl⟩, T.kit T'⟩
  · rename_i m
    split at e <;> first | (cases e; done) | skip
    rename_i q2
    cases e
    exact ⟨.type m, .inr ⟨m, rfl, rfl⟩, T.kitT (hm _ q2)⟩
def htB (V : XV) : Bool := (List.range 14).all fun i => ((List.range 14).all fun j => V.sub (V.c (i + 1)) (.own (V.c (j + 1))) == some (decide (j = i))) &&
  (V.sub (V.c (i + 1)) (.own (V.c 0)) == some (decide (i < 10))) && (V.sub (V.c (i + 1)) (.ty "ValueError") == some (decide (i < 10))) &&
  (V.sub (V.c (i + 1)) (.ty "KeyError") == some (decide (i = 10) || decide (i = 11))) && (V.sub (V.c (i + 1)) (.ty "IndexError") == some (decide (11 < i)))
theorem HT.of {V : XV} (h : htB V = true) : HT V := by
  unfold htB at h
  rw [List.all_eq_true] at h
  have h' := fun i (hi : i < 14) => h i (List.mem_range.mpr hi)
  simp only [Bool.and_eq_true, List.all_eq_true, List.mem_range, beq_iff_eq] at h'
  exact ⟨fun i hi j hj => (h' i hi).1.1.1.1 j hj, fun i hi => (h' i hi).1.1.1.2, fun i hi => (h' i hi).1.1.2, fun i hi => (h' i hi).1.2, fun i hi => (h' i hi).2⟩
theorem all_mk {l : PySem.W.OpenLaw} {q : Program} {loose : List Str} {w : World} {K : PySem.W.Frag} {h : Heap} {mg mb : Str → Option Value} {mean : ExcName → Option Value} {fa : Addr} (T : Top q (PySem.W.looseW q loose) mean mg mb h) (X : K.In h) (G : h.Ns mainGlobals mg) (hfa : mg "law" = some (.ref fa))
    {f0 : Addr} {od0 an0 : Option Addr} {sl0 : Array (Option Value)} {oc0 kV0 dc0 pm0 cd0 ct0 : Value}
    {f1 : Addr} {od1 an1 : Option Addr} {sl1 : Array (Option Value)} {oc1 kV1 dc1 pm1 cd1 ct1 : Value}
    {f2 : Addr} {od2 an2 : Option Addr} {sl2 : Array (Option Value)} {oc2 kV2 dc2 pm2 cd2 ct2 : Value}
    {f3 : Addr} {od3 an3 : Option Addr} {sl3 : Array (Option Value)} {oc3 kV3 dc3 pm3 cd3 ct3 : Value}
    {f4 : Addr} {od4 an4 : Option Addr} {sl4 : Array (Option Value)} {oc4 kV4 dc4 pm4 cd4 ct4 : Value}
    {f5 : Addr} {od5 an5 : Option Addr} {sl5 : Array (Option Value)} {oc5 kV5 dc5 pm5 cd5 ct5 : Value}
    {f6 : Addr} {od6 an6 : Option Addr} {sl6 : Array (Option Value)} {oc6 kV6 dc6 pm6 cd6 ct6 : Value}
    {f7 : Addr} {od7 an7 : Option Addr} {sl7 : Array (Option Value)} {oc7 kV7 dc7 pm7 cd7 ct7 : Value}
    {f8 : Addr} {od8 an8 : Option Addr} {sl8 : Array (Option Value)} {oc8 kV8 dc8 pm8 cd8 ct8 : Value}
    {tk_DEEP : Tok}
    {tk_KEEP : Tok}
    {tk_MOST : Tok}
    {C0 C1 C2 C3 C4 C5 C6 C7 C8 C9 C10 C11 C12 C13 C14 : Addr}
    {cn0 cq0 : Str} {cD0 : Addr} {cb0 cs0 : List Value} {ct0_ : List Str} {cab0 : Bool} {cco0 : Option Bool} {cdd0 : Option Addr} {cx0 cy0 cz0 cu0 cv0 : Option Value}
    {cn1 cq1 : Str} {cD1 : Addr} {cb1 cs1 : List Value} {ct1_ : List Str} {cab1 : Bool} {cco1 : Option Bool} {cdd1 : Option Addr} {cx1 cy1 cz1 cu1 cv1 : Option Value}
    {g1 : Addr} {jd1 jn1 : Option Addr} {js1 : Array (Option Value)} {jo1 jk1 jc1 jp1 jv1 jt1 : Value}
    {cn2 cq2 : Str} {cD2 : Addr} {cb2 cs2 : List Value} {ct2_ : List Str} {cab2 : Bool} {cco2 : Option Bool} {cdd2 : Option Addr} {cx2 cy2 cz2 cu2 cv2 : Option Value}
    {cn3 cq3 : Str} {cD3 : Addr} {cb3 cs3 : List Value} {ct3_ : List Str} {cab3 : Bool} {cco3 : Option Bool} {cdd3 : Option Addr} {cx3 cy3 cz3 cu3 cv3 : Option Value}
    {cn4 cq4 : Str} {cD4 : Addr} {cb4 cs4 : List Value} {ct4_ : List Str} {cab4 : Bool} {cco4 : Option Bool} {cdd4 : Option Addr} {cx4 cy4 cz4 cu4 cv4 : Option Value}
    {cn5 cq5 : Str} {cD5 : Addr} {cb5 cs5 : List Value} {ct5_ : List Str} {cab5 : Bool} {cco5 : Option Bool} {cdd5 : Option Addr} {cx5 cy5 cz5 cu5 cv5 : Option Value}
    {g5 : Addr} {jd5 jn5 : Option Addr} {js5 : Array (Option Value)} {jo5 jk5 jc5 jp5 jv5 jt5 : Value}
    {cn6 cq6 : Str} {cD6 : Addr} {cb6 cs6 : List Value} {ct6_ : List Str} {cab6 : Bool} {cco6 : Option Bool} {cdd6 : Option Addr} {cx6 cy6 cz6 cu6 cv6 : Option Value}
    {g6 : Addr} {jd6 jn6 : Option Addr} {js6 : Array (Option Value)} {jo6 jk6 jc6 jp6 jv6 jt6 : Value}
    {cn7 cq7 : Str} {cD7 : Addr} {cb7 cs7 : List Value} {ct7_ : List Str} {cab7 : Bool} {cco7 : Option Bool} {cdd7 : Option Addr} {cx7 cy7 cz7 cu7 cv7 : Option Value}
    {cn8 cq8 : Str} {cD8 : Addr} {cb8 cs8 : List Value} {ct8_ : List Str} {cab8 : Bool} {cco8 : Option Bool} {cdd8 : Option Addr} {cx8 cy8 cz8 cu8 cv8 : Option Value}
    {g8 : Addr} {jd8 jn8 : Option Addr} {js8 : Array (Option Value)} {jo8 jk8 jc8 jp8 jv8 jt8 : Value}
    {cn9 cq9 : Str} {cD9 : Addr} {cb9 cs9 : List Value} {ct9_ : List Str} {cab9 : Bool} {cco9 : Option Bool} {cdd9 : Option Addr} {cx9 cy9 cz9 cu9 cv9 : Option Value}
    {g9 : Addr} {jd9 jn9 : Option Addr} {js9 : Array (Option Value)} {jo9 jk9 jc9 jp9 jv9 jt9 : Value}
    {cn10 cq10 : Str} {cD10 : Addr} {cb10 cs10 : List Value} {ct10_ : List Str} {cab10 : Bool} {cco10 : Option Bool} {cdd10 : Option Addr} {cx10 cy10 cz10 cu10 cv10 : Option Value}
    {g10 : Addr} {jd10 jn10 : Option Addr} {js10 : Array (Option Value)} {jo10 jk10 jc10 jp10 jv10 jt10 : Value}
    {cn11 cq11 : Str} {cD11 : Addr} {cb11 cs11 : List Value} {ct11_ : List Str} {cab11 : Bool} {cco11 : Option Bool} {cdd11 : Option Addr} {cx11 cy11 cz11 cu11 cv11 : Option Value}
    {g11 : Addr} {jd11 jn11 : Option Addr} {js11 : Array (Option Value)} {jo11 jk11 jc11 jp11 jv11 jt11 : Value}
    {cn12 cq12 : Str} {cD12 : Addr} {cb12 cs12 : List Value} {ct12_ : List Str} {cab12 : Bool} {cco12 : Option Bool} {cdd12 : Option Addr} {cx12 cy12 cz12 cu12 cv12 : Option Value}
    {g12 : Addr} {jd12 jn12 : Option Addr} {js12 : Array (Option Value)} {jo12 jk12 jc12 jp12 jv12 jt12 : Value}
    {cn13 cq13 : Str} {cD13 : Addr} {cb13 cs13 : List Value} {ct13_ : List Str} {cab13 : Bool} {cco13 : Option Bool} {cdd13 : Option Addr} {cx13 cy13 cz13 cu13 cv13 : Option Value}
    {g13 : Addr} {jd13 jn13 : Option Addr} {js13 : Array (Option Value)} {jo13 jk13 jc13 jp13 jv13 jt13 : Value}
    {cn14 cq14 : Str} {cD14 : Addr} {cb14 cs14 : List Value} {ct14_ : List Str} {cab14 : Bool} {cco14 : Option Bool} {cdd14 : Option Addr} {cx14 cy14 cz14 cu14 cv14 : Option Value}
    {g14 : Addr} {jd14 jn14 : Option Addr} {js14 : Array (Option Value)} {jo14 jk14 jc14 jp14 jv14 jt14 : Value}
    (a0 : PySem.W.nsIn K mainGlobals ("_law_begun" : Str) = some (some (.ref f0)))
    (l0 : K.lookup f0 = some ⟨oc0, od0, .func (PySem.W.fnOf ("_law_begun" : Str) ("_law_begun" : Str) (defArgs st_l_begun) (defBody st_l_begun) (defScope st_l_begun) .none kV0 dc0 pm0 an0 cd0 ct0), sl0⟩)
    (c_0 : PySem.W.codeIn K cd0 ("_law_begun" : Str) = true)
    (k0 : PySem.W.keepIn K (.ref f0) = true)
    (a1 : PySem.W.nsIn K mainGlobals ("_law_dealt" : Str) = some (some (.ref f1)))
    (l1 : K.lookup f1 = some ⟨oc1, od1, .func (PySem.W.fnOf ("_law_dealt" : Str) ("_law_dealt" : Str) (defArgs st_l_dealt) (defBody st_l_dealt) (defScope st_l_dealt) .none kV1 dc1 pm1 an1 cd1 ct1), sl1⟩)
    (c_1 : PySem.W.codeIn K cd1 ("_law_dealt" : Str) = true)
    (k1 : PySem.W.keepIn K (.ref f1) = true)
    (a2 : PySem.W.nsIn K mainGlobals ("_law_pick" : Str) = some (some (.ref f2)))
    (l2 : K.lookup f2 = some ⟨oc2, od2, .func (PySem.W.fnOf ("_law_pick" : Str) ("_law_pick" : Str) (defArgs st_l_pick) (defBody st_l_pick) (defScope st_l_pick) .none kV2 dc2 pm2 an2 cd2 ct2), sl2⟩)
    (c_2 : PySem.W.codeIn K cd2 ("_law_pick" : Str) = true)
    (k2 : PySem.W.keepIn K (.ref f2) = true)
    (a3 : PySem.W.nsIn K mainGlobals ("_law_thing" : Str) = some (some (.ref f3)))
    (l3 : K.lookup f3 = some ⟨oc3, od3, .func (PySem.W.fnOf ("_law_thing" : Str) ("_law_thing" : Str) (defArgs st_l_thing) (defBody st_l_thing) (defScope st_l_thing) .none kV3 dc3 pm3 an3 cd3 ct3), sl3⟩)
    (c_3 : PySem.W.codeIn K cd3 ("_law_thing" : Str) = true)
    (k3 : PySem.W.keepIn K (.ref f3) = true)
    (a4 : PySem.W.nsIn K mainGlobals ("_law_all_of" : Str) = some (some (.ref f4)))
    (l4 : K.lookup f4 = some ⟨oc4, od4, .func (PySem.W.fnOf ("_law_all_of" : Str) ("_law_all_of" : Str) (defArgs st_l_all_of) (defBody st_l_all_of) (defScope st_l_all_of) .none kV4 dc4 pm4 an4 cd4 ct4), sl4⟩)
    (c_4 : PySem.W.codeIn K cd4 ("_law_all_of" : Str) = true)
    (k4 : PySem.W.keepIn K (.ref f4) = true)
    (a5 : PySem.W.nsIn K mainGlobals ("_law_made" : Str) = some (some (.ref f5)))
    (l5 : K.lookup f5 = some ⟨oc5, od5, .func (PySem.W.fnOf ("_law_made" : Str) ("_law_made" : Str) (defArgs st_l_made) (defBody st_l_made) (defScope st_l_made) .none kV5 dc5 pm5 an5 cd5 ct5), sl5⟩)
    (c_5 : PySem.W.codeIn K cd5 ("_law_made" : Str) = true)
    (k5 : PySem.W.keepIn K (.ref f5) = true)
    (a6 : PySem.W.nsIn K mainGlobals ("_law_taken" : Str) = some (some (.ref f6)))
    (l6 : K.lookup f6 = some ⟨oc6, od6, .func (PySem.W.fnOf ("_law_taken" : Str) ("_law_taken" : Str) (defArgs st_l_taken) (defBody st_l_taken) (defScope st_l_taken) .none kV6 dc6 pm6 an6 cd6 ct6), sl6⟩)
    (c_6 : PySem.W.codeIn K cd6 ("_law_taken" : Str) = true)
    (k6 : PySem.W.keepIn K (.ref f6) = true)
    (a7 : PySem.W.nsIn K mainGlobals ("_law_fields_right" : Str) = some (some (.ref f7)))
    (l7 : K.lookup f7 = some ⟨oc7, od7, .func (PySem.W.fnOf ("_law_fields_right" : Str) ("_law_fields_right" : Str) (defArgs st_l_fields_right) (defBody st_l_fields_right) (defScope st_l_fields_right) .none kV7 dc7 pm7 an7 cd7 ct7), sl7⟩)
    (c_7 : PySem.W.codeIn K cd7 ("_law_fields_right" : Str) = true)
    (k7 : PySem.W.keepIn K (.ref f7) = true)
    (a8 : PySem.W.nsIn K mainGlobals ("law" : Str) = some (some (.ref f8)))
    (l8 : K.lookup f8 = some ⟨oc8, od8, .func (PySem.W.fnOf ("law" : Str) ("law" : Str) (defArgs st_law) (defBody st_law) (defScope st_law) .none kV8 dc8 pm8 an8 cd8 ct8), sl8⟩)
    (c_8 : PySem.W.codeIn K cd8 ("law" : Str) = true)
    (k8 : PySem.W.keepIn K (.ref f8) = true)
    (z_IndexError : PySem.W.nsIn K mainGlobals ("IndexError" : Str) = some none)
    (z_KeyError : PySem.W.nsIn K mainGlobals ("KeyError" : Str) = some none)
    (z_ValueError : PySem.W.nsIn K mainGlobals ("ValueError" : Str) = some none)
    (z_enumerate : PySem.W.nsIn K mainGlobals ("enumerate" : Str) = some none)
    (z_isinstance : PySem.W.nsIn K mainGlobals ("isinstance" : Str) = some none)
    (z_len : PySem.W.nsIn K mainGlobals ("len" : Str) = some none)
    (z_list : PySem.W.nsIn K mainGlobals ("list" : Str) = some none)
    (z_range : PySem.W.nsIn K mainGlobals ("range" : Str) = some none)
    (z_repr : PySem.W.nsIn K mainGlobals ("repr" : Str) = some none)
    (v_DEEP : PySem.W.nsIn K mainGlobals ("DEEP" : Str) = some (some (.int (10) tk_DEEP)))
    (v_KEEP : PySem.W.nsIn K mainGlobals ("KEEP" : Str) = some (some (.int (200) tk_KEEP)))
    (v_MOST : PySem.W.nsIn K mainGlobals ("MOST" : Str) = some (some (.int (2000) tk_MOST)))
    (cA0 : PySem.W.nsIn K mainGlobals ("SoError" : Str) = some (some (.ref C0)))
    (cA1 : PySem.W.nsIn K mainGlobals ("NoText" : Str) = some (some (.ref C1)))
    (cA2 : PySem.W.nsIn K mainGlobals ("NoProgram" : Str) = some (some (.ref C2)))
    (cA3 : PySem.W.nsIn K mainGlobals ("NoName" : Str) = some (some (.ref C3)))
    (cA4 : PySem.W.nsIn K mainGlobals ("NoWorth" : Str) = some (some (.ref C4)))
    (cA5 : PySem.W.nsIn K mainGlobals ("NoEdit" : Str) = some (some (.ref C5)))
    (cA6 : PySem.W.nsIn K mainGlobals ("NotYet" : Str) = some (some (.ref C6)))
    (cA7 : PySem.W.nsIn K mainGlobals ("Busy" : Str) = some (some (.ref C7)))
    (cA8 : PySem.W.nsIn K mainGlobals ("Said" : Str) = some (some (.ref C8)))
    (cA9 : PySem.W.nsIn K mainGlobals ("TooLong" : Str) = some (some (.ref C9)))
    (cA10 : PySem.W.nsIn K mainGlobals ("TooDeep" : Str) = some (some (.ref C10)))
    (cA11 : PySem.W.nsIn K mainGlobals ("NoCell" : Str) = some (some (.ref C11)))
    (cA12 : PySem.W.nsIn K mainGlobals ("NoModule" : Str) = some (some (.ref C12)))
    (cA13 : PySem.W.nsIn K mainGlobals ("NoThing" : Str) = some (some (.ref C13)))
    (cA14 : PySem.W.nsIn K mainGlobals ("NoStep" : Str) = some (some (.ref C14)))
    (cL0 : K.lookup C0 = some (excClassObj cn0 cq0 C0 cD0 cb0 veTail' true ct0_ cs0 cab0 cco0 cdd0 cx0 cy0 cz0 cu0 cv0 "ValueError.__new__"))
    (cG0 : PySem.W.findIn K (.ref C0) "__getattribute__" = some (some (.builtin "BaseException.__getattribute__")))
    (cH0 : PySem.W.findIn K (.ref C0) "__getattr__" = some none)
    (cI0 : PySem.W.findIn K (.ref C0) "__class__" = some (some (.builtin "object.__class__")))
    (cK0 : PySem.W.keepIn K (.ref C0) = true)
    (cL1 : K.lookup C1 = some (excClassObj cn1 cq1 C1 cD1 cb1 (.ref C0 :: veTail') true ct1_ cs1 cab1 cco1 cdd1 cx1 cy1 cz1 cu1 cv1 "ValueError.__new__"))
    (cG1 : PySem.W.findIn K (.ref C1) "__getattribute__" = some (some (.builtin "BaseException.__getattribute__")))
    (cH1 : PySem.W.findIn K (.ref C1) "__getattr__" = some none)
    (cI1 : PySem.W.findIn K (.ref C1) "__class__" = some (some (.builtin "object.__class__")))
    (cK1 : PySem.W.keepIn K (.ref C1) = true)
    (cS1 : PySem.W.findIn K (.ref C1) "__setattr__" = some (some (.builtin "object.__setattr__")))
    (cF1_0 : PySem.W.findIn K (.ref C1) ("line" : Str) = some none)
    (cN1 : PySem.W.findIn K (.ref C1) "__init__" = some (some (.ref g1)))
    (cY1 : PySem.W.typeIn K (.ref g1) = some (.type "function"))
    (cQ1 : K.lookup g1 = some ⟨jo1, jd1, .func (PySem.W.fnOf "__init__" "NoText.__init__" (defArgs sI_NoText) (defBody sI_NoText) (defScope sI_NoText) .none jk1 jc1 jp1 jn1 jv1 jt1), js1⟩)
    (cR1 : PySem.W.codeIn K jv1 "NoText.__init__" = true)
    (cO1 : PySem.W.keepIn K (.ref g1) = true)
    (cL2 : K.lookup C2 = some (excClassObj cn2 cq2 C2 cD2 cb2 (.ref C0 :: veTail') true ct2_ cs2 cab2 cco2 cdd2 cx2 cy2 cz2 cu2 cv2 "ValueError.__new__"))
    (cG2 : PySem.W.findIn K (.ref C2) "__getattribute__" = some (some (.builtin "BaseException.__getattribute__")))
    (cH2 : PySem.W.findIn K (.ref C2) "__getattr__" = some none)
    (cI2 : PySem.W.findIn K (.ref C2) "__class__" = some (some (.builtin "object.__class__")))
    (cK2 : PySem.W.keepIn K (.ref C2) = true)
    (cE2 : PySem.W.excIn K C2 veTail' "ValueError.__new__" = true)
    (cL3 : K.lookup C3 = some (excClassObj cn3 cq3 C3 cD3 cb3 (.ref C0 :: veTail') true ct3_ cs3 cab3 cco3 cdd3 cx3 cy3 cz3 cu3 cv3 "ValueError.__new__"))
    (cG3 : PySem.W.findIn K (.ref C3) "__getattribute__" = some (some (.builtin "BaseException.__getattribute__")))
    (cH3 : PySem.W.findIn K (.ref C3) "__getattr__" = some none)
    (cI3 : PySem.W.findIn K (.ref C3) "__class__" = some (some (.builtin "object.__class__")))
    (cK3 : PySem.W.keepIn K (.ref C3) = true)
    (cE3 : PySem.W.excIn K C3 veTail' "ValueError.__new__" = true)
    (cL4 : K.lookup C4 = some (excClassObj cn4 cq4 C4 cD4 cb4 (.ref C0 :: veTail') true ct4_ cs4 cab4 cco4 cdd4 cx4 cy4 cz4 cu4 cv4 "ValueError.__new__"))
    (cG4 : PySem.W.findIn K (.ref C4) "__getattribute__" = some (some (.builtin "BaseException.__getattribute__")))
    (cH4 : PySem.W.findIn K (.ref C4) "__getattr__" = some none)
    (cI4 : PySem.W.findIn K (.ref C4) "__class__" = some (some (.builtin "object.__class__")))
    (cK4 : PySem.W.keepIn K (.ref C4) = true)
    (cE4 : PySem.W.excIn K C4 veTail' "ValueError.__new__" = true)
    (cL5 : K.lookup C5 = some (excClassObj cn5 cq5 C5 cD5 cb5 (.ref C0 :: veTail') true ct5_ cs5 cab5 cco5 cdd5 cx5 cy5 cz5 cu5 cv5 "ValueError.__new__"))
    (cG5 : PySem.W.findIn K (.ref C5) "__getattribute__" = some (some (.builtin "BaseException.__getattribute__")))
    (cH5 : PySem.W.findIn K (.ref C5) "__getattr__" = some none)
    (cI5 : PySem.W.findIn K (.ref C5) "__class__" = some (some (.builtin "object.__class__")))
    (cK5 : PySem.W.keepIn K (.ref C5) = true)
    (cS5 : PySem.W.findIn K (.ref C5) "__setattr__" = some (some (.builtin "object.__setattr__")))
    (cF5_0 : PySem.W.findIn K (.ref C5) ("k" : Str) = some none)
    (cN5 : PySem.W.findIn K (.ref C5) "__init__" = some (some (.ref g5)))
    (cY5 : PySem.W.typeIn K (.ref g5) = some (.type "function"))
    (cQ5 : K.lookup g5 = some ⟨jo5, jd5, .func (PySem.W.fnOf "__init__" "NoEdit.__init__" (defArgs sI_NoEdit) (defBody sI_NoEdit) (defScope sI_NoEdit) .none jk5 jc5 jp5 jn5 jv5 jt5), js5⟩)
    (cR5 : PySem.W.codeIn K jv5 "NoEdit.__init__" = true)
    (cO5 : PySem.W.keepIn K (.ref g5) = true)
    (cL6 : K.lookup C6 = some (excClassObj cn6 cq6 C6 cD6 cb6 (.ref C0 :: veTail') true ct6_ cs6 cab6 cco6 cdd6 cx6 cy6 cz6 cu6 cv6 "ValueError.__new__"))
    (cG6 : PySem.W.findIn K (.ref C6) "__getattribute__" = some (some (.builtin "BaseException.__getattribute__")))
    (cH6 : PySem.W.findIn K (.ref C6) "__getattr__" = some none)
    (cI6 : PySem.W.findIn K (.ref C6) "__class__" = some (some (.builtin "object.__class__")))
    (cK6 : PySem.W.keepIn K (.ref C6) = true)
    (cS6 : PySem.W.findIn K (.ref C6) "__setattr__" = some (some (.builtin "object.__setattr__")))
    (cF6_0 : PySem.W.findIn K (.ref C6) ("many" : Str) = some none)
    (cN6 : PySem.W.findIn K (.ref C6) "__init__" = some (some (.ref g6)))
    (cY6 : PySem.W.typeIn K (.ref g6) = some (.type "function"))
    (cQ6 : K.lookup g6 = some ⟨jo6, jd6, .func (PySem.W.fnOf "__init__" "NotYet.__init__" (defArgs sI_NotYet) (defBody sI_NotYet) (defScope sI_NotYet) .none jk6 jc6 jp6 jn6 jv6 jt6), js6⟩)
    (cR6 : PySem.W.codeIn K jv6 "NotYet.__init__" = true)
    (cO6 : PySem.W.keepIn K (.ref g6) = true)
    (cL7 : K.lookup C7 = some (excClassObj cn7 cq7 C7 cD7 cb7 (.ref C0 :: veTail') true ct7_ cs7 cab7 cco7 cdd7 cx7 cy7 cz7 cu7 cv7 "ValueError.__new__"))
    (cG7 : PySem.W.findIn K (.ref C7) "__getattribute__" = some (some (.builtin "BaseException.__getattribute__")))
    (cH7 : PySem.W.findIn K (.ref C7) "__getattr__" = some none)
    (cI7 : PySem.W.findIn K (.ref C7) "__class__" = some (some (.builtin "object.__class__")))
    (cK7 : PySem.W.keepIn K (.ref C7) = true)
    (cE7 : PySem.W.excIn K C7 veTail' "ValueError.__new__" = true)
    (cL8 : K.lookup C8 = some (excClassObj cn8 cq8 C8 cD8 cb8 (.ref C0 :: veTail') true ct8_ cs8 cab8 cco8 cdd8 cx8 cy8 cz8 cu8 cv8 "ValueError.__new__"))
    (cG8 : PySem.W.findIn K (.ref C8) "__getattribute__" = some (some (.builtin "BaseException.__getattribute__")))
    (cH8 : PySem.W.findIn K (.ref C8) "__getattr__" = some none)
    (cI8 : PySem.W.findIn K (.ref C8) "__class__" = some (some (.builtin "object.__class__")))
    (cK8 : PySem.W.keepIn K (.ref C8) = true)
    (cS8 : PySem.W.findIn K (.ref C8) "__setattr__" = some (some (.builtin "object.__setattr__")))
    (cF8_0 : PySem.W.findIn K (.ref C8) ("k" : Str) = some none)
    (cF8_1 : PySem.W.findIn K (.ref C8) ("one" : Str) = some none)
    (cF8_2 : PySem.W.findIn K (.ref C8) ("other" : Str) = some none)
    (cN8 : PySem.W.findIn K (.ref C8) "__init__" = some (some (.ref g8)))
    (cY8 : PySem.W.typeIn K (.ref g8) = some (.type "function"))
    (cQ8 : K.lookup g8 = some ⟨jo8, jd8, .func (PySem.W.fnOf "__init__" "Said.__init__" (defArgs sI_Said) (defBody sI_Said) (defScope sI_Said) .none jk8 jc8 jp8 jn8 jv8 jt8), js8⟩)
    (cR8 : PySem.W.codeIn K jv8 "Said.__init__" = true)
    (cO8 : PySem.W.keepIn K (.ref g8) = true)
    (cL9 : K.lookup C9 = some (excClassObj cn9 cq9 C9 cD9 cb9 (.ref C0 :: veTail') true ct9_ cs9 cab9 cco9 cdd9 cx9 cy9 cz9 cu9 cv9 "ValueError.__new__"))
    (cG9 : PySem.W.findIn K (.ref C9) "__getattribute__" = some (some (.builtin "BaseException.__getattribute__")))
    (cH9 : PySem.W.findIn K (.ref C9) "__getattr__" = some none)
    (cI9 : PySem.W.findIn K (.ref C9) "__class__" = some (some (.builtin "object.__class__")))
    (cK9 : PySem.W.keepIn K (.ref C9) = true)
    (cS9 : PySem.W.findIn K (.ref C9) "__setattr__" = some (some (.builtin "object.__setattr__")))
    (cF9_0 : PySem.W.findIn K (.ref C9) ("most" : Str) = some none)
    (cN9 : PySem.W.findIn K (.ref C9) "__init__" = some (some (.ref g9)))
    (cY9 : PySem.W.typeIn K (.ref g9) = some (.type "function"))
    (cQ9 : K.lookup g9 = some ⟨jo9, jd9, .func (PySem.W.fnOf "__init__" "TooLong.__init__" (defArgs sI_TooLong) (defBody sI_TooLong) (defScope sI_TooLong) .none jk9 jc9 jp9 jn9 jv9 jt9), js9⟩)
    (cR9 : PySem.W.codeIn K jv9 "TooLong.__init__" = true)
    (cO9 : PySem.W.keepIn K (.ref g9) = true)
    (cL10 : K.lookup C10 = some (excClassObj cn10 cq10 C10 cD10 cb10 (.ref C0 :: veTail') true ct10_ cs10 cab10 cco10 cdd10 cx10 cy10 cz10 cu10 cv10 "ValueError.__new__"))
    (cG10 : PySem.W.findIn K (.ref C10) "__getattribute__" = some (some (.builtin "BaseException.__getattribute__")))
    (cH10 : PySem.W.findIn K (.ref C10) "__getattr__" = some none)
    (cI10 : PySem.W.findIn K (.ref C10) "__class__" = some (some (.builtin "object.__class__")))
    (cK10 : PySem.W.keepIn K (.ref C10) = true)
    (cS10 : PySem.W.findIn K (.ref C10) "__setattr__" = some (some (.builtin "object.__setattr__")))
    (cF10_0 : PySem.W.findIn K (.ref C10) ("deep" : Str) = some none)
    (cN10 : PySem.W.findIn K (.ref C10) "__init__" = some (some (.ref g10)))
    (cY10 : PySem.W.typeIn K (.ref g10) = some (.type "function"))
    (cQ10 : K.lookup g10 = some ⟨jo10, jd10, .func (PySem.W.fnOf "__init__" "TooDeep.__init__" (defArgs sI_TooDeep) (defBody sI_TooDeep) (defScope sI_TooDeep) .none jk10 jc10 jp10 jn10 jv10 jt10), js10⟩)
    (cR10 : PySem.W.codeIn K jv10 "TooDeep.__init__" = true)
    (cO10 : PySem.W.keepIn K (.ref g10) = true)
    (cL11 : K.lookup C11 = some (excClassObj cn11 cq11 C11 cD11 cb11 keTail true ct11_ cs11 cab11 cco11 cdd11 cx11 cy11 cz11 cu11 cv11 "LookupError.__new__"))
    (cG11 : PySem.W.findIn K (.ref C11) "__getattribute__" = some (some (.builtin "BaseException.__getattribute__")))
    (cH11 : PySem.W.findIn K (.ref C11) "__getattr__" = some none)
    (cI11 : PySem.W.findIn K (.ref C11) "__class__" = some (some (.builtin "object.__class__")))
    (cK11 : PySem.W.keepIn K (.ref C11) = true)
    (cS11 : PySem.W.findIn K (.ref C11) "__setattr__" = some (some (.builtin "object.__setattr__")))
    (cF11_0 : PySem.W.findIn K (.ref C11) ("name" : Str) = some none)
    (cN11 : PySem.W.findIn K (.ref C11) "__init__" = some (some (.ref g11)))
    (cY11 : PySem.W.typeIn K (.ref g11) = some (.type "function"))
    (cQ11 : K.lookup g11 = some ⟨jo11, jd11, .func (PySem.W.fnOf "__init__" "NoCell.__init__" (defArgs sI_NoCell) (defBody sI_NoCell) (defScope sI_NoCell) .none jk11 jc11 jp11 jn11 jv11 jt11), js11⟩)
    (cR11 : PySem.W.codeIn K jv11 "NoCell.__init__" = true)
    (cO11 : PySem.W.keepIn K (.ref g11) = true)
    (cL12 : K.lookup C12 = some (excClassObj cn12 cq12 C12 cD12 cb12 keTail true ct12_ cs12 cab12 cco12 cdd12 cx12 cy12 cz12 cu12 cv12 "LookupError.__new__"))
    (cG12 : PySem.W.findIn K (.ref C12) "__getattribute__" = some (some (.builtin "BaseException.__getattribute__")))
    (cH12 : PySem.W.findIn K (.ref C12) "__getattr__" = some none)
    (cI12 : PySem.W.findIn K (.ref C12) "__class__" = some (some (.builtin "object.__class__")))
    (cK12 : PySem.W.keepIn K (.ref C12) = true)
    (cS12 : PySem.W.findIn K (.ref C12) "__setattr__" = some (some (.builtin "object.__setattr__")))
    (cF12_0 : PySem.W.findIn K (.ref C12) ("module" : Str) = some none)
    (cN12 : PySem.W.findIn K (.ref C12) "__init__" = some (some (.ref g12)))
    (cY12 : PySem.W.typeIn K (.ref g12) = some (.type "function"))
    (cQ12 : K.lookup g12 = some ⟨jo12, jd12, .func (PySem.W.fnOf "__init__" "NoModule.__init__" (defArgs sI_NoModule) (defBody sI_NoModule) (defScope sI_NoModule) .none jk12 jc12 jp12 jn12 jv12 jt12), js12⟩)
    (cR12 : PySem.W.codeIn K jv12 "NoModule.__init__" = true)
    (cO12 : PySem.W.keepIn K (.ref g12) = true)
    (cL13 : K.lookup C13 = some (excClassObj cn13 cq13 C13 cD13 cb13 ieTail true ct13_ cs13 cab13 cco13 cdd13 cx13 cy13 cz13 cu13 cv13 "IndexError.__new__"))
    (cG13 : PySem.W.findIn K (.ref C13) "__getattribute__" = some (some (.builtin "BaseException.__getattribute__")))
    (cH13 : PySem.W.findIn K (.ref C13) "__getattr__" = some none)
    (cI13 : PySem.W.findIn K (.ref C13) "__class__" = some (some (.builtin "object.__class__")))
    (cK13 : PySem.W.keepIn K (.ref C13) = true)
    (cS13 : PySem.W.findIn K (.ref C13) "__setattr__" = some (some (.builtin "object.__setattr__")))
    (cF13_0 : PySem.W.findIn K (.ref C13) ("k" : Str) = some none)
    (cN13 : PySem.W.findIn K (.ref C13) "__init__" = some (some (.ref g13)))
    (cY13 : PySem.W.typeIn K (.ref g13) = some (.type "function"))
    (cQ13 : K.lookup g13 = some ⟨jo13, jd13, .func (PySem.W.fnOf "__init__" "NoThing.__init__" (defArgs sI_NoThing) (defBody sI_NoThing) (defScope sI_NoThing) .none jk13 jc13 jp13 jn13 jv13 jt13), js13⟩)
    (cR13 : PySem.W.codeIn K jv13 "NoThing.__init__" = true)
    (cO13 : PySem.W.keepIn K (.ref g13) = true)
    (cL14 : K.lookup C14 = some (excClassObj cn14 cq14 C14 cD14 cb14 ieTail true ct14_ cs14 cab14 cco14 cdd14 cx14 cy14 cz14 cu14 cv14 "IndexError.__new__"))
    (cG14 : PySem.W.findIn K (.ref C14) "__getattribute__" = some (some (.builtin "BaseException.__getattribute__")))
    (cH14 : PySem.W.findIn K (.ref C14) "__getattr__" = some none)
    (cI14 : PySem.W.findIn K (.ref C14) "__class__" = some (some (.builtin "object.__class__")))
    (cK14 : PySem.W.keepIn K (.ref C14) = true)
    (cS14 : PySem.W.findIn K (.ref C14) "__setattr__" = some (some (.builtin "object.__setattr__")))
    (cF14_0 : PySem.W.findIn K (.ref C14) ("step" : Str) = some none)
    (cN14 : PySem.W.findIn K (.ref C14) "__init__" = some (some (.ref g14)))
    (cY14 : PySem.W.typeIn K (.ref g14) = some (.type "function"))
    (cQ14 : K.lookup g14 = some ⟨jo14, jd14, .func (PySem.W.fnOf "__init__" "NoStep.__init__" (defArgs sI_NoStep) (defBody sI_NoStep) (defScope sI_NoStep) .none jk14 jc14 jp14 jn14 jv14 jt14), js14⟩)
    (cR14 : PySem.W.codeIn K jv14 "NoStep.__init__" = true)
    (cO14 : PySem.W.keepIn K (.ref g14) = true)
    (spc : PySem.W.specialIn K (.builtin "object.__class__") "__get__" = some (some (.builtin "getset_descriptor.__get__")))
    (tks : PySem.W.takesIn K (.builtin "object.__class__") = some true)
    (htb : htB (vOf [C0, C1, C2, C3, C4, C5, C6, C7, C8, C9, C10, C11, C12, C13, C14]) = true)
    (nsm : K.lookup sysModules = none) (ins : importsNone q = true)
    : LawG l w K 4 63 "_law_script" mg fa h := by
  have e := hfa.symm.trans (PySem.W.mg_of X G a8)
  cases e
  have D0 : Kd K mg ("_law_begun" : Str) st_l_begun _ _ _ := ⟨⟨_, _, _, _, _, _, _, _, rfl, l0⟩, ⟨k0, c_0⟩, PySem.W.mg_of X G a0⟩
  have D1 : Kd K mg ("_law_dealt" : Str) st_l_dealt _ _ _ := ⟨⟨_, _, _, _, _, _, _, _, rfl, l1⟩, ⟨k1, c_1⟩, PySem.W.mg_of X G a1⟩
  have D2 : Kd K mg ("_law_pick" : Str) st_l_pick _ _ _ := ⟨⟨_, _, _, _, _, _, _, _, rfl, l2⟩, ⟨k2, c_2⟩, PySem.W.mg_of X G a2⟩
  have D3 : Kd K mg ("_law_thing" : Str) st_l_thing _ _ _ := ⟨⟨_, _, _, _, _, _, _, _, rfl, l3⟩, ⟨k3, c_3⟩, PySem.W.mg_of X G a3⟩
  have D4 : Kd K mg ("_law_all_of" : Str) st_l_all_of _ _ _ := ⟨⟨_, _, _, _, _, _, _, _, rfl, l4⟩, ⟨k4, c_4⟩, PySem.W.mg_of X G a4⟩
  have D5 : Kd K mg ("_law_made" : Str) st_l_made _ _ _ := ⟨⟨_, _, _, _, _, _, _, _, rfl, l5⟩, ⟨k5, c_5⟩, PySem.W.mg_of X G a5⟩
  have D6 : Kd K mg ("_law_taken" : Str) st_l_taken _ _ _ := ⟨⟨_, _, _, _, _, _, _, _, rfl, l6⟩, ⟨k6, c_6⟩, PySem.W.mg_of X G a6⟩
  have D7 : Kd K mg ("_law_fields_right" : Str) st_l_fields_right _ _ _ := ⟨⟨_, _, _, _, _, _, _, _, rfl, l7⟩, ⟨k7, c_7⟩, PySem.W.mg_of X G a7⟩
  have D8 : Kd K mg ("law" : Str) st_law _ _ _ := ⟨⟨_, _, _, _, _, _, _, _, rfl, l8⟩, ⟨k8, c_8⟩, PySem.W.mg_of X G a8⟩
  have Tx : Txt K mg := ⟨PySem.W.mg_none_of X G z_IndexError, PySem.W.mg_none_of X G z_KeyError, PySem.W.mg_none_of X G z_ValueError, PySem.W.mg_none_of X G z_enumerate, PySem.W.mg_none_of X G z_isinstance, PySem.W.mg_none_of X G z_len, PySem.W.mg_none_of X G z_list, PySem.W.mg_none_of X G z_range, PySem.W.mg_none_of X G z_repr, ⟨_, PySem.W.mg_of X G v_DEEP, ⟨_, rfl⟩⟩, ⟨_, PySem.W.mg_of X G v_KEEP, ⟨_, rfl⟩⟩, ⟨_, PySem.W.mg_of X G v_MOST, ⟨_, rfl⟩⟩⟩
  have Z0 : Cld K C0 veTail' "ValueError.__new__" := ⟨⟨_, _, _, _, _, _, _, _, _, _, _, _, _, _, cL0⟩, cG0, cH0, cI0, cK0⟩
  have Z1 : Cld K C1 (.ref C0 :: veTail') "ValueError.__new__" := ⟨⟨_, _, _, _, _, _, _, _, _, _, _, _, _, _, cL1⟩, cG1, cH1, cI1, cK1⟩
  have Z2 : Cld K C2 (.ref C0 :: veTail') "ValueError.__new__" := ⟨⟨_, _, _, _, _, _, _, _, _, _, _, _, _, _, cL2⟩, cG2, cH2, cI2, cK2⟩
  have Z3 : Cld K C3 (.ref C0 :: veTail') "ValueError.__new__" := ⟨⟨_, _, _, _, _, _, _, _, _, _, _, _, _, _, cL3⟩, cG3, cH3, cI3, cK3⟩
  have Z4 : Cld K C4 (.ref C0 :: veTail') "ValueError.__new__" := ⟨⟨_, _, _, _, _, _, _, _, _, _, _, _, _, _, cL4⟩, cG4, cH4, cI4, cK4⟩
  have Z5 : Cld K C5 (.ref C0 :: veTail') "ValueError.__new__" := ⟨⟨_, _, _, _, _, _, _, _, _, _, _, _, _, _, cL5⟩, cG5, cH5, cI5, cK5⟩
  have Z6 : Cld K C6 (.ref C0 :: veTail') "ValueError.__new__" := ⟨⟨_, _, _, _, _, _, _, _, _, _, _, _, _, _, cL6⟩, cG6, cH6, cI6, cK6⟩
  have Z7 : Cld K C7 (.ref C0 :: veTail') "ValueError.__new__" := ⟨⟨_, _, _, _, _, _, _, _, _, _, _, _, _, _, cL7⟩, cG7, cH7, cI7, cK7⟩
  have Z8 : Cld K C8 (.ref C0 :: veTail') "ValueError.__new__" := ⟨⟨_, _, _, _, _, _, _, _, _, _, _, _, _, _, cL8⟩, cG8, cH8, cI8, cK8⟩
  have Z9 : Cld K C9 (.ref C0 :: veTail') "ValueError.__new__" := ⟨⟨_, _, _, _, _, _, _, _, _, _, _, _, _, _, cL9⟩, cG9, cH9, cI9, cK9⟩
  have Z10 : Cld K C10 (.ref C0 :: veTail') "ValueError.__new__" := ⟨⟨_, _, _, _, _, _, _, _, _, _, _, _, _, _, cL10⟩, cG10, cH10, cI10, cK10⟩
  have Z11 : Cld K C11 keTail "LookupError.__new__" := ⟨⟨_, _, _, _, _, _, _, _, _, _, _, _, _, _, cL11⟩, cG11, cH11, cI11, cK11⟩
  have Z12 : Cld K C12 keTail "LookupError.__new__" := ⟨⟨_, _, _, _, _, _, _, _, _, _, _, _, _, _, cL12⟩, cG12, cH12, cI12, cK12⟩
  have Z13 : Cld K C13 ieTail "IndexError.__new__" := ⟨⟨_, _, _, _, _, _, _, _, _, _, _, _, _, _, cL13⟩, cG13, cH13, cI13, cK13⟩
  have Z14 : Cld K C14 ieTail "IndexError.__new__" := ⟨⟨_, _, _, _, _, _, _, _, _, _, _, _, _, _, cL14⟩, cG14, cH14, cI14, cK14⟩
  obtain ⟨V, eV⟩ : ∃ V : XV, V = vOf [C0, C1, C2, C3, C4, C5, C6, C7, C8, C9, C10, C11, C12, C13, C14] := ⟨_, rfl⟩
  have HTV : HT V := by rw [eV]; exact HT.of htb
  have hS : XSub K V.sub := by
    rw [eV]
    refine subX_ok (fun p hp => ?_) spc tks
    simp only [tabX, List.mem_cons, List.not_mem_nil, or_false] at hp
    rcases hp with rfl | rfl | rfl | rfl | rfl | rfl | rfl | rfl | rfl | rfl | rfl | rfl | rfl | rfl | rfl
    · exact ⟨_, Z0, by first | rfl | decide +kernel, by first | rfl | decide +kernel⟩
    · exact ⟨_, Z1, by first | rfl | decide +kernel, by first | rfl | decide +kernel⟩
    · exact ⟨_, Z2, by first | rfl | decide +kernel, by first | rfl | decide +kernel⟩
    · exact ⟨_, Z3, by first | rfl | decide +kernel, by first | rfl | decide +kernel⟩
    · exact ⟨_, Z4, by first | rfl | decide +kernel, by first | rfl | decide +kernel⟩
    · exact ⟨_, Z5, by first | rfl | decide +kernel, by first | rfl | decide +kernel⟩
    · exact ⟨_, Z6, by first | rfl | decide +kernel, by first | rfl | decide +kernel⟩
    · exact ⟨_, Z7, by first | rfl | decide +kernel, by first | rfl | decide +kernel⟩
    · exact ⟨_, Z8, by first | rfl | decide +kernel, by first | rfl | decide +kernel⟩
    · exact ⟨_, Z9, by first | rfl | decide +kernel, by first | rfl | decide +kernel⟩
    · exact ⟨_, Z10, by first | rfl | decide +kernel, by first | rfl | decide +kernel⟩
    · exact ⟨_, Z11, by first | rfl | decide +kernel, by first | rfl | decide +kernel⟩
    · exact ⟨_, Z12, by first | rfl | decide +kernel, by first | rfl | decide +kernel⟩
    · exact ⟨_, Z13, by first | rfl | decide +kernel, by first | rfl | decide +kernel⟩
    · exact ⟨_, Z14, by first | rfl | decide +kernel, by first | rfl | decide +kernel⟩
  refine ⟨PySem.W.fnOf "law" "law" (defArgs st_law) (defBody st_law) (defScope st_law) .none kV8 dc8 pm8 an8 cd8 ct8, [], [], (f_law V), (by intro p hp; cases hp), (by intro p hp; cases hp), (by intro p hp; cases hp), nsm, (let ⟨mm, z, _⟩ := (T.seer ins).mods; ⟨mm, z⟩), fun s v => .of_eq rfl, fun ns hl hb => law_ok HTV hl hb, fun base _ _ TB => ?_⟩
  have hX : HX l.prog w K mg base V := by
    rw [eV] at hS ⊢
    exact ⟨PySem.W.mg_of X G cA0,
      PySem.W.mg_of X G cA1,
      xc_NoText (Z1.xcls beh_ve (by first | rfl | decide +kernel) PySem.F.store_ValueError (by first | rfl | decide +kernel) cS1) cN1 cY1 ⟨⟨_, _, _, _, _, _, _, _, _, rfl, cQ1, cR1⟩, cO1⟩ cF1_0 (PySem.W.mg_of X G cA1),
      PySem.W.mg_of X G cA2,
      ⟨⟨_, _, _, _, PySem.F.excBase_ValueError, cE2⟩, PySem.W.mg_of X G cA2, cK2⟩,
      PySem.W.mg_of X G cA3,
      ⟨⟨_, _, _, _, PySem.F.excBase_ValueError, cE3⟩, PySem.W.mg_of X G cA3, cK3⟩,
      PySem.W.mg_of X G cA4,
      ⟨⟨_, _, _, _, PySem.F.excBase_ValueError, cE4⟩, PySem.W.mg_of X G cA4, cK4⟩,
      PySem.W.mg_of X G cA5,
      xc_NoEdit (Z5.xcls beh_ve (by first | rfl | decide +kernel) PySem.F.store_ValueError (by first | rfl | decide +kernel) cS5) cN5 cY5 ⟨⟨_, _, _, _, _, _, _, _, _, rfl, cQ5, cR5⟩, cO5⟩ cF5_0 (PySem.W.mg_of X G cA5),
      PySem.W.mg_of X G cA6,
      xc_NotYet (Z6.xcls beh_ve (by first | rfl | decide +kernel) PySem.F.store_ValueError (by first | rfl | decide +kernel) cS6) cN6 cY6 ⟨⟨_, _, _, _, _, _, _, _, _, rfl, cQ6, cR6⟩, cO6⟩ cF6_0 (PySem.W.mg_of X G cA6),
      PySem.W.mg_of X G cA7,
      ⟨⟨_, _, _, _, PySem.F.excBase_ValueError, cE7⟩, PySem.W.mg_of X G cA7, cK7⟩,
      PySem.W.mg_of X G cA8,
      xc_Said (Z8.xcls beh_ve (by first | rfl | decide +kernel) PySem.F.store_ValueError (by first | rfl | decide +kernel) cS8) cN8 cY8 ⟨⟨_, _, _, _, _, _, _, _, _, rfl, cQ8, cR8⟩, cO8⟩ cF8_0 cF8_1 cF8_2 (PySem.W.mg_of X G cA8),
      PySem.W.mg_of X G cA9,
      xc_TooLong (Z9.xcls beh_ve (by first | rfl | decide +kernel) PySem.F.store_ValueError (by first | rfl | decide +kernel) cS9) cN9 cY9 ⟨⟨_, _, _, _, _, _, _, _, _, rfl, cQ9, cR9⟩, cO9⟩ cF9_0 (PySem.W.mg_of X G cA9),
      PySem.W.mg_of X G cA10,
      xc_TooDeep (Z10.xcls beh_ve (by first | rfl | decide +kernel) PySem.F.store_ValueError (by first | rfl | decide +kernel) cS10) cN10 cY10 ⟨⟨_, _, _, _, _, _, _, _, _, rfl, cQ10, cR10⟩, cO10⟩ cF10_0 (PySem.W.mg_of X G cA10),
      PySem.W.mg_of X G cA11,
      xc_NoCell (Z11.xcls beh_ke (by first | rfl | decide +kernel) ke_store (by first | rfl | decide +kernel) cS11) cN11 cY11 ⟨⟨_, _, _, _, _, _, _, _, _, rfl, cQ11, cR11⟩, cO11⟩ cF11_0 (PySem.W.mg_of X G cA11),
      PySem.W.mg_of X G cA12,
      xc_NoModule (Z12.xcls beh_ke (by first | rfl | decide +kernel) ke_store (by first | rfl | decide +kernel) cS12) cN12 cY12 ⟨⟨_, _, _, _, _, _, _, _, _, rfl, cQ12, cR12⟩, cO12⟩ cF12_0 (PySem.W.mg_of X G cA12),
      PySem.W.mg_of X G cA13,
      xc_NoThing (Z13.xcls beh_ie (by first | rfl | decide +kernel) PySem.F.store_IndexError (by first | rfl | decide +kernel) cS13) cN13 cY13 ⟨⟨_, _, _, _, _, _, _, _, _, rfl, cQ13, cR13⟩, cO13⟩ cF13_0 (PySem.W.mg_of X G cA13),
      PySem.W.mg_of X G cA14,
      xc_NoStep (Z14.xcls beh_ie (by first | rfl | decide +kernel) PySem.F.store_IndexError (by first | rfl | decide +kernel) cS14) cN14 cY14 ⟨⟨_, _, _, _, _, _, _, _, _, rfl, cQ14, cR14⟩, cO14⟩ cF14_0 (PySem.W.mg_of X G cA14),
      hS,
      Z8.xf rfl,
      (Z8.exm Z0 rfl).trans (by simp),
      Z11.xf (by decide +kernel),
      (Z11.exm Z11 (by decide +kernel)).trans (by simp),
      Z14.xf (by decide +kernel),
      (Z14.exm Z14 (by decide +kernel)).trans (by simp),
      Z8.exc rfl rfl spc tks,
      Z8.is,
      (Z8.kit Z8).trans (by simp)⟩
  have C_l_begun := ok_l_begun (P := l.prog) (w := w) (base := base) (cls := []) (ts := ([] : List (Addr × Addr)).map (·.2)) Tx D0
  have C_l_dealt := ok_l_dealt (P := l.prog) (w := w) (base := base) (cls := []) (ts := ([] : List (Addr × Addr)).map (·.2)) Tx D1
  have C_l_pick := ok_l_pick (P := l.prog) (w := w) (base := base) (cls := []) (ts := ([] : List (Addr × Addr)).map (·.2)) Tx C_l_dealt D2
  have C_l_thing := ok_l_thing (P := l.prog) (w := w) (base := base) (cls := []) (ts := ([] : List (Addr × Addr)).map (·.2)) Tx C_l_pick D3
  have C_l_all_of := ok_l_all_of (P := l.prog) (w := w) (base := base) (cls := []) (ts := ([] : List (Addr × Addr)).map (·.2)) Tx hX D4
  have C_l_made := ok_l_made (P := l.prog) (w := w) (base := base) (cls := []) (ts := ([] : List (Addr × Addr)).map (·.2)) Tx hX D5
  have C_l_taken := ok_l_taken (P := l.prog) (w := w) (base := base) (cls := []) (ts := ([] : List (Addr × Addr)).map (·.2)) Tx hX D6
  have C_l_fields_right := ok_l_fields_right (P := l.prog) (w := w) (base := base) (cls := []) (ts := ([] : List (Addr × Addr)).map (·.2)) Tx hX D7
  exact fn_law (P := l.prog) (w := w) (cls := []) Tx hX C_l_begun C_l_thing C_l_fields_right C_l_taken C_l_made C_l_all_of D8
end K06

open PySem PySem.W PyProof.Rows in
set_option maxRecDepth 100000 in
set_option maxHeartbeats 0 in
theorem PySem.Challenge.cw_everso_k06_refusals_made_holds : PySem.Challenge.rw_everso_k06_refusals_made.Holds := by
  w_on; o_law; k_head; (case hw => w_witness2)
  k_fill
  refine Mi.walkG (l := PySem.Challenge.rw_everso_k06_refusals_made) (n := 63) (k := 4) (x := "_law_script") rfl (by decide) rfl ⟨rfl, by decide, by decide⟩ (fun w h Y => PySem.W.kIn_of Y) ?F
  case F =>
    intro w mg mb mean fa h T Y KX G hmg
    refine' K06.all_mk T KX G hmg ?a0 ?l0 ?c_0 ?k0 ?a1 ?l1 ?c_1 ?k1 ?a2 ?l2 ?c_2 ?k2 ?a3 ?l3 ?c_3 ?k3 ?a4 ?l4 ?c_4 ?k4 ?a5 ?l5 ?c_5 ?k5 ?a6 ?l6 ?c_6 ?k6 ?a7 ?l7 ?c_7 ?k7 ?a8 ?l8 ?c_8 ?k8 ?z_IndexError ?z_KeyError ?z_ValueError ?z_enumerate ?z_isinstance ?z_len ?z_list ?z_range ?z_repr ?v_DEEP ?v_KEEP ?v_MOST ?cA0 ?cA1 ?cA2 ?cA3 ?cA4 ?cA5 ?cA6 ?cA7 ?cA8 ?cA9 ?cA10 ?cA11 ?cA12 ?cA13 ?cA14 ?cL0 ?cG0 ?cH0 ?cI0 ?cK0 ?cL1 ?cG1 ?cH1 ?cI1 ?cK1 ?cS1 ?cF1_0 ?cN1 ?cY1 ?cQ1 ?cR1 ?cO1 ?cL2 ?cG2 ?cH2 ?cI2 ?cK2 ?cE2 ?cL3 ?cG3 ?cH3 ?cI3 ?cK3 ?cE3 ?cL4 ?cG4 ?cH4 ?cI4 ?cK4 ?cE4 ?cL5 ?cG5 ?cH5 ?cI5 ?cK5 ?cS5 ?cF5_0 ?cN5 ?cY5 ?cQ5 ?cR5 ?cO5 ?cL6 ?cG6 ?cH6 ?cI6 ?cK6 ?cS6 ?cF6_0 ?cN6 ?cY6 ?cQ6 ?cR6 ?cO6 ?cL7 ?cG7 ?cH7 ?cI7 ?cK7 ?cE7 ?cL8 ?cG8 ?cH8 ?cI8 ?cK8 ?cS8 ?cF8_0 ?cF8_1 ?cF8_2 ?cN8 ?cY8 ?cQ8 ?cR8 ?cO8 ?cL9 ?cG9 ?cH9 ?cI9 ?cK9 ?cS9 ?cF9_0 ?cN9 ?cY9 ?cQ9 ?cR9 ?cO9 ?cL10 ?cG10 ?cH10 ?cI10 ?cK10 ?cS10 ?cF10_0 ?cN10 ?cY10 ?cQ10 ?cR10 ?cO10 ?cL11 ?cG11 ?cH11 ?cI11 ?cK11 ?cS11 ?cF11_0 ?cN11 ?cY11 ?cQ11 ?cR11 ?cO11 ?cL12 ?cG12 ?cH12 ?cI12 ?cK12 ?cS12 ?cF12_0 ?cN12 ?cY12 ?cQ12 ?cR12 ?cO12 ?cL13 ?cG13 ?cH13 ?cI13 ?cK13 ?cS13 ?cF13_0 ?cN13 ?cY13 ?cQ13 ?cR13 ?cO13 ?cL14 ?cG14 ?cH14 ?cI14 ?cK14 ?cS14 ?cF14_0 ?cN14 ?cY14 ?cQ14 ?cR14 ?cO14 ?spc ?tks ?htb ?nsm ?ins
    (case a0 => k_is)
    (case l0 => k_is)
    (case c_0 => k_is)
    (case k0 => k_is)
    (case a1 => k_is)
    (case l1 => k_is)
    (case c_1 => k_is)
    (case k1 => k_is)
    (case a2 => k_is)
    (case l2 => k_is)
    (case c_2 => k_is)
    (case k2 => k_is)
    (case a3 => k_is)
    (case l3 => k_is)
    (case c_3 => k_is)
    (case k3 => k_is)
    (case a4 => k_is)
    (case l4 => k_is)
    (case c_4 => k_is)
    (case k4 => k_is)
    (case a5 => k_is)
    (case l5 => k_is)
    (case c_5 => k_is)
    (case k5 => k_is)
    (case a6 => k_is)
    (case l6 => k_is)
    (case c_6 => k_is)
    (case k6 => k_is)
    (case a7 => k_is)
    (case l7 => k_is)
    (case c_7 => k_is)
    (case k7 => k_is)
    (case a8 => k_is)
    (case l8 => k_is)
    (case c_8 => k_is)
    (case k8 => k_is)
    (case z_IndexError => k_is)
    (case z_KeyError => k_is)
    (case z_ValueError => k_is)
    (case z_enumerate => k_is)
    (case z_isinstance => k_is)
    (case z_len => k_is)
    (case z_list => k_is)
    (case z_range => k_is)
    (case z_repr => k_is)
    (case v_DEEP => k_is)
    (case v_KEEP => k_is)
    (case v_MOST => k_is)
    (case cA0 => k_is)
    (case cA1 => k_is)
    (case cA2 => k_is)
    (case cA3 => k_is)
    (case cA4 => k_is)
    (case cA5 => k_is)
    (case cA6 => k_is)
    (case cA7 => k_is)
    (case cA8 => k_is)
    (case cA9 => k_is)
    (case cA10 => k_is)
    (case cA11 => k_is)
    (case cA12 => k_is)
    (case cA13 => k_is)
    (case cA14 => k_is)
    (case cL0 => k_is)
    (case cG0 => k_is)
    (case cH0 => k_is)
    (case cI0 => k_is)
    (case cK0 => k_is)
    (case cL1 => k_is)
    (case cG1 => k_is)
    (case cH1 => k_is)
    (case cI1 => k_is)
    (case cK1 => k_is)
    (case cS1 => k_is)
    (case cF1_0 => k_is)
    (case cN1 => k_is)
    (case cY1 => k_is)
    (case cQ1 => k_is)
    (case cR1 => k_is)
    (case cO1 => k_is)
    (case cL2 => k_is)
    (case cG2 => k_is)
    (case cH2 => k_is)
    (case cI2 => k_is)
    (case cK2 => k_is)
    (case cE2 => first | rfl | kernel_rfl)
    (case cL3 => k_is)
    (case cG3 => k_is)
    (case cH3 => k_is)
    (case cI3 => k_is)
    (case cK3 => k_is)
    (case cE3 => first | rfl | kernel_rfl)
    (case cL4 => k_is)
    (case cG4 => k_is)
    (case cH4 => k_is)
    (case cI4 => k_is)
    (case cK4 => k_is)
    (case cE4 => first | rfl | kernel_rfl)
    (case cL5 => k_is)
    (case cG5 => k_is)
    (case cH5 => k_is)
    (case cI5 => k_is)
    (case cK5 => k_is)
    (case cS5 => k_is)
    (case cF5_0 => k_is)
    (case cN5 => k_is)
    (case cY5 => k_is)
    (case cQ5 => k_is)
    (case cR5 => k_is)
    (case cO5 => k_is)
    (case cL6 => k_is)
    (case cG6 => k_is)
    (case cH6 => k_is)
    (case cI6 => k_is)
    (case cK6 => k_is)
    (case cS6 => k_is)
    (case cF6_0 => k_is)
    (case cN6 => k_is)
    (case cY6 => k_is)
    (case cQ6 => k_is)
    (case cR6 => k_is)
    (case cO6 => k_is)
    (case cL7 => k_is)
    (case cG7 => k_is)
    (case cH7 => k_is)
    (case cI7 => k_is)
    (case cK7 => k_is)
    (case cE7 => first | rfl | kernel_rfl)
    (case cL8 => k_is)
    (case cG8 => k_is)
    (case cH8 => k_is)
    (case cI8 => k_is)
    (case cK8 => k_is)
    (case cS8 => k_is)
    (case cF8_0 => k_is)
    (case cF8_1 => k_is)
    (case cF8_2 => k_is)
    (case cN8 => k_is)
    (case cY8 => k_is)
    (case cQ8 => k_is)
    (case cR8 => k_is)
    (case cO8 => k_is)
    (case cL9 => k_is)
    (case cG9 => k_is)
    (case cH9 => k_is)
    (case cI9 => k_is)
    (case cK9 => k_is)
    (case cS9 => k_is)
    (case cF9_0 => k_is)
    (case cN9 => k_is)
    (case cY9 => k_is)
    (case cQ9 => k_is)
    (case cR9 => k_is)
    (case cO9 => k_is)
    (case cL10 => k_is)
    (case cG10 => k_is)
    (case cH10 => k_is)
    (case cI10 => k_is)
    (case cK10 => k_is)
    (case cS10 => k_is)
    (case cF10_0 => k_is)
    (case cN10 => k_is)
    (case cY10 => k_is)
    (case cQ10 => k_is)
    (case cR10 => k_is)
    (case cO10 => k_is)
    (case cL11 => k_is)
    (case cG11 => k_is)
    (case cH11 => k_is)
    (case cI11 => k_is)
    (case cK11 => k_is)
    (case cS11 => k_is)
    (case cF11_0 => k_is)
    (case cN11 => k_is)
    (case cY11 => k_is)
    (case cQ11 => k_is)
    (case cR11 => k_is)
    (case cO11 => k_is)
    (case cL12 => k_is)
    (case cG12 => k_is)
    (case cH12 => k_is)
    (case cI12 => k_is)
    (case cK12 => k_is)
    (case cS12 => k_is)
    (case cF12_0 => k_is)
    (case cN12 => k_is)
    (case cY12 => k_is)
    (case cQ12 => k_is)
    (case cR12 => k_is)
    (case cO12 => k_is)
    (case cL13 => k_is)
    (case cG13 => k_is)
    (case cH13 => k_is)
    (case cI13 => k_is)
    (case cK13 => k_is)
    (case cS13 => k_is)
    (case cF13_0 => k_is)
    (case cN13 => k_is)
    (case cY13 => k_is)
    (case cQ13 => k_is)
    (case cR13 => k_is)
    (case cO13 => k_is)
    (case cL14 => k_is)
    (case cG14 => k_is)
    (case cH14 => k_is)
    (case cI14 => k_is)
    (case cK14 => k_is)
    (case cS14 => k_is)
    (case cF14_0 => k_is)
    (case cN14 => k_is)
    (case cY14 => k_is)
    (case cQ14 => k_is)
    (case cR14 => k_is)
    (case cO14 => k_is)
    (case spc => k_is)
    (case tks => k_is)
    (case htb => decide +kernel)
    (case nsm => first | rfl | kernel_rfl)
    (case ins => first | rfl | kernel_rfl)

