import PyProof.Rows.All
import HandS.ForMost
import HandS.ForExc
import HandS.AnyAll
import HandS.IsInst
import HandS.Style
import HandS.TupAny
import HandS.TupMul
import HandS.Flow
import HandS.Deep
import HandS.Text
import HandS.ForDict
import HandS.EndTab
import HandS.EndBits
import HandS.Dict
import HandS.Words
import HandS.DeepEq
import HandS.ExcInit
import HandS.ExcIs
import HandS.ExcField
import HandS.Defaults
import KE.KExcIs
import KE.KExcInit
import HandS.ExcValue
import HandS.GenList
import HandS.Zip
import HandS.StrMore
import HandS.FStr
import HandS.More
import KE.KUnpackStar
import HandS.Codes
import KE.IntTextLaws
import PySem.Challenge.RW_everso_k04_worths_there_and_back
set_option Elab.async false
set_option linter.all false
set_option maxRecDepth 100000
set_option maxHeartbeats 0
/-! Mi0: a small store semantics over the layer: values, stores, what stands for what. -/
namespace Mi
open L2 PySem PySem.Spec PyProof.Rows

/-- a value: tuples (and lists that nobody changes: the script) are inline, what may change stands at a number of the store -/
inductive D where
  | non | bl (b : Bool) | int (i : Int) | str (x : Str) | tup (xs : List D) | rol (xs : List D) | ref (n : Nat) | ty (n : String) | own (C : Addr) | xo (C : Addr)
/-- what stands at a number -/
inductive O where
  | lst (xs : List D) | dic (kvs : List (Key × D)) | ins (c : Nat) (fs : List (Str × D))
abbrev AH := List O
/-- an exception: its class (an own one by its number, or a built-in one), its fields -/
inductive Cl where
  | own (c : Nat) | ty (n : String)
structure Exn where
  cl : Cl
  fs : List (Str × D)
inductive Res (α : Type) where
  | ok (a : α) (h : AH) | exc (x : Exn) (h : AH) | stuck
def Res.bind {α β : Type} (r : Res α) (f : α → AH → Res β) : Res β :=
  match r with
  | .ok a h => f a h
  | .exc x h => .exc x h
  | .stuck => .stuck
@[simp] theorem Res.bind_ok {α β : Type} (a : α) (h : AH) (f : α → AH → Res β) : (Res.ok a h).bind f = f a h := rfl
@[simp] theorem Res.bind_exc {α β : Type} (x : Exn) (h : AH) (f : α → AH → Res β) : (Res.exc (α := α) x h).bind f = .exc x h := rfl
@[simp] theorem Res.bind_stuck {α β : Type} (f : α → AH → Res β) : (Res.stuck (α := α)).bind f = .stuck := rfl
abbrev AEnv := List (Option D)

/-- a list that nobody changes -/
def SqR (K : PySem.W.Frag) (H : Hp) (a : Addr) (xs : List V) : Prop :=
  (∃ o, H a = some (.frz o (.lst xs))) ∨
    ∃ (ob : Obj) (zs : Array Value) (k : Nat), K.lookup a = some ob ∧ ob.cls = .type "list" ∧ ob.dict = none ∧ ob.data = .seq zs k ∧ zs.size ≤ sizeLine ∧ Vals xs zs.toList
/-- an exception of the class at C, that nobody changes, stands at a -/
def XoR (H : Hp) (a C : Addr) : Prop := ∃ (o : Obj) (u : HO), H a = some (.frz o u) ∧ o.cls = .ref C ∧ (∃ vs, o.data = .fields vs) ∧ (o.dict = none ∨ ∃ (dx : Addr) (od : Obj) (ud : HO), o.dict = some dx ∧ H dx = some (.frz od ud))
theorem SqR.sq {K : PySem.W.Frag} {H : Hp} {a : Addr} {xs : List V} (h : SqR K H a xs) : SqL K H a xs := by
  rcases h with ⟨o, h⟩ | h
  · exact .inl (.inr ⟨o, h⟩)
  · exact .inr h
section
variable (K : PySem.W.Frag)
mutual
/-- v stands for d -/
inductive RV (ρ : List Addr) (H : Hp) : V → D → Prop where
  | non : RV ρ H .non .non
  | bl (b : Bool) : RV ρ H (.bl b) (.bl b)
  | int (i : Int) : RV ρ H (.int i) (.int i)
  | str (x : Str) : RV ρ H (.str x) (.str x)
  | tup {a : Addr} {xs : List V} {ds : List D} : SqT K H a xs → RVs ρ H xs ds → RV ρ H (.ref a) (.tup ds)
  | rol {a : Addr} {xs : List V} {ds : List D} : SqR K H a xs → RVs ρ H xs ds → RV ρ H (.ref a) (.rol ds)
  | ref {a : Addr} {n : Nat} : ρ[n]? = some a → RV ρ H (.ref a) (.ref n)
  | ty (n : String) : RV ρ H (.ty n) (.ty n)
  | own (C : Addr) : RV ρ H (.ref C) (.own C)
  | xo {a C : Addr} : XoR H a C → RV ρ H (.ref a) (.xo C)
inductive RVs (ρ : List Addr) (H : Hp) : List V → List D → Prop where
  | nil : RVs ρ H [] []
  | cons {x : V} {d : D} {xs : List V} {ds : List D} : RV ρ H x d → RVs ρ H xs ds → RVs ρ H (x :: xs) (d :: ds)
end
def RKs (ρ : List Addr) (H : Hp) : List (Key × V) → List (Key × D) → Prop := Paired fun p q => p.1 = q.1 ∧ RV K ρ H p.2 q.2
def RFs (ρ : List Addr) (H : Hp) : List (Str × V) → List (Str × D) → Prop := Paired fun p q => p.1 = q.1 ∧ RV K ρ H p.2 q.2
/-- what stands at a -/
def RO (cls : List Addr) (ρ : List Addr) (H : Hp) (a : Addr) : O → Prop
  | .lst ds => ∃ xs, H a = some (.lst xs) ∧ RVs K ρ H xs ds
  | .dic kvs => ∃ xs, H a = some (.dK xs) ∧ RKs K ρ H xs kvs
  | .ins c fs => ∃ C dx xs, cls[c]? = some C ∧ H a = some (.ins C dx xs) ∧ RFs K ρ H xs fs
/-- the store h, its numbers standing at ρ -/
structure RH (cls : List Addr) (ts : List Addr) (ρ : List Addr) (H : Hp) (h : AH) : Prop where
  len : ρ.length = h.length
  nd : ρ.Nodup
  obj : ∀ (n : Nat) (a : Addr) (o : O), ρ[n]? = some a → h[n]? = some o → RO K cls ρ H a o
  tab : ∀ P ∈ ts, P ∉ ρ ∧ ∃ ps : Array Value, H P = some (.tbl ps) ∧ TriplesOk ps.toList
  sm : sysModules ∉ ρ ∧ ∃ φ, H sysModules = some (.ext φ)
/-- the slots stand for the names' values -/
def RE (ρ : List Addr) (H : Hp) (σ : L2.St) (ε : AEnv) : Prop := ε.length = σ.length ∧ ∀ (i : Nat) (d : D), ε[i]? = some (some d) → ∃ v, σ[i]? = some (some v) ∧ RV K ρ H v d
end
/-- the world goes on: numbers stay, new ones stand at new places, what no number stands at is as it was -/
structure Ext (ts : List Addr) (ρ ρ' : List Addr) (H H' : Hp) : Prop where
  pre : ρ <+: ρ'
  new : ∀ a ∈ ρ', a ∉ ρ → H a = none
  keep : ∀ a o, H a = some o → a ∉ ρ → a ∉ ts → H' a = some o
  tup : ∀ a xs, H a = some (.tup xs) → H' a = some (.tup xs)
  frz : ∀ a o u, H a = some (.frz o u) → H' a = some (.frz o u)
  there : ∀ a, H' a = none → H a = none
theorem Ext.refl {ts ρ : List Addr} {H : Hp} : Ext ts ρ ρ H H := ⟨List.prefix_refl _, fun _ h n => absurd h n, fun _ _ e _ _ => e, fun _ _ e => e, fun _ _ _ e => e, fun _ e => e⟩
theorem Ext.get {ts ρ ρ' : List Addr} {H H' : Hp} (e : Ext ts ρ ρ' H H') {n : Nat} {a : Addr} (h : ρ[n]? = some a) : ρ'[n]? = some a := by
  obtain ⟨r, rfl⟩ := e.pre
  rw [List.getElem?_append_left (List.getElem?_eq_some_iff.mp h).1]
  exact h
theorem Ext.sub {ts ρ ρ' : List Addr} {H H' : Hp} (e : Ext ts ρ ρ' H H') {a : Addr} (h : a ∈ ρ) : a ∈ ρ' := e.pre.subset h
theorem Ext.trans {ts ρ ρ1 ρ2 : List Addr} {H H1 H2 : Hp} (a : Ext ts ρ ρ1 H H1) (b : Ext ts ρ1 ρ2 H1 H2) : Ext ts ρ ρ2 H H2 where
  pre := a.pre.trans b.pre
  new := fun c h n => by
    by_cases h1 : c ∈ ρ1
    · exact a.new c h1 n
    · exact a.there c (b.new c h h1)
  keep := fun c o e n ht => by
    have z := a.keep c o e n ht
    refine b.keep c o z (fun h1 => ?_) ht
    rw [a.new c h1 n] at e
    cases e
  tup := fun c xs e => b.tup c xs (a.tup c xs e)
  frz := fun c o u e => b.frz c o u (a.frz c o u e)
  there := fun c e => a.there c (b.there c e)
theorem Ext.sqT {K : PySem.W.Frag} {ts ρ ρ' : List Addr} {H H' : Hp} (e : Ext ts ρ ρ' H H') {a : Addr} {xs : List V} (h : SqT K H a xs) : SqT K H' a xs := by
  rcases h with (z | ⟨o, z⟩) | z
  · exact .inl (.inl (e.tup _ _ z))
  · exact .inl (.inr ⟨o, e.frz _ _ _ z⟩)
  · exact .inr z
theorem Ext.xoR {ts ρ ρ' : List Addr} {H H' : Hp} (e : Ext ts ρ ρ' H H') {a C : Addr} (h : XoR H a C) : XoR H' a C := by
  obtain ⟨o, u, h1, h2, h3, h4⟩ := h
  refine ⟨o, u, e.frz _ _ _ h1, h2, h3, ?_⟩
  rcases h4 with h4 | ⟨dx, od, ud, h4, h5⟩
  · exact .inl h4
  · exact .inr ⟨dx, od, ud, h4, e.frz _ _ _ h5⟩
theorem Ext.sqR {K : PySem.W.Frag} {ts ρ ρ' : List Addr} {H H' : Hp} (e : Ext ts ρ ρ' H H') {a : Addr} {xs : List V} (h : SqR K H a xs) : SqR K H' a xs := by
  rcases h with ⟨o, h⟩ | h
  · exact .inl ⟨o, e.frz _ _ _ h⟩
  · exact .inr h
section
variable {K : PySem.W.Frag} {ts ρ ρ' : List Addr} {H H' : Hp}
mutual
theorem RV.mono (e : Ext ts ρ ρ' H H') : ∀ {v : V} {d : D}, RV K ρ H v d → RV K ρ' H' v d
  | _, _, .non => .non
  | _, _, .bl b => .bl b
  | _, _, .int i => .int i
  | _, _, .str x => .str x
  | _, _, .tup h r => .tup (e.sqT h) (RVs.mono e r)
  | _, _, .rol h r => .rol (e.sqR h) (RVs.mono e r)
  | _, _, .ref h => .ref (e.get h)
  | _, _, .ty n => .ty n
  | _, _, .own C => .own C
  | _, _, .xo h => .xo (e.xoR h)
theorem RVs.mono (e : Ext ts ρ ρ' H H') : ∀ {xs : List V} {ds : List D}, RVs K ρ H xs ds → RVs K ρ' H' xs ds
  | _, _, .nil => .nil
  | _, _, .cons h r => .cons (RV.mono e h) (RVs.mono e r)
end
theorem RE.mono {σ : L2.St} {ε : AEnv} (e : Ext ts ρ ρ' H H') (h : RE K ρ H σ ε) : RE K ρ' H' σ ε :=
  ⟨h.1, fun i d q => let ⟨v, q1, r⟩ := h.2 i d q; ⟨v, q1, r.mono e⟩⟩
theorem RVs.length : ∀ {xs : List V} {ds : List D}, RVs K ρ H xs ds → xs.length = ds.length
  | _, _, .nil => rfl
  | _, _, .cons _ r => congrArg Nat.succ (RVs.length r)
theorem RVs.append : ∀ {xs ys : List V} {ds es : List D}, RVs K ρ H xs ds → RVs K ρ H ys es → RVs K ρ H (xs ++ ys) (ds ++ es)
  | _, _, _, _, .nil, s => s
  | _, _, _, _, .cons h r, s => .cons h (RVs.append r s)
theorem RVs.get : ∀ {xs : List V} {ds : List D} {i : Nat} {d : D}, RVs K ρ H xs ds → ds[i]? = some d → ∃ v, xs[i]? = some v ∧ RV K ρ H v d
  | _, _, _, _, .nil, e => absurd e (by simp)
  | _, _, 0, _, .cons h _, e => by simp at e; subst e; exact ⟨_, rfl, h⟩
  | _, _, i + 1, d, .cons _ r, e => by
    obtain ⟨v, h1, h2⟩ := RVs.get (i := i) (d := d) r (by simpa using e)
    exact ⟨v, by simpa using h1, h2⟩
theorem RVs.take : ∀ {xs : List V} {ds : List D} (n : Nat), RVs K ρ H xs ds → RVs K ρ H (xs.take n) (ds.take n)
  | _, _, 0, _ => .nil
  | _, _, _ + 1, .nil => .nil
  | _, _, n + 1, .cons h r => .cons h (RVs.take n r)
theorem RVs.drop : ∀ {xs : List V} {ds : List D} (n : Nat), RVs K ρ H xs ds → RVs K ρ H (xs.drop n) (ds.drop n)
  | _, _, 0, r => r
  | _, _, _ + 1, .nil => .nil
  | _, _, n + 1, .cons _ r => RVs.drop n r
theorem RVs.set {v : V} {d : D} (h : RV K ρ H v d) : ∀ {xs : List V} {ds : List D} (i : Nat), RVs K ρ H xs ds → RVs K ρ H (xs.set i v) (ds.set i d)
  | _, _, _, .nil => .nil
  | _, _, 0, .cons _ r => .cons h r
  | _, _, i + 1, .cons q r => .cons q (RVs.set h i r)
theorem RVs.reverse {xs : List V} {ds : List D} (h : RVs K ρ H xs ds) : RVs K ρ H xs.reverse ds.reverse := by
  induction xs generalizing ds with
  | nil => cases h; exact .nil
  | cons x xs ih =>
    cases h with
    | cons a b =>
      simp only [List.reverse_cons]
      exact (ih b).append (.cons a .nil)
theorem RVs.dropLast {xs : List V} {ds : List D} (h : RVs K ρ H xs ds) : RVs K ρ H xs.dropLast ds.dropLast := by
  rw [List.dropLast_eq_take, List.dropLast_eq_take, h.length]
  exact h.take _
theorem RVs.rep {xs : List V} {ds : List D} (h : RVs K ρ H xs ds) : ∀ k : Nat, RVs K ρ H (List.replicate k xs).flatten (List.replicate k ds).flatten
  | 0 => .nil
  | k + 1 => by
    simp only [List.replicate_succ, List.flatten_cons]
    exact h.append (RVs.rep h k)
theorem RKs.mono {xs : List (Key × V)} {ds : List (Key × D)} (e : Ext ts ρ ρ' H H') (h : RKs K ρ H xs ds) : RKs K ρ' H' xs ds := Paired.mapP h fun _ _ q => ⟨q.1, q.2.mono e⟩
theorem RFs.mono {xs : List (Str × V)} {ds : List (Str × D)} (e : Ext ts ρ ρ' H H') (h : RFs K ρ H xs ds) : RFs K ρ' H' xs ds := Paired.mapP h fun _ _ q => ⟨q.1, q.2.mono e⟩
end
end Mi

namespace Mi
open L2 PySem PySem.Spec PyProof.Rows

section
variable {K : PySem.W.Frag} {cls ts ρ ρ' : List Addr} {H H' : Hp} {h : AH}
theorem RO.mono {a : Addr} (e : Ext ts ρ ρ' H H') (k : ∀ o, H a = some o → H' a = some o) : ∀ {o : O}, RO K cls ρ H a o → RO K cls ρ' H' a o
  | .lst ds, ⟨xs, h1, r⟩ => ⟨xs, k _ h1, r.mono e⟩
  | .dic kvs, ⟨xs, h1, r⟩ => ⟨xs, k _ h1, r.mono e⟩
  | .ins c fs, ⟨C, dx, xs, h0, h1, r⟩ => ⟨C, dx, xs, h0, k _ h1, r.mono e⟩
theorem RO.there {a : Addr} {o : O} (r : RO K cls ρ H a o) : ∃ u, H a = some u ∧ Mut (some u) := by
  cases o with
  | lst ds =>
    obtain ⟨xs, h1, _⟩ := r
    exact ⟨_, h1, trivial⟩
  | dic kvs =>
    obtain ⟨xs, h1, _⟩ := r
    exact ⟨_, h1, trivial⟩
  | ins c fs =>
    obtain ⟨_, _, xs, _, h1, _⟩ := r
    exact ⟨_, h1, trivial⟩
theorem RH.at (r : RH K cls ts ρ H h) {n : Nat} {o : O} (e : h[n]? = some o) : ∃ a, ρ[n]? = some a ∧ RO K cls ρ H a o := by
  have hn := (List.getElem?_eq_some_iff.mp e).1
  have hn' : n < ρ.length := by rw [r.len]; exact hn
  exact ⟨ρ[n], List.getElem?_eq_getElem hn', r.obj n _ o (List.getElem?_eq_getElem hn') e⟩
theorem RH.ref (r : RH K cls ts ρ H h) {n : Nat} {o : O} {a : Addr} (q : ρ[n]? = some a) (e : h[n]? = some o) : RO K cls ρ H a o := r.obj n a o q e

/-- a new thing is laid that no number stands for -/
theorem ext_other {p : Addr} {u : HO} (hp : H p = none) : Ext ts ρ ρ H (upd H p u) :=
  ⟨List.prefix_refl _, fun _ h n => absurd h n, fun a o e _ _ => by rw [upd_ne (ne_of_none e hp)]; exact e, fun a o e => by rw [upd_ne (ne_of_none e hp)]; exact e,
    fun a o w e => by rw [upd_ne (ne_of_none e hp)]; exact e, fun a e => by
      by_cases z : a = p
      · rw [z]; exact hp
      · rw [upd_ne z] at e; exact e⟩
theorem RH.keepAll (r : RH K cls ts ρ H h) (e : Ext ts ρ ρ H H') (k : ∀ a o, H a = some o → H' a = some o) : RH K cls ts ρ H' h :=
  ⟨r.len, r.nd, fun n a o q1 q2 => (r.obj n a o q1 q2).mono e (k a), fun P hP => let ⟨a, ps, b, c⟩ := r.tab P hP; ⟨a, ps, k _ _ b, c⟩, let ⟨a, φ, b⟩ := r.sm; ⟨a, φ, k _ _ b⟩⟩
theorem RH.other (r : RH K cls ts ρ H h) {p : Addr} {u : HO} (hp : H p = none) : RH K cls ts ρ (upd H p u) h :=
  r.keepAll (ext_other hp) fun a o e => by rw [upd_ne (ne_of_none e hp)]; exact e
theorem RH.fresh_not (r : RH K cls ts ρ H h) {p : Addr} (hp : H p = none) : p ∉ ts := fun hm => by
  obtain ⟨_, ps, b, _⟩ := r.tab p hm
  rw [hp] at b
  cases b
/-- what a number stands for is there, and may change -/
theorem RH.mem (r : RH K cls ts ρ H h) {a : Addr} (hm : a ∈ ρ) : ∃ u, H a = some u ∧ Mut (some u) := by
  obtain ⟨n, hn, e⟩ := List.getElem_of_mem hm
  have hn' : n < h.length := by rw [← r.len]; exact hn
  exact (r.obj n a h[n] (by rw [← e]; exact List.getElem?_eq_getElem hn) (List.getElem?_eq_getElem hn')).there
theorem RH.not_in (r : RH K cls ts ρ H h) {p : Addr} (hp : H p = none) : p ∉ ρ := fun hm => by
  obtain ⟨u, e, _⟩ := r.mem hm
  rw [hp] at e
  cases e
/-- a new thing at a new number -/
theorem ext_new {p : Addr} {u : HO} (hp : H p = none) : Ext ts ρ (ρ ++ [p]) H (upd H p u) := by
  have e := ext_other (ts := ts) (ρ := ρ) (u := u) hp
  refine ⟨List.prefix_append _ _, fun a h n => ?_, e.keep, e.tup, e.frz, e.there⟩
  rcases List.mem_append.mp h with z | z
  · exact absurd z n
  · rw [List.mem_singleton.mp z]; exact hp
theorem RH.new (r : RH K cls ts ρ H h) {p : Addr} {u : HO} {o : O} (hp : H p = none) (ho : RO K cls (ρ ++ [p]) (upd H p u) p o) : RH K cls ts (ρ ++ [p]) (upd H p u) (h ++ [o]) := by
  have e := ext_new (ts := ts) (ρ := ρ) (u := u) hp
  refine ⟨by rw [List.length_append, List.length_append, r.len] <;> rfl, ?_, fun n a o' q1 q2 => ?_, fun P hP => ?_, ?_⟩
  · rw [List.nodup_append]
    refine ⟨r.nd, by simp, fun a ha b hb => ?_⟩
    rw [List.mem_singleton.mp hb]
    intro z
    subst z
    exact r.not_in hp ha
  · by_cases hn : n < h.length
    · rw [List.getElem?_append_left hn] at q2
      rw [List.getElem?_append_left (by rw [r.len]; exact hn)] at q1
      exact (r.obj n a o' q1 q2).mono e fun w z => by rw [upd_ne (ne_of_none z hp)]; exact z
    · have hl : n = h.length := by
        have := (List.getElem?_eq_some_iff.mp q2).1
        rw [List.length_append, List.length_singleton] at this
        omega
      subst hl
      rw [List.getElem?_append_right (Nat.le_refl _)] at q2
      rw [← r.len, List.getElem?_append_right (Nat.le_refl _)] at q1
      simp at q1 q2
      subst q1 q2
      exact ho
  · obtain ⟨a, ps, b, c⟩ := r.tab P hP
    refine ⟨fun hm => ?_, ps, ?_, c⟩
    · rcases List.mem_append.mp hm with z | z
      · exact a z
      · rw [List.mem_singleton.mp z, hp] at b; cases b
    · rw [upd_ne (ne_of_none b hp)]; exact b
  · obtain ⟨a, φ, b⟩ := r.sm
    refine ⟨fun hm => ?_, φ, by rw [upd_ne (ne_of_none b hp)]; exact b⟩
    rcases List.mem_append.mp hm with z | z
    · exact a z
    · rw [List.mem_singleton.mp z, hp] at b; cases b
theorem get_new {p : Addr} : (ρ ++ [p])[ρ.length]? = some p := by
  rw [List.getElem?_append_right (Nat.le_refl _)]
  simp
/-- what stands at a number is put otherwise -/
theorem ext_put {a : Addr} {u : HO} (ha : a ∈ ρ) (r : RH K cls ts ρ H h) : Ext ts ρ ρ H (upd H a u) := by
  obtain ⟨w, e, m⟩ := r.mem ha
  have nt : ∀ b v, H b = some v → ¬ Mut (some v) → b ≠ a := fun b v q nm z => by
    subst z
    rw [e] at q
    cases q
    exact nm m
  refine ⟨List.prefix_refl _, fun _ h n => absurd h n, fun b o q n _ => ?_, fun b xs q => ?_, fun b o w q => ?_, fun b q => ?_⟩
  · have nb : b ≠ a := fun z => n (by rw [z]; exact ha)
    rw [upd_ne nb]; exact q
  · rw [upd_ne (nt b _ q fun z => z)]; exact q
  · rw [upd_ne (nt b _ q fun z => z)]; exact q
  · by_cases z : b = a
    · rw [z, upd_same] at q; cases q
    · rw [upd_ne z] at q; exact q
theorem RH.put (r : RH K cls ts ρ H h) {n : Nat} {a : Addr} {u : HO} {o : O} (hn : ρ[n]? = some a) (ho : RO K cls ρ (upd H a u) a o) : RH K cls ts ρ (upd H a u) (h.set n o) := by
  have ha : a ∈ ρ := List.mem_of_getElem? hn
  have e := ext_put (u := u) ha r
  refine ⟨by rw [List.length_set]; exact r.len, r.nd, fun m b o' q1 q2 => ?_, fun P hP => ?_, ?_⟩
  · by_cases z : n = m
    · subst z
      rw [hn] at q1
      cases q1
      have hl := (List.getElem?_eq_some_iff.mp q2).1
      rw [List.length_set] at hl
      rw [List.getElem?_set_self hl] at q2
      cases q2
      exact ho
    · rw [List.getElem?_set_ne z] at q2
      refine (r.obj m b o' q1 q2).mono e fun w q => ?_
      rw [upd_ne ?_]
      · exact q
      · intro z'
        subst z'
        obtain ⟨l1, e1⟩ := List.getElem?_eq_some_iff.mp hn
        obtain ⟨l2, e2⟩ := List.getElem?_eq_some_iff.mp q1
        exact z ((List.getElem_inj r.nd).mp (e1.trans e2.symm))
  · obtain ⟨x, ps, b, c⟩ := r.tab P hP
    have nb : P ≠ a := fun z => x (by rw [z]; exact ha)
    exact ⟨x, ps, by rw [upd_ne nb]; exact b, c⟩
  · obtain ⟨x, φ, b⟩ := r.sm
    exact ⟨x, φ, by rw [upd_ne fun z => x (by rw [z]; exact ha)]; exact b⟩
end

/-! ### what is told of an exception -/
def RX (K : PySem.W.Frag) (cls : List Addr) (ρ : List Addr) (H : Hp) (c : Value) (dd : Option Addr) (x : Exn) : Prop :=
  (match x.cl with
   | .own k => ∃ C, cls[k]? = some C ∧ c = .ref C
   | .ty n => c = .type n) ∧
  ((x.fs = [] ∧ dd = none) ∨ ∃ d fs, dd = some d ∧ H d = some (.xd fs) ∧ RFs K ρ H fs x.fs)

/-! ### readings by a function over the store -/
section
variable {α β γ δ : Type}
def Post (K : PySem.W.Frag) (cls ts : List Addr) (rel : List Addr → Hp → β → α → Prop) (W : Value → Option Addr → Hp → Prop) (ρ : List Addr) (H : Hp) (r : Res α) (Q : β → Hp → Prop) : Prop :=
  match r with
  | .ok d h' => ∀ ρ' H' v, Ext ts ρ ρ' H H' → RH K cls ts ρ' H' h' → rel ρ' H' v d → Q v H'
  | .exc x h' => ∀ ρ' H' c dd, Ext ts ρ ρ' H H' → RH K cls ts ρ' H' h' → RX K cls ρ' H' c dd x → W c dd H'
  | .stuck => False
theorem Post.ext {K : PySem.W.Frag} {cls ts ρ ρ1 : List Addr} {H H1 : Hp} {rel : List Addr → Hp → β → α → Prop} {W : Value → Option Addr → Hp → Prop} {r : Res α} {Q : β → Hp → Prop} (e : Ext ts ρ ρ1 H H1) (p : Post K cls ts rel W ρ H r Q) : Post K cls ts rel W ρ1 H1 r Q := by
  cases r with
  | ok d h' => exact fun ρ' H' v e' => p ρ' H' v (e.trans e')
  | exc x h' => exact fun ρ' H' c dd e' => p ρ' H' c dd (e.trans e')
  | stuck => exact p
def tG (K : PySem.W.Frag) (cls ts : List Addr) (rel : List Addr → Hp → β → α → Prop) (W : WX) (F : AEnv → AH → Res α) : L2.St → Hp → (β → Hp → Prop) → Prop :=
  fun σ H Q => ∃ ρ ε h, RH K cls ts ρ H h ∧ RE K ρ H σ ε ∧ Post K cls ts rel (fun c dd H' => W c dd σ H') ρ H (F ε h) Q
/-- THE STEP: the first part is gone, then what is behind it -/
theorem tG_bind {K : PySem.W.Frag} {cls ts ρ : List Addr} {H : Hp} {rel : List Addr → Hp → β → α → Prop} {rel2 : List Addr → Hp → δ → γ → Prop} {W : WX} {F : AEnv → AH → Res α} {G : α → AH → Res γ} {σ : L2.St} {ε : AEnv} {h : AH} {Q : δ → Hp → Prop} {Q' : β → Hp → Prop}
    (hH : RH K cls ts ρ H h) (hE : RE K ρ H σ ε) (hp : Post K cls ts rel2 (fun c dd H' => W c dd σ H') ρ H ((F ε h).bind G) Q)
    (k : ∀ ρ1 H1 v h1 a, F ε h = .ok a h1 → Ext ts ρ ρ1 H H1 → RH K cls ts ρ1 H1 h1 → rel ρ1 H1 v a → RE K ρ1 H1 σ ε → Post K cls ts rel2 (fun c dd H' => W c dd σ H') ρ1 H1 (G a h1) Q → Q' v H1) : tG K cls ts rel W F σ H Q' := by
  refine ⟨ρ, ε, h, hH, hE, ?_⟩
  cases q : F ε h with
  | ok a h1 =>
    rw [q] at hp
    exact fun ρ1 H1 v e r rv => k ρ1 H1 v h1 a q e r rv (hE.mono e) (hp.ext e)
  | exc x h1 =>
    rw [q] at hp
    exact hp
  | stuck =>
    rw [q] at hp
    exact hp
theorem tG_imp {K : PySem.W.Frag} {cls ts : List Addr} {rel : List Addr → Hp → β → α → Prop} {W : WX} {F : AEnv → AH → Res α} {σ : L2.St} {H : Hp} {Q Q' : β → Hp → Prop} (h : tG K cls ts rel W F σ H Q) (k : ∀ v H', Q v H' → Q' v H') : tG K cls ts rel W F σ H Q' := by
  obtain ⟨ρ, ε, h, hH, hE, hp⟩ := h
  refine ⟨ρ, ε, h, hH, hE, ?_⟩
  cases q : F ε h with
  | ok a h1 =>
    rw [q] at hp
    exact fun ρ1 H1 v e r rv => k _ _ (hp ρ1 H1 v e r rv)
  | exc x h1 =>
    rw [q] at hp
    exact hp
  | stuck =>
    rw [q] at hp
    exact hp
end
abbrev EF := AEnv → AH → Res D
abbrev TF := AEnv → AH → Res Bool
abbrev AF := AEnv → AH → Res (List D)
abbrev relD (K : PySem.W.Frag) : List Addr → Hp → V → D → Prop := fun ρ H v d => RV K ρ H v d
abbrev relB : List Addr → Hp → Bool → Bool → Prop := fun _ _ b a => b = a
abbrev relL (K : PySem.W.Frag) : List Addr → Hp → List V → List D → Prop := fun ρ H v d => RVs K ρ H v d
abbrev tE (K : PySem.W.Frag) (cls ts : List Addr) (W : WX) (F : EF) : TE := tG K cls ts (relD K) W F
abbrev tT (K : PySem.W.Frag) (cls ts : List Addr) (W : WX) (F : TF) : TT := tG K cls ts relB W F
abbrev tA (K : PySem.W.Frag) (cls ts : List Addr) (W : WX) (F : AF) : TA := tG K cls ts (relL K) W F
end Mi

namespace Mi
open L2 PySem PySem.Spec PyProof.Rows

/-! ### ends -/
section
variable {K : PySem.W.Frag} {cls ts ρ : List Addr} {H : Hp} {h h' : AH} {W : Value → Option Addr → Hp → Prop} {Q : VK} {v : V} {d : D} {xs : List V} {ds : List D}
theorem post_val (r : RH K cls ts ρ H h) (rv : RV K ρ H v d) (p : Post K cls ts (relD K) W ρ H (.ok d h) Q) : Q v H := p ρ H v .refl r rv
theorem post_newL (r : RH K cls ts ρ H h) (rv : RVs K ρ H xs ds) (p : Post K cls ts (relD K) W ρ H (.ok (.ref h.length) (h ++ [.lst ds])) Q) : ∀ a, H a = none → Q (.ref a) (upd H a (.lst xs)) := fun a ha => by
  have e := ext_new (ts := ts) (ρ := ρ) (u := .lst xs) ha
  exact p (ρ ++ [a]) _ _ e (r.new ha ⟨xs, upd_same, rv.mono e⟩) (.ref (by rw [← r.len]; exact get_new))
theorem post_newD {kvs : List (Key × D)} {xs : List (Key × V)} (r : RH K cls ts ρ H h) (rv : RKs K ρ H xs kvs) (p : Post K cls ts (relD K) W ρ H (.ok (.ref h.length) (h ++ [.dic kvs])) Q) : ∀ a, H a = none → Q (.ref a) (upd H a (.dK xs)) := fun a ha => by
  have e := ext_new (ts := ts) (ρ := ρ) (u := .dK xs) ha
  exact p (ρ ++ [a]) _ _ e (r.new ha ⟨xs, upd_same, rv.mono e⟩) (.ref (by rw [← r.len]; exact get_new))
theorem post_newT (r : RH K cls ts ρ H h) (rv : RVs K ρ H xs ds) (p : Post K cls ts (relD K) W ρ H (.ok (.tup ds) h) Q) : ∀ a, H a = none → Q (.ref a) (upd H a (.tup xs)) := fun a ha => by
  have e := ext_other (ts := ts) (ρ := ρ) (u := .tup xs) ha
  exact p ρ _ _ e (r.other ha) (.tup (SqT.of upd_same) (rv.mono e))
/-- a list at a number is put otherwise, something is told -/
theorem post_put {n : Nat} {a : Addr} {us : List V} (r : RH K cls ts ρ H h) (hn : ρ[n]? = some a) (rv : RVs K ρ H xs ds) (rd : RV K ρ H v d) (p : Post K cls ts (relD K) W ρ H (.ok d (h.set n (.lst ds))) Q) : Q v (upd H a (.lst xs)) := by
  have e := ext_put (u := .lst xs) (List.mem_of_getElem? hn) r
  exact p ρ _ _ e (r.put hn ⟨xs, upd_same, rv.mono e⟩) (rd.mono e)
/-- a list at a number -/
theorem RH.lst (r : RH K cls ts ρ H h) {n : Nat} {a : Addr} (q : ρ[n]? = some a) (e : h[n]? = some (.lst ds)) : ∃ xs, H a = some (.lst xs) ∧ RVs K ρ H xs ds := r.obj n a _ q e
theorem RH.dic (r : RH K cls ts ρ H h) {n : Nat} {a : Addr} {ds : List (Key × D)} (q : ρ[n]? = some a) (e : h[n]? = some (.dic ds)) : ∃ xs, H a = some (.dK xs) ∧ RKs K ρ H xs ds := r.obj n a _ q e
end

/-! ### operations on two values -/
abbrev Op2 := D → D → AH → Res D
def OpS (K : PySem.W.Frag) (cls ts : List Addr) (r : R2) (f : Op2) : Prop :=
  ∀ (W : Value → Option Addr → Hp → Prop) (ρ : List Addr) (H : Hp) (h : AH) (x y : V) (dx dy : D) (Q : VK), RH K cls ts ρ H h → RV K ρ H x dx → RV K ρ H y dy → Post K cls ts (relD K) W ρ H (f dx dy h) Q → r x y H Q
def cBin (f : Op2) (a b : EF) : EF := fun ε h => (a ε h).bind fun x h1 => (b ε h1).bind fun y h2 => f x y h2

def opAdd : Op2
  | .int i, .int j, h => .ok (.int (i + j)) h
  | .str a, .str b, h => if a.length + b.length ≤ sizeLine then .ok (.str (a ++ b)) h else .stuck
  | .tup xs, .tup ys, h => if xs.length + ys.length ≤ sizeLine then .ok (.tup (xs ++ ys)) h else .stuck
  | .ref a, .ref b, h => match h[a]?, h[b]? with
    | some (.lst xs), some (.lst ys) => if xs.length + ys.length ≤ sizeLine then .ok (.ref h.length) (h ++ [.lst (xs ++ ys)]) else .stuck
    | _, _ => .stuck
  | _, _, _ => .stuck
def rAddM (K : PySem.W.Frag) : R2 := fun x y H Q => rI0 (fun i j => .int (i + j)) x y H Q ∨ (∃ i j, x = .str i ∧ y = .str j ∧ i.length + j.length ≤ sizeLine ∧ Q (.str (i ++ j)) H) ∨ rCatA K x y H Q ∨ rCat x y H Q
theorem op_addM {X : Cx} : OpR X (binaryOp .Add) (rAddM X.K) := op_add.or (op_add_str.or (op_catA.or op_cat))
theorem opAdd_ok {K : PySem.W.Frag} {cls ts : List Addr} : OpS K cls ts (rAddM K) opAdd := by
  intro W ρ H h x y dx dy Q r rx ry p
  cases rx with
  | int i =>
    cases ry <;> first | exact p.elim | skip
    exact .inl ⟨_, _, rfl, rfl, post_val r (.int _) p⟩
  | str a =>
    cases ry <;> first | exact p.elim | skip
    rename_i b
    by_cases c : a.length + b.length ≤ sizeLine
    · simp only [opAdd, if_pos c] at p
      exact .inr (.inl ⟨_, _, rfl, rfl, c, post_val r (.str _) p⟩)
    · simp only [opAdd, if_neg c] at p
      exact p.elim
  | tup h1 r1 =>
    cases ry <;> first | exact p.elim | skip
    rename_i a xs ds b ys es h2 r2
    by_cases c : ds.length + es.length ≤ sizeLine
    · simp only [opAdd, if_pos c] at p
      refine .inr (.inr (.inl ⟨_, _, _, _, rfl, rfl, h1, h2, by rw [r1.length, r2.length]; exact c, fun z => ?_, fun _ z => ?_, fun _ _ => post_newT r (r1.append r2) p⟩))
      · subst z
        cases r1
        exact post_val r (.tup h2 r2) p
      · subst z
        cases r2
        rw [List.append_nil] at p
        exact post_val r (.tup h1 r1) p
    · simp only [opAdd, if_neg c] at p
      exact p.elim
  | ref q1 =>
    cases ry <;> first | exact p.elim | skip
    rename_i a n b m q2
    simp only [opAdd] at p
    split at p <;> first | exact p.elim | skip
    rename_i xs ys e1 e2
    split at p <;> first | exact p.elim | skip
    rename_i c
    obtain ⟨us, k1, r1⟩ := r.lst q1 e1
    obtain ⟨ws, k2, r2⟩ := r.lst q2 e2
    exact .inr (.inr (.inr ⟨_, _, _, _, rfl, rfl, k1, k2, by rw [r1.length, r2.length]; exact c, post_newL r (r1.append r2) p⟩))
  | _ => exact p.elim

/-- ints alone -/
def opII (C : Int → Int → Bool) (g : Int → Int → Int) : Op2
  | .int i, .int j, h => if C i j then .ok (.int (g i j)) h else .stuck
  | _, _, _ => .stuck
theorem opII_ok {K : PySem.W.Frag} {cls ts : List Addr} {C : Int → Int → Prop} {c : Int → Int → Bool} {g : Int → Int → Int} (hc : ∀ i j, c i j = true → C i j) : OpS K cls ts (rI C fun i j => .int (g i j)) (opII c g) := by
  intro W ρ H h x y dx dy Q r rx ry p
  cases rx <;> first | exact p.elim | skip
  cases ry <;> first | exact p.elim | skip
  rename_i i j
  simp only [opII] at p
  split at p <;> first | exact p.elim | skip
  rename_i q
  exact ⟨_, _, rfl, rfl, hc _ _ q, post_val r (.int _) p⟩
def opSub : Op2 := opII (fun _ _ => true) (· - ·)
theorem op_subM {X : Cx} : OpR X (binaryOp .Sub) (rI (fun _ _ => True) fun i j => .int (i - j)) := opI fun _ _ _ _ _ _ _ _ q => sub_int q
theorem opSub_ok {K : PySem.W.Frag} {cls ts : List Addr} : OpS K cls ts (rI (fun _ _ => True) fun i j => .int (i - j)) opSub := opII_ok fun _ _ _ => trivial
def opFdiv : Op2 := opII (fun _ j => j != 0 && decide (j.natAbs < 1073741824)) Int.fdiv
theorem opFdiv_ok {K : PySem.W.Frag} {cls ts : List Addr} : OpS K cls ts (rI CDivN fun i j => .int (i.fdiv j)) opFdiv := opII_ok fun i j h => by
  simp only [Bool.and_eq_true, bne_iff_ne, decide_eq_true_eq] at h
  exact h
def opMod : Op2 := opII (fun _ j => j != 0) Int.fmod
theorem opMod_ok {K : PySem.W.Frag} {cls ts : List Addr} : OpS K cls ts (rI (fun _ j => j ≠ 0) fun i j => .int (i.fmod j)) opMod := opII_ok fun i j h => by
  simp only [bne_iff_ne] at h
  exact h
def opPow : Op2 := opII (fun i j => decide (0 ≤ j) && decide (j ≤ 1000000) && decide (i.natAbs < 2 ^ 64)) fun i j => i ^ j.toNat
theorem opPow_ok {K : PySem.W.Frag} {cls ts : List Addr} : OpS K cls ts (rI CPow fun i j => .int (i ^ j.toNat)) opPow := opII_ok fun i j hq => by
  simp only [Bool.and_eq_true, decide_eq_true_eq] at hq
  exact ⟨hq.1.1, hq.1.2, hq.2⟩
def small64 (i : Int) : Bool := decide (-(2 ^ 64) < i) && decide (i < 2 ^ 64)
/-- how a text is said again and again -/
def strRep (a : Str) (k : Nat) : Str := ⟨(List.replicate k a.cps.toList).flatten.toArray⟩
theorem foldl_cat (a : Array Nat) : ∀ (k : Nat) (b : Array Nat), ((List.replicate k a).foldl (· ++ ·) b).toList = b.toList ++ (List.replicate k a.toList).flatten
  | 0, b => by simp
  | k + 1, b => by
    rw [show List.replicate (k + 1) a = a :: List.replicate k a from rfl, List.foldl_cons, foldl_cat a k (b ++ a)]
    simp [List.replicate_succ]
theorem strRep_eq (a : Str) (k : Nat) : (⟨(List.replicate k a.cps).foldl (· ++ ·) #[]⟩ : Str) = strRep a k := by
  unfold strRep
  congr 1
  apply Array.toList_inj.mp
  rw [foldl_cat]
  simp
theorem strRep_length (a : Str) (k : Nat) : (strRep a k).length = k * a.length := by
  unfold strRep Str.length
  simp [List.length_flatten]
def rRepS : R2 := fun x y H Q => ∃ (a : Str) (k : Int), x = .str a ∧ y = .int k ∧ 2 ≤ k ∧ k ≤ 10000 ∧ 1 ≤ a.length ∧ a.length ≤ 1000 ∧ Q (.str (strRep a k.toNat)) H
theorem op_repS {X : Cx} : OpR X (binaryOp .Mult) rRepS := by
  rintro pins s σ H x y v u Q I rx ry ⟨a, k, rfl, rfl, h1, h2, h3, h4, q⟩
  obtain ⟨t, rfl⟩ := rx
  obtain ⟨t', rfl⟩ := ry
  have n1 : ¬ k < 1 := by omega
  have nk : (k == 1 || a.length == 0) = false := by
    rw [Bool.or_eq_false_iff]
    exact ⟨beq_eq_false_iff_ne.mpr (by omega), beq_eq_false_iff_ne.mpr (by omega)⟩
  have lm : a.length * k.toNat ≤ 10000000 := Nat.le_trans (Nat.mul_le_mul h4 (show k.toNat ≤ 10000 by omega)) (by omega)
  refine PySem.P.mul_str ?_ (fun _ _ z => ?_) (fun _ _ => ?_) ?_
  · rw [Bool.or_eq_false_iff]
    exact ⟨decide_eq_false (by omega), decide_eq_false (by omega)⟩
  · have : (1000 : Int) ≤ (2 ^ 63 - 1) / k := by
      rw [Int.le_ediv_iff_mul_le (by omega)]
      omega
    omega
  · exact decide_eq_false (by rw [sizeLine_eq]; omega)
  · rw [if_neg n1, nk, if_neg Bool.false_ne_true, strRep_eq]
    refine ⟨?_, .str (strRep a k.toNat), H, I.tok _, ⟨_, rfl⟩, q⟩
    rw [strRep_length, Nat.mul_comm, sizeLine_eq]
    omega
def opMul : Op2
  | .int i, .int j, h => if small64 i || small64 j then .ok (.int (i * j)) h else .stuck
  | .str a, .int k, h => if decide (2 ≤ k) && decide (k ≤ 10000) && decide (1 ≤ a.length) && decide (a.length ≤ 1000) then .ok (.str (strRep a k.toNat)) h else .stuck
  | .tup xs, .int k, h => if !xs.isEmpty && decide (2 ≤ k) && decide (k ≤ 1000) && decide (xs.length ≤ 1000) then .ok (.tup (List.replicate k.toNat xs).flatten) h else .stuck
  | .ref a, .int k, h => match h[a]? with
    | some (.lst xs) => if decide (-(2 ^ 63) ≤ k) && decide (k < 2 ^ 63) && decide (xs.length * k.toNat ≤ sizeLine) then .ok (.ref h.length) (h ++ [.lst (List.replicate k.toNat xs).flatten]) else .stuck
    | _ => .stuck
  | _, _, _ => .stuck
def rMulM (K : PySem.W.Frag) : R2 := fun x y H Q => rI CMul (fun i j => .int (i * j)) x y H Q ∨ rRepT K x y H Q ∨ rRep x y H Q ∨ rRepS x y H Q
theorem op_mulM {X : Cx} : OpR X (binaryOp .Mult) (rMulM X.K) := op_mul.or (op_repT.or (op_rep.or op_repS))
theorem opMul_ok {K : PySem.W.Frag} {cls ts : List Addr} : OpS K cls ts (rMulM K) opMul := by
  intro W ρ H h x y dx dy Q r rx ry p
  cases rx with
  | int i =>
    cases ry <;> first | exact p.elim | skip
    rename_i j
    simp only [opMul] at p
    split at p <;> first | exact p.elim | skip
    rename_i c
    refine .inl ⟨_, _, rfl, rfl, ?_, post_val r (.int _) p⟩
    simp only [small64, Bool.or_eq_true, Bool.and_eq_true, decide_eq_true_eq] at c
    exact c
  | str a =>
    cases ry <;> first | exact p.elim | skip
    rename_i k
    simp only [opMul] at p
    split at p <;> first | exact p.elim | skip
    rename_i c
    simp only [Bool.and_eq_true, decide_eq_true_eq] at c
    exact .inr (.inr (.inr ⟨_, _, rfl, rfl, c.1.1.1, c.1.1.2, c.1.2, c.2, post_val r (.str _) p⟩))
  | tup h1 r1 =>
    cases ry <;> first | exact p.elim | skip
    rename_i a xs ds k
    simp only [opMul] at p
    split at p <;> first | exact p.elim | skip
    rename_i c
    simp only [Bool.and_eq_true, decide_eq_true_eq] at c
    refine .inr (.inl ⟨_, _, _, rfl, rfl, h1, ?_, c.1.1.2, c.1.2, by rw [r1.length]; exact c.2, post_newT r (r1.rep _) p⟩)
    intro z
    subst z
    cases r1
    simp at c
  | ref q1 =>
    cases ry <;> first | exact p.elim | skip
    rename_i a n k
    simp only [opMul] at p
    split at p <;> first | exact p.elim | skip
    rename_i xs e1
    split at p <;> first | exact p.elim | skip
    rename_i c
    simp only [Bool.and_eq_true, decide_eq_true_eq] at c
    obtain ⟨us, k1, r1⟩ := r.lst q1 e1
    exact .inr (.inr (.inl ⟨_, _, _, rfl, rfl, k1, c.1.1, c.1.2, by rw [r1.length]; exact c.2, post_newL r (r1.rep _) p⟩))
  | _ => exact p.elim
end Mi

namespace Mi
open L2 PySem PySem.Spec PyProof.Rows

/-! ### the forms of expressions -/
def cC (d : D) : EF := fun _ h => .ok d h
def cVar (i : Nat) : EF := fun ε h => match ε[i]? with
  | some (some d) => .ok d h
  | _ => .stuck
def aNil : AF := fun _ h => .ok [] h
def aCons (a : EF) (r : AF) : AF := fun ε h => (a ε h).bind fun d h1 => (r ε h1).bind fun ds h2 => .ok (d :: ds) h2
def cTup (A : AF) : EF := fun ε h => (A ε h).bind fun ds h1 => if ds.length ≤ sizeLine then .ok (.tup ds) h1 else .stuck
def cLst (A : AF) : EF := fun ε h => (A ε h).bind fun ds h1 => if ds.length ≤ sizeLine then .ok (.ref h1.length) (h1 ++ [.lst ds]) else .stuck
def truD (d : D) (h : AH) : Option Bool :=
  match d with
  | .non => some false
  | .bl b => some b
  | .int i => some (i != 0)
  | .str x => if x.length ≤ sizeLine then some (x.length != 0) else none
  | .tup xs => some (!xs.isEmpty)
  | .rol xs => some (!xs.isEmpty)
  | .ref n => match h[n]? with
    | some (.lst xs) => some (!xs.isEmpty)
    | some (.dic kvs) => some (!kvs.isEmpty)
    | _ => none
  | _ => none
def tTru (F : EF) : TF := fun ε h => (F ε h).bind fun d h1 => match truD d h1 with
  | some b => .ok b h1
  | none => .stuck
def asBl (d : D) (h : AH) : Res Bool :=
  match d with
  | .bl b => .ok b h
  | _ => .stuck
def tVal (F : EF) : TF := fun ε h => (F ε h).bind asBl
def tAnd' (a b : TF) : TF := fun ε h => (a ε h).bind fun c h1 => if c = true then b ε h1 else .ok false h1
def tOr' (a b : TF) : TF := fun ε h => (a ε h).bind fun c h1 => if c = true then .ok true h1 else b ε h1
def tNot' (a : TF) : TF := fun ε h => (a ε h).bind fun c h1 => .ok (!c) h1
def cIf (t : TF) (a b : EF) : EF := fun ε h => (t ε h).bind fun c h1 => if c = true then a ε h1 else b ε h1
/-- and, or as values -/
def cAnd (a b : EF) : EF := fun ε h => (a ε h).bind fun d h1 => match truD d h1 with
  | some true => b ε h1
  | some false => .ok d h1
  | none => .stuck
def cOr (a b : EF) : EF := fun ε h => (a ε h).bind fun d h1 => match truD d h1 with
  | some true => .ok d h1
  | some false => b ε h1
  | none => .stuck
def cNot (a : EF) : EF := fun ε h => (a ε h).bind fun d h1 => match truD d h1 with
  | some b => .ok (.bl (!b)) h1
  | none => .stuck
/-- a op b op' c, b gone once -/
def cChain (f g : Op2) (a b c : EF) : EF := fun ε h => (a ε h).bind fun x h1 => (b ε h1).bind fun y h2 => (f x y h2).bind fun z h3 => match z with
  | .bl true => (c ε h3).bind fun w h4 => g y w h4
  | .bl false => .ok (.bl false) h3
  | _ => .stuck

section
variable {X : Cx} {W : WX} {cls ts : List Addr} {a b c e : Expr} {Fa Fb Fc F : EF} {Ta Tb : TF} {A : AF} {es : List Expr} {pos : Pos}
abbrev E' (X : Cx) (cls ts : List Addr) (W : WX) (e : Expr) (F : EF) : Prop := PE X e (tE X.K cls ts W F)
abbrev T' (X : Cx) (cls ts : List Addr) (W : WX) (e : Expr) (F : TF) : Prop := PT X e (tT X.K cls ts W F)
abbrev A' (X : Cx) (cls ts : List Addr) (W : WX) (es : List Expr) (F : AF) : Prop := PA X es (tA X.K cls ts W F)
theorem e_c {d : D} {v : V} (hv : ∀ K ρ H, RV K ρ H v d) (h : PE X e (L2.tC v)) : E' X cls ts W e (cC d) :=
  ⟨fun pins s σ H Q I ⟨ρ, ε, hh, hH, hE, p⟩ => h.run pins s σ H Q I (post_val hH (hv _ _ _) p)⟩
theorem e_int {i j pos} : E' X cls ts W (.Constant (.int i) j pos) (cC (.int i)) := e_c (fun _ _ _ => .int i) pe_int
theorem e_str {i j pos} : E' X cls ts W (.Constant (.str i) j pos) (cC (.str i)) := e_c (fun _ _ _ => .str i) pe_str
theorem e_bl {i j pos} : E' X cls ts W (.Constant (.bool i) j pos) (cC (.bl i)) := e_c (fun _ _ _ => .bl i) pe_bl
theorem e_non {j pos} : E' X cls ts W (.Constant .none j pos) (cC .non) := e_c (fun _ _ _ => .non) pe_non
theorem e_glob {x : Str} {d : D} {v : V} {u : Value} (hg : Gl X x) (hm : X.mg x = some u) (r : RelV v u) (hv : ∀ K ρ H, RV K ρ H v d) (hd : (x == ("__debug__" : Str)) = false := by decide) : E' X cls ts W (.Name x pos) (cC d) := e_c hv (pe_glob hg hm r hd)
theorem e_var (i : Nat) {x : Str} (hN : X.N[i]? = some x := by rfl) (hv : Vis X.env.scope x := by first | exact Or.inl rfl | exact Or.inr (Or.inl rfl) | exact Or.inr (Or.inr rfl)) (hd : (x == ("__debug__" : Str)) = false := by decide)
    (hcd : (x == ("__classdict__" : Str)) = false := by decide) : E' X cls ts W (.Name x pos) (cVar i) := by
  refine ⟨fun pins s σ H Q I ⟨ρ, ε, hh, hH, hE, p⟩ => (pe_var hN hv hd hcd).run pins s σ H Q I ?_⟩
  unfold cVar at p
  split at p
  · rename_i d q
    obtain ⟨v, e, r⟩ := hE.2 i d q
    exact ⟨v, e, post_val hH r p⟩
  · exact p.elim
theorem e_bin {op : Operator} {r : R2} {f : Op2} (ho : OpR X (binaryOp op) r) (os : OpS X.K cls ts r f) (ha : E' X cls ts W a Fa) (hb : E' X cls ts W b Fb) : E' X cls ts W (.BinOp a op b pos) (cBin f Fa Fb) :=
  ⟨fun pins s σ H Q I ⟨ρ, ε, h, hH, hE, p⟩ => (pe_op ho ha hb).run pins s σ H Q I (tG_bind hH hE p fun ρ1 H1 x h1 dx _ e1 hH1 rx hE1 p1 =>
    tG_bind hH1 hE1 p1 fun ρ2 H2 y h2 dy _ e2 hH2 ry hE2 p2 => os _ _ _ _ _ _ _ _ _ hH2 (rx.mono e2) ry p2)⟩
theorem e_cmp {op : CmpOp} {r : R2} {f : Op2} (ho : OpR X (compareOp op) r) (os : OpS X.K cls ts r f) (ha : E' X cls ts W a Fa) (hb : E' X cls ts W b Fb) (hm : behindInMarks op b = false) : E' X cls ts W (.Compare a [op] [b] pos) (cBin f Fa Fb) :=
  ⟨fun pins s σ H Q I ⟨ρ, ε, h, hH, hE, p⟩ => (pe_cmpR ho ha hb hm).run pins s σ H Q I (tG_bind hH hE p fun ρ1 H1 x h1 dx _ e1 hH1 rx hE1 p1 =>
    tG_bind hH1 hE1 p1 fun ρ2 H2 y h2 dy _ e2 hH2 ry hE2 p2 => os _ _ _ _ _ _ _ _ _ hH2 (rx.mono e2) ry p2)⟩
theorem bl_of {K : PySem.W.Frag} {cls ts ρ : List Addr} {H : Hp} {h : AH} {W : Value → Option Addr → Hp → Prop} {d : D} {v : V} {Q : Bool → Hp → Prop} (r : RH K cls ts ρ H h) (rv : RV K ρ H v d)
    (p : Post K cls ts relB W ρ H (asBl d h) Q) : ∃ k, v = .bl k ∧ Q k H := by
  cases rv <;> first | exact p.elim | skip
  exact ⟨_, rfl, p _ _ _ .refl r rfl⟩
theorem t_cmp {op : CmpOp} {r : R2} {f : Op2} (ho : OpR X (compareOp op) r) (os : OpS X.K cls ts r f) (ha : E' X cls ts W a Fa) (hb : E' X cls ts W b Fb) (hm : behindInMarks op b = false) : T' X cls ts W (.Compare a [op] [b] pos) (tVal (cBin f Fa Fb)) := by
  refine ⟨fun pins s σ H Q I ⟨ρ, ε, h, hH, hE, p⟩ => (pt_cmpR ho ha hb hm).run pins s σ H Q I ?_⟩
  unfold tVal at p
  have q : tE X.K cls ts W (cBin f Fa Fb) σ H (fun x H' => ∃ k, x = .bl k ∧ Q k H') := tG_bind hH hE p fun ρ1 H1 x h1 dx _ e1 hH1 rx hE1 p1 => bl_of hH1 rx p1
  obtain ⟨ρ', ε', h', hH', hE', p'⟩ := q
  exact tG_bind hH' hE' p' fun ρ1 H1 x h1 dx _ e1 hH1 rx hE1 p1 =>
    tG_bind hH1 hE1 p1 fun ρ2 H2 y h2 dy _ e2 hH2 ry hE2 p2 => os _ _ _ _ _ _ _ _ _ hH2 (rx.mono e2) ry p2
theorem t_val (ha : E' X cls ts W e F) (he : ∀ whole, isTrue e X.env whole = (do let v ← whole; standAt e.pos; holding [v] (truthy v)) := by intro _; rfl) : T' X cls ts W e (tVal F) :=
  ⟨fun pins s σ H Q I ⟨ρ, ε, h, hH, hE, p⟩ => (pt_val ha he).run pins s σ H Q I (tG_bind hH hE p fun ρ1 H1 x h1 dx _ e1 hH1 rx hE1 p1 => bl_of hH1 rx p1)⟩
theorem truD_ok {K : PySem.W.Frag} {ρ : List Addr} {H : Hp} {h : AH} {d : D} {v : V} {b : Bool} (r : RH K cls ts ρ H h) (rv : RV K ρ H v d) (q : truD d h = some b) : TruV K v H b := by
  have emp : ∀ {xs : List V} {ds : List D}, RVs K ρ H xs ds → (!ds.isEmpty) = !xs.isEmpty := fun r => by cases r <;> rfl
  cases rv with
  | non => cases q; rfl
  | bl b => cases q; rfl
  | int i => cases q; rfl
  | str x =>
    simp only [truD] at q
    split at q <;> cases q
    rename_i c
    refine ⟨c, ?_⟩
    rw [Bool.eq_iff_iff, bne_iff_ne, bne_iff_ne]
    omega
  | tup h1 r1 =>
    cases q
    exact .inr (.inl ⟨_, h1, emp r1⟩)
  | rol h1 r1 =>
    cases q
    exact .inl ⟨_, h1.sq, emp r1⟩
  | ref q1 =>
    simp only [truD] at q
    split at q <;> cases q
    · rename_i xs e
      obtain ⟨us, k1, r1⟩ := r.lst q1 e
      exact .inl ⟨_, SqL.of k1, emp r1⟩
    · rename_i xs e
      obtain ⟨us, k1, r1⟩ := r.dic q1 e
      refine .inr (.inr ⟨_, k1, ?_⟩)
      cases r1 <;> rfl
  | _ => cases q
theorem t_tru (ha : E' X cls ts W e F) (he : ∀ whole, isTrue e X.env whole = (do let v ← whole; standAt e.pos; holding [v] (truthy v)) := by intro _; rfl) : T' X cls ts W e (tTru F) := by
  refine ⟨fun pins s σ H Q I ⟨ρ, ε, h, hH, hE, p⟩ => (pt_truth ha he).run pins s σ H Q I (tG_bind hH hE p fun ρ1 H1 x h1 dx _ e1 hH1 rx hE1 p1 => ?_)⟩
  split at p1
  · rename_i b q
    exact ⟨b, truD_ok hH1 rx q, p1 _ _ _ .refl hH1 rfl⟩
  · exact p1.elim
theorem t_not (ha : T' X cls ts W a Ta) : T' X cls ts W (.UnaryOp .Not a pos) (tNot' Ta) :=
  ⟨fun pins s σ H Q I ⟨ρ, ε, h, hH, hE, p⟩ => (pt_not ha).run pins s σ H Q I (tG_bind hH hE p fun ρ1 H1 x h1 dx _ e1 hH1 rx hE1 p1 => p1 _ _ _ .refl hH1 (by rw [rx]))⟩
abbrev W' (X : Cx) (cls ts : List Addr) (W : WX) (e : Expr) (F : TF) : Prop := PW X e (tT X.K cls ts W F)
theorem w_and1 (ha : T' X cls ts W a Ta) : W' X cls ts W (.BoolOp .And [a] pos) Ta := pw_and1 ha
theorem w_or1 (ha : T' X cls ts W a Ta) : W' X cls ts W (.BoolOp .Or [a] pos) Ta := pw_or1 ha
theorem w_and {rest : List Expr} (ha : T' X cls ts W a Ta) (hb : W' X cls ts W (.BoolOp .And (b :: rest) pos) Tb) : W' X cls ts W (.BoolOp .And (a :: b :: rest) pos) (tAnd' Ta Tb) := by
  refine ⟨fun wh pins s σ H Q I ⟨ρ, ε, h, hH, hE, p⟩ => (pw_and ha hb).run wh pins s σ H Q I (tG_bind hH hE p fun ρ1 H1 x h1 dx _ e1 hH1 rx hE1 p1 => ?_)⟩
  cases rx
  cases x with
  | true => exact ⟨_, _, _, hH1, hE1, p1⟩
  | false => exact p1 _ _ _ .refl hH1 rfl
theorem w_or {rest : List Expr} (ha : T' X cls ts W a Ta) (hb : W' X cls ts W (.BoolOp .Or (b :: rest) pos) Tb) : W' X cls ts W (.BoolOp .Or (a :: b :: rest) pos) (tOr' Ta Tb) := by
  refine ⟨fun wh pins s σ H Q I ⟨ρ, ε, h, hH, hE, p⟩ => (pw_or ha hb).run wh pins s σ H Q I (tG_bind hH hE p fun ρ1 H1 x h1 dx _ e1 hH1 rx hE1 p1 => ?_)⟩
  cases rx
  cases x with
  | false => exact ⟨_, _, _, hH1, hE1, p1⟩
  | true => exact p1 _ _ _ .refl hH1 rfl
theorem t_pw (h : W' X cls ts W e Ta) : T' X cls ts W e Ta := h.pt
theorem e_ifExp (hc : T' X cls ts W c Ta) (ha : E' X cls ts W a Fa) (hb : E' X cls ts W b Fb) : E' X cls ts W (.IfExp c a b pos) (cIf Ta Fa Fb) := by
  refine ⟨fun pins s σ H Q I ⟨ρ, ε, h, hH, hE, p⟩ => (pe_ifExp hc ha hb).run pins s σ H Q I (tG_bind hH hE p fun ρ1 H1 x h1 dx _ e1 hH1 rx hE1 p1 => ?_)⟩
  cases rx
  cases x with
  | true => exact ⟨_, _, _, hH1, hE1, p1⟩
  | false => exact ⟨_, _, _, hH1, hE1, p1⟩
theorem e_one {op : BoolOp} (ha : E' X cls ts W a Fa) : E' X cls ts W (.BoolOp op [a] pos) Fa := pe_one ha
theorem e_and {rest : List Expr} (ha : E' X cls ts W a Fa) (hb : E' X cls ts W (.BoolOp .And (b :: rest) pos) Fb) : E' X cls ts W (.BoolOp .And (a :: b :: rest) pos) (cAnd Fa Fb) := by
  refine ⟨fun pins s σ H Q I ⟨ρ, ε, h, hH, hE, p⟩ => (pe_andT ha hb).run pins s σ H Q I (tG_bind hH hE p fun ρ1 H1 x h1 dx _ e1 hH1 rx hE1 p1 => ?_)⟩
  split at p1
  · rename_i q
    exact ⟨true, truD_ok hH1 rx q, iteT ⟨_, _, _, hH1, hE1, p1⟩⟩
  · rename_i q
    exact ⟨false, truD_ok hH1 rx q, iteF (post_val hH1 rx p1)⟩
  · exact p1.elim
theorem e_or {rest : List Expr} (ha : E' X cls ts W a Fa) (hb : E' X cls ts W (.BoolOp .Or (b :: rest) pos) Fb) : E' X cls ts W (.BoolOp .Or (a :: b :: rest) pos) (cOr Fa Fb) := by
  refine ⟨fun pins s σ H Q I ⟨ρ, ε, h, hH, hE, p⟩ => (pe_orT ha hb).run pins s σ H Q I (tG_bind hH hE p fun ρ1 H1 x h1 dx _ e1 hH1 rx hE1 p1 => ?_)⟩
  split at p1
  · rename_i q
    exact ⟨true, truD_ok hH1 rx q, iteT (post_val hH1 rx p1)⟩
  · rename_i q
    exact ⟨false, truD_ok hH1 rx q, iteF ⟨_, _, _, hH1, hE1, p1⟩⟩
  · exact p1.elim
theorem e_not (ha : E' X cls ts W a Fa) : E' X cls ts W (.UnaryOp .Not a pos) (cNot Fa) := by
  refine ⟨fun pins s σ H Q I ⟨ρ, ε, h, hH, hE, p⟩ => (pe_notT ha).run pins s σ H Q I (tG_bind hH hE p fun ρ1 H1 x h1 dx _ e1 hH1 rx hE1 p1 => ?_)⟩
  split at p1
  · rename_i b q
    exact ⟨b, truD_ok hH1 rx q, post_val hH1 (.bl _) p1⟩
  · exact p1.elim
theorem chain_ok {r r' : R2} {f g : Op2} (os : OpS X.K cls ts r f) (os' : OpS X.K cls ts r' g) {σ : L2.St} {H : Hp} {Q : VK} (p : tE X.K cls ts W (cChain f g Fa Fb Fc) σ H Q) :
    tChain r r' (tE X.K cls ts W Fa) (tE X.K cls ts W Fb) (tE X.K cls ts W Fc) σ H Q := by
  obtain ⟨ρ, ε, h, hH, hE, p⟩ := p
  refine tG_bind hH hE p fun ρ1 H1 x h1 dx _ e1 hH1 rx hE1 p1 => tG_bind hH1 hE1 p1 fun ρ2 H2 y h2 dy _ e2 hH2 ry hE2 p2 => ?_
  have p2' : Post X.K cls ts (relD X.K) (fun c dd H' => W c dd σ H') ρ2 H2 ((f dx dy h2).bind fun z h3 => match z with
    | .bl true => (Fc ε h3).bind fun w h4 => g dy w h4
    | .bl false => .ok (.bl false) h3
    | _ => .stuck) Q := p2
  refine os (fun c dd H' => W c dd σ H') ρ2 H2 h2 x y dx dy _ hH2 (rx.mono e2) ry ?_
  cases q : f dx dy h2 with
  | stuck => rw [q] at p2'; exact p2'
  | exc x' h' => rw [q] at p2'; exact p2'
  | ok z h3 =>
    rw [q] at p2'
    intro ρ3 H3 v e3 hH3 rz
    have p3 := p2'.ext e3
    simp only [Res.bind_ok] at p3
    cases rz <;> first | exact p3.elim | skip
    rename_i k
    cases k with
    | true =>
      exact ⟨true, rfl, iteT (tG_bind hH3 (hE2.mono e3) p3 fun ρ4 H4 w h4 dw _ e4 hH4 rw' hE4 p4 => os' _ _ _ _ _ _ _ _ _ hH4 (ry.mono (e3.trans e4)) rw' p4)⟩
    | false => exact ⟨false, rfl, iteF (post_val hH3 (.bl _) p3)⟩
theorem e_chain {op op' : CmpOp} {r r' : R2} {f g : Op2} (ho : OpR X (compareOp op) r) (os : OpS X.K cls ts r f) (ho' : OpR X (compareOp op') r') (os' : OpS X.K cls ts r' g) (ha : E' X cls ts W a Fa) (hb : E' X cls ts W b Fb) (hc : E' X cls ts W c Fc)
    (hm : lastMarks [op, op'] [b, c] = false := by with_unfolding_all rfl) : E' X cls ts W (.Compare a [op, op'] [b, c] pos) (cChain f g Fa Fb Fc) :=
  ⟨fun pins s σ H Q I p => (pe_chain ho ho' ha hb hc hm).run pins s σ H Q I (chain_ok os os' p)⟩
theorem t_chain {op op' : CmpOp} {r r' : R2} {f g : Op2} (ho : OpR X (compareOp op) r) (os : OpS X.K cls ts r f) (ho' : OpR X (compareOp op') r') (os' : OpS X.K cls ts r' g) (ha : E' X cls ts W a Fa) (hb : E' X cls ts W b Fb) (hc : E' X cls ts W c Fc)
    (hm : lastMarks [op, op'] [b, c] = false := by with_unfolding_all rfl) : T' X cls ts W (.Compare a [op, op'] [b, c] pos) (tVal (cChain f g Fa Fb Fc)) := by
  refine ⟨fun pins s σ H Q I ⟨ρ, ε, h, hH, hE, p⟩ => (pt_chain ho ho' ha hb hc hm).run pins s σ H Q I (chain_ok os os' ?_)⟩
  exact tG_bind hH hE p fun ρ1 H1 x h1 dx _ e1 hH1 rx hE1 p1 => bl_of hH1 rx p1
theorem a_nil : A' X cls ts W [] aNil := ⟨fun pos pins s σ H Q I ⟨ρ, ε, h, hH, hE, p⟩ => pa_nil.run pos pins s σ H Q I (p _ _ _ .refl hH .nil)⟩
theorem a_cons (ha : E' X cls ts W e Fa) (hr : A' X cls ts W es A) (hs : starEach (e :: es) X.env = (false, eval e X.env) :: starEach es X.env := by rfl) : A' X cls ts W (e :: es) (aCons Fa A) :=
  ⟨fun pos pins s σ H Q I ⟨ρ, ε, h, hH, hE, p⟩ => (pa_cons ha hr hs).run pos pins s σ H Q I (tG_bind hH hE p fun ρ1 H1 x h1 dx _ e1 hH1 rx hE1 p1 =>
    tG_bind hH1 hE1 p1 fun ρ2 H2 y h2 dy _ e2 hH2 ry hE2 p2 => p2 _ _ _ .refl hH2 (.cons (rx.mono e2) ry))⟩
theorem e_tup {x1} (h : A' X cls ts W es A) : E' X cls ts W (.Tuple es x1 pos) (cTup A) := by
  refine ⟨fun pins s σ H Q I ⟨ρ, ε, hh, hH, hE, p⟩ => (pe_tup h).run pins s σ H Q I (tG_bind hH hE p fun ρ1 H1 x h1 dx _ e1 hH1 rx hE1 p1 => ?_)⟩
  split at p1
  · rename_i c
    exact ⟨by rw [rx.length]; exact c, post_newT hH1 rx p1⟩
  · exact p1.elim
theorem e_lst (h : A' X cls ts W es A) : E' X cls ts W (.List es pos) (cLst A) := by
  refine ⟨fun pins s σ H Q I ⟨ρ, ε, hh, hH, hE, p⟩ => (pe_lst h).run pins s σ H Q I (tG_bind hH hE p fun ρ1 H1 x h1 dx _ e1 hH1 rx hE1 p1 => ?_)⟩
  split at p1
  · rename_i c
    exact ⟨by rw [rx.length]; exact c, post_newL hH1 rx p1⟩
  · exact p1.elim
end
end Mi

namespace Mi
open L2 PySem PySem.Spec PyProof.Rows

/-! ### data as a whole -/
def omap {α β : Type} (f : α → Option β) : List α → Option (List β)
  | [] => some []
  | x :: xs => match f x, omap f xs with
    | some y, some ys => some (y :: ys)
    | _, _ => none
def pd : Nat → AH → D → Option PyData
  | _, _, .non => some .none
  | _, _, .bl b => some (.bool b)
  | _, _, .int i => some (.int i)
  | _, _, .str x => some (.str x)
  | 0, _, _ => none
  | n + 1, h, .tup xs => (omap (pd n h) xs).map .tuple
  | n + 1, h, .rol xs => (omap (pd n h) xs).map .list
  | n + 1, h, .ref r => match h[r]? with
    | some (.lst xs) => (omap (pd n h) xs).map .list
    | _ => none
  | _, _, _ => none
section
variable {K : PySem.W.Frag} {cls ts ρ : List Addr} {H : Hp} {h : AH}
theorem dpAll_of {f : D → Option PyData} (ih : ∀ v d p, RV K ρ H v d → f d = some p → Dp K H v p) : ∀ {xs : List V} {ds : List D} {ps : List PyData}, RVs K ρ H xs ds → omap f ds = some ps → DpAll K H xs ps
  | _, _, _, .nil, e => by cases e; exact .nil
  | x :: xs, d :: ds, ps, .cons r rs, e => by
    unfold omap at e
    split at e <;> cases e
    rename_i y ys q1 q2
    exact .cons (ih _ _ _ r q1) (dpAll_of ih rs q2)
theorem dp_of (r : RH K cls ts ρ H h) : ∀ (n : Nat) (v : V) (d : D) (p : PyData), RV K ρ H v d → pd n h d = some p → Dp K H v p := by
  intro n
  induction n with
  | zero =>
    intro v d p rv e
    cases rv <;> simp only [pd] at e <;> cases e
    · exact .non
    · exact .bl _
    · exact .int _
    · exact .str _
  | succ n ih =>
    intro v d p rv e
    cases rv with
    | non => cases e; exact .non
    | bl b => cases e; exact .bl b
    | int i => cases e; exact .int i
    | str x => cases e; exact .str x
    | tup h1 r1 =>
      simp only [pd, Option.map_eq_some_iff] at e
      obtain ⟨ps, q, rfl⟩ := e
      exact .tup h1 (dpAll_of ih r1 q)
    | rol h1 r1 =>
      simp only [pd, Option.map_eq_some_iff] at e
      obtain ⟨ps, q, rfl⟩ := e
      exact .lst h1.sq (dpAll_of ih r1 q)
    | ref q1 =>
      simp only [pd] at e
      split at e <;> first | (cases e; done) | skip
      rename_i xs e1
      obtain ⟨ps, q, rfl⟩ := Option.map_eq_some_iff.mp e
      obtain ⟨us, k1, r1⟩ := r.lst q1 e1
      exact .lst (SqL.of k1) (dpAll_of ih r1 q)
    | _ => cases e
end
/-- flat values -/
def flat : D → Option V
  | .non => some .non
  | .bl b => some (.bl b)
  | .int i => some (.int i)
  | .str x => some (.str x)
  | _ => none
section
variable {K : PySem.W.Frag} {cls ts ρ : List Addr} {H : Hp} {h : AH}
theorem flat_of {v w : V} {d : D} (r : RV K ρ H v d) (e : flat d = some w) : v = w ∧ flatV w = true := by
  cases r <;> cases e <;> exact ⟨rfl, rfl⟩
theorem flats_of : ∀ {xs ws : List V} {ds : List D}, RVs K ρ H xs ds → omap flat ds = some ws → xs = ws ∧ ws.all flatV = true
  | _, _, _, .nil, e => by cases e; exact ⟨rfl, rfl⟩
  | x :: xs, ws, d :: ds, .cons r rs, e => by
    unfold omap at e
    split at e <;> cases e
    rename_i y ys q1 q2
    obtain ⟨rfl, f1⟩ := flat_of r q1
    obtain ⟨rfl, f2⟩ := flats_of rs q2
    exact ⟨rfl, by rw [List.all_cons, f1, f2] <;> rfl⟩
end
/-- scalars compared: as == does it -/
def scalEq : D → D → Option Bool
  | .int i, .int j => some (decide (i = j))
  | .str a, .str b => some (decide (a = b))
  | .bl a, .bl b => some (decide (a = b))
  | .non, .non => some true
  | .int _, .str _ => some false
  | .str _, .int _ => some false
  | .non, .int _ => some false
  | .non, .str _ => some false
  | .non, .bl _ => some false
  | .int _, .non => some false
  | .str _, .non => some false
  | .bl _, .non => some false
  | .bl _, .str _ => some false
  | .str _, .bl _ => some false
  | _, _ => none
def opEq : Op2 := fun x y h => match scalEq x y with
  | some b => .ok (.bl b) h
  | none => match pd 66 h x, pd 66 h y with
    | some p, some q => if SeqAt.shaped p = true ∧ SeqAt.shaped q = true then .ok (.bl (PyData.eqv p q)) h else .stuck
    | _, _ => .stuck
def opNe : Op2 := fun x y h => match scalEq x y with
  | some b => .ok (.bl (!b)) h
  | none => match pd 66 h x, pd 66 h y with
    | some p, some q => if SeqAt.shaped p = true ∧ SeqAt.shaped q = true then .ok (.bl (!PyData.eqv p q)) h else .stuck
    | _, _ => .stuck
def rEqM (K : PySem.W.Frag) : R2 := fun x y H Q => rEq x y H Q ∨ rEqD K x y H Q
def rNeM (K : PySem.W.Frag) : R2 := fun x y H Q => rNe x y H Q ∨ rNeD K x y H Q
theorem op_eqM {X : Cx} (hu : X.A.units + 64 < cLine) : OpR X (compareOp .Eq) (rEqM X.K) := op_eq.or (op_eqD hu)
theorem op_neM {X : Cx} (hu : X.A.units + 64 < cLine) : OpR X (compareOp .NotEq) (rNeM X.K) := op_ne.or (op_neD hu)
section
variable {K : PySem.W.Frag} {cls ts ρ : List Addr} {H : Hp} {h : AH}
theorem scal_of {x y : V} {dx dy : D} {b : Bool} (rx : RV K ρ H x dx) (ry : RV K ρ H y dy) (e : scalEq dx dy = some b) : scal x y = true ∧ b = decide (x = y) := by
  cases rx <;> cases ry <;> simp only [scalEq, Option.some.injEq, reduceCtorEq] at e <;> first | (subst e; refine ⟨rfl, ?_⟩; simp)
theorem opEq_ok : OpS K cls ts (rEqM K) opEq := by
  intro W ρ H h x y dx dy Q r rx ry p
  unfold opEq at p
  split at p
  · rename_i b e
    obtain ⟨s1, rfl⟩ := scal_of rx ry e
    exact .inl ⟨s1, post_val r (.bl _) p⟩
  · split at p <;> first | exact p.elim | skip
    rename_i p1 p2 q1 q2
    split at p <;> first | exact p.elim | skip
    rename_i c
    exact .inr ⟨p1, p2, dp_of r _ _ _ _ rx q1, dp_of r _ _ _ _ ry q2, c.1, c.2, post_val r (.bl _) p⟩
theorem opNe_ok : OpS K cls ts (rNeM K) opNe := by
  intro W ρ H h x y dx dy Q r rx ry p
  unfold opNe at p
  split at p
  · rename_i b e
    obtain ⟨s1, rfl⟩ := scal_of rx ry e
    exact .inl ⟨s1, post_val r (.bl _) p⟩
  · split at p <;> first | exact p.elim | skip
    rename_i p1 p2 q1 q2
    split at p <;> first | exact p.elim | skip
    rename_i c
    exact .inr ⟨p1, p2, dp_of r _ _ _ _ rx q1, dp_of r _ _ _ _ ry q2, c.1, c.2, post_val r (.bl _) p⟩
end
def ltS (a b : Str) : Bool := decide (a.cps.toList < b.cps.toList)
def opLt : Op2
  | .int i, .int j, h => .ok (.bl (decide (i < j))) h
  | .str a, .str b, h => .ok (.bl (ltS a b)) h
  | _, _, _ => .stuck
def opLe : Op2
  | .int i, .int j, h => .ok (.bl (decide (i ≤ j))) h
  | .str a, .str b, h => .ok (.bl (!ltS b a)) h
  | _, _, _ => .stuck
def opGt : Op2
  | .int i, .int j, h => .ok (.bl (decide (j < i))) h
  | .str a, .str b, h => .ok (.bl (ltS b a)) h
  | _, _, _ => .stuck
def opGe : Op2
  | .int i, .int j, h => .ok (.bl (decide (j ≤ i))) h
  | .str a, .str b, h => .ok (.bl (!ltS a b)) h
  | _, _, _ => .stuck
def rOrd (f : Int → Int → Bool) (g : Str → Str → Bool) : R2 := fun x y H Q => rI0 (fun i j => .bl (f i j)) x y H Q ∨ ∃ i j, x = .str i ∧ y = .str j ∧ Q (.bl (g i j)) H
theorem op_ltM {X : Cx} : OpR X (compareOp .Lt) (rOrd (fun i j => decide (i < j)) ltS) := op_lt.or op_lt_str
theorem op_leM {X : Cx} : OpR X (compareOp .LtE) (rOrd (fun i j => decide (i ≤ j)) fun a b => !ltS b a) := op_le.or op_le_str
theorem op_gtM {X : Cx} : OpR X (compareOp .Gt) (rOrd (fun i j => decide (j < i)) fun a b => ltS b a) := op_gt.or op_gt_str
theorem op_geM {X : Cx} : OpR X (compareOp .GtE) (rOrd (fun i j => decide (j ≤ i)) fun a b => !ltS a b) := op_ge.or op_ge_str
section
variable {K : PySem.W.Frag} {cls ts : List Addr}
theorem ord_ok {f : Int → Int → Bool} {g : Str → Str → Bool} {op : Op2} (h1 : ∀ i j h, op (.int i) (.int j) h = .ok (.bl (f i j)) h) (h2 : ∀ i j h, op (.str i) (.str j) h = .ok (.bl (g i j)) h)
    (h3 : ∀ x y h, (∀ i j, ¬ (x = .int i ∧ y = .int j)) → (∀ i j, ¬ (x = .str i ∧ y = .str j)) → op x y h = .stuck) : OpS K cls ts (rOrd f g) op := by
  intro W ρ H h x y dx dy Q r rx ry p
  cases rx with
  | int i =>
    cases ry with
    | int j =>
      rw [h1] at p
      exact .inl ⟨_, _, rfl, rfl, post_val r (.bl _) p⟩
    | _ =>
      rw [h3 _ _ _ (by intro i j ⟨_, z⟩; cases z) (by intro i j ⟨z, _⟩; cases z)] at p
      exact p.elim
  | str i =>
    cases ry with
    | str j =>
      rw [h2] at p
      exact .inr ⟨_, _, rfl, rfl, post_val r (.bl _) p⟩
    | _ =>
      rw [h3 _ _ _ (by intro i j ⟨z, _⟩; cases z) (by intro i j ⟨_, z⟩; cases z)] at p
      exact p.elim
  | _ =>
    rw [h3 _ _ _ (by intro i j ⟨z, _⟩; cases z) (by intro i j ⟨z, _⟩; cases z)] at p
    exact p.elim
theorem opLt_ok : OpS K cls ts (rOrd (fun i j => decide (i < j)) ltS) opLt := ord_ok (fun _ _ _ => rfl) (fun _ _ _ => rfl) fun x y h a b => by
  cases x <;> cases y <;> first | rfl | exact absurd ⟨rfl, rfl⟩ (a _ _) | exact absurd ⟨rfl, rfl⟩ (b _ _)
theorem opLe_ok : OpS K cls ts (rOrd (fun i j => decide (i ≤ j)) fun a b => !ltS b a) opLe := ord_ok (fun _ _ _ => rfl) (fun _ _ _ => rfl) fun x y h a b => by
  cases x <;> cases y <;> first | rfl | exact absurd ⟨rfl, rfl⟩ (a _ _) | exact absurd ⟨rfl, rfl⟩ (b _ _)
theorem opGt_ok : OpS K cls ts (rOrd (fun i j => decide (j < i)) fun a b => ltS b a) opGt := ord_ok (fun _ _ _ => rfl) (fun _ _ _ => rfl) fun x y h a b => by
  cases x <;> cases y <;> first | rfl | exact absurd ⟨rfl, rfl⟩ (a _ _) | exact absurd ⟨rfl, rfl⟩ (b _ _)
theorem opGe_ok : OpS K cls ts (rOrd (fun i j => decide (j ≤ i)) fun a b => !ltS a b) opGe := ord_ok (fun _ _ _ => rfl) (fun _ _ _ => rfl) fun x y h a b => by
  cases x <;> cases y <;> first | rfl | exact absurd ⟨rfl, rfl⟩ (a _ _) | exact absurd ⟨rfl, rfl⟩ (b _ _)
end
/-- is, is not: with None; of truths; of two things of the store -/
def isD : D → D → AH → Option Bool
  | .non, .non, _ => some true
  | .bl _, .non, _ => some false
  | .int _, .non, _ => some false
  | .str _, .non, _ => some false
  | .tup _, .non, _ => some false
  | .rol _, .non, _ => some false
  | .ref _, .non, _ => some false
  | .bl a, .bl b, _ => some (decide (a = b))
  | .ref a, .ref b, h => match h[a]?, h[b]? with
    | some (.lst _), some (.lst _) => some (decide (a = b))
    | some (.lst _), some (.ins _ _) => some (decide (a = b))
    | some (.ins _ _), some (.lst _) => some (decide (a = b))
    | some (.ins _ _), some (.ins _ _) => some (decide (a = b))
    | _, _ => none
  | _, _, _ => none
def opIs : Op2 := fun x y h => match isD x y h with
  | some b => .ok (.bl b) h
  | none => .stuck
def opIsNot : Op2 := fun x y h => match isD x y h with
  | some b => .ok (.bl (!b)) h
  | none => .stuck
def rIsA (n : Bool) : R2 := fun x y H Q => (y = .non ∧ Q (.bl (if n then !decide (x = .non) else decide (x = .non))) H) ∨ (∃ a b : Bool, x = .bl a ∧ y = .bl b ∧ Q (.bl (if n then !decide (a = b) else decide (a = b))) H) ∨
  ∃ a b oa ob, x = .ref a ∧ y = .ref b ∧ H a = some oa ∧ isObj oa = true ∧ H b = some ob ∧ isObj ob = true ∧ Q (.bl (if n then !decide (a = b) else decide (a = b))) H
theorem op_isM {X : Cx} : OpR X (compareOp .Is) (rIsA false) := op_isN.or (op_isBl.or op_is_ref)
theorem op_isNotM {X : Cx} : OpR X (compareOp .IsNot) (rIsA true) := op_notN.or (op_notBl.or op_isnot_ref)
section
variable {K : PySem.W.Frag} {cls ts ρ : List Addr} {H : Hp} {h : AH}
theorem isObj_of {a : Addr} {o : O} (r : RO K cls ρ H a o) (ho : (∃ ds, o = .lst ds) ∨ ∃ c fs, o = .ins c fs) : ∃ u, H a = some u ∧ isObj u = true := by
  rcases ho with ⟨ds, rfl⟩ | ⟨c, fs, rfl⟩
  · obtain ⟨xs, k, _⟩ := r
    exact ⟨_, k, rfl⟩
  · obtain ⟨_, _, _, _, k, _⟩ := r
    exact ⟨_, k, rfl⟩
theorem isD_ok {n : Bool} {x y : V} {dx dy : D} {b : Bool} {Q : VK} (r : RH K cls ts ρ H h) (rx : RV K ρ H x dx) (ry : RV K ρ H y dy) (e : isD dx dy h = some b) (q : Q (.bl (if n then !b else b)) H) : rIsA n x y H Q := by
  cases ry with
  | non =>
    refine .inl ⟨rfl, ?_⟩
    have : b = decide (x = .non) := by
      cases rx <;> cases e <;> simp
    rw [this] at q
    exact q
  | bl b2 =>
    cases rx <;> cases e
    exact .inr (.inl ⟨_, _, rfl, rfl, q⟩)
  | ref q2 =>
    cases rx with
    | ref q1 =>
      rename_i a2 n2 a1 n1
      have key : ∀ {o1 o2 : O}, h[n1]? = some o1 → h[n2]? = some o2 → ((∃ ds, o1 = .lst ds) ∨ ∃ c fs, o1 = .ins c fs) → ((∃ ds, o2 = .lst ds) ∨ ∃ c fs, o2 = .ins c fs) → b = decide (n1 = n2) → rIsA n (.ref a1) (.ref a2) H Q := fun {o1 o2} e1 e2 k1 k2 eb => by
        obtain ⟨u1, w1, i1⟩ := isObj_of (r.ref q1 e1) k1
        obtain ⟨u2, w2, i2⟩ := isObj_of (r.ref q2 e2) k2
        refine .inr (.inr ⟨a1, a2, u1, u2, rfl, rfl, w1, i1, w2, i2, ?_⟩)
        have : b = decide (a1 = a2) := by
          rw [eb, Bool.eq_iff_iff, decide_eq_true_iff, decide_eq_true_iff]
          constructor
          · intro z
            subst z
            rw [q1] at q2
            exact Option.some.inj q2
          · intro z
            subst z
            obtain ⟨l1, z1⟩ := List.getElem?_eq_some_iff.mp q1
            obtain ⟨l2, z2⟩ := List.getElem?_eq_some_iff.mp q2
            exact (List.getElem_inj r.nd).mp (z1.trans z2.symm)
        rw [← this]
        exact q
      simp only [isD] at e
      split at e <;> cases e
      · rename_i e1 e2; exact key e1 e2 (.inl ⟨_, rfl⟩) (.inl ⟨_, rfl⟩) rfl
      · rename_i e1 e2; exact key e1 e2 (.inl ⟨_, rfl⟩) (.inr ⟨_, _, rfl⟩) rfl
      · rename_i e1 e2; exact key e1 e2 (.inr ⟨_, _, rfl⟩) (.inl ⟨_, rfl⟩) rfl
      · rename_i e1 e2; exact key e1 e2 (.inr ⟨_, _, rfl⟩) (.inr ⟨_, _, rfl⟩) rfl
    | _ => cases e
  | _ => cases rx <;> cases e
theorem opIs_ok : OpS K cls ts (rIsA false) opIs := by
  intro W ρ H h x y dx dy Q r rx ry p
  unfold opIs at p
  split at p <;> first | exact p.elim | skip
  rename_i b e
  exact isD_ok r rx ry e (post_val r (.bl _) p)
theorem opIsNot_ok : OpS K cls ts (rIsA true) opIsNot := by
  intro W ρ H h x y dx dy Q r rx ry p
  unfold opIsNot at p
  split at p <;> first | exact p.elim | skip
  rename_i b e
  exact isD_ok r rx ry e (post_val r (.bl _) p)
end
/-- what a list, a tuple holds -/
def seqD : D → AH → Option (List D)
  | .tup xs, _ => some xs
  | .rol xs, _ => some xs
  | .ref n, h => match h[n]? with
    | some (.lst xs) => some xs
    | _ => none
  | _, _ => none
theorem seq_of {K : PySem.W.Frag} {cls ts ρ : List Addr} {H : Hp} {h : AH} {v : V} {d : D} {ds : List D} (r : RH K cls ts ρ H h) (rv : RV K ρ H v d) (e : seqD d h = some ds) : ∃ a xs, v = .ref a ∧ (SqL K H a xs ∨ SqT K H a xs) ∧ RVs K ρ H xs ds := by
  cases rv with
  | tup h1 r1 => cases e; exact ⟨_, _, rfl, .inr h1, r1⟩
  | rol h1 r1 => cases e; exact ⟨_, _, rfl, .inl h1.sq, r1⟩
  | ref q1 =>
    simp only [seqD] at e
    split at e <;> cases e
    rename_i e1
    obtain ⟨us, k1, r1⟩ := r.lst q1 e1
    exact ⟨_, _, rfl, .inl (SqL.of k1), r1⟩
  | _ => cases e
/-- in, not in: flat things in a row of flat ones; data in a list; a text in a text -/
def inD (x y : D) (h : AH) : Option Bool :=
  match y with
  | .str z => match x with
    | .str i => some (!(Builtin.Str.occurrences z i 0 z.length 1).isEmpty)
    | _ => none
  | _ => match seqD y h with
    | none => none
    | some ds => match flat x, omap flat ds with
      | some v, some vs => some (inV v vs)
      | _, _ => match pd 66 h x, pd 66 h y with
        | some p, some (.list ps) => if SeqAt.shaped p = true ∧ SeqAt.shaped (.list ps) = true then some (ps.any fun z => PyData.eqv z p) else none
        | _, _ => none
def opIn : Op2 := fun x y h => match inD x y h with
  | some b => .ok (.bl b) h
  | none => .stuck
def opNotIn : Op2 := fun x y h => match inD x y h with
  | some b => .ok (.bl (!b)) h
  | none => .stuck
def rInM (K : PySem.W.Frag) : R2 := fun x y H Q => rIn K false x y H Q ∨ (∃ i j, x = .str i ∧ y = .str j ∧ Q (.bl (!(Builtin.Str.occurrences j i 0 j.length 1).isEmpty)) H) ∨ rInD K x y H Q
def rNotInM (K : PySem.W.Frag) : R2 := fun x y H Q => rIn K true x y H Q ∨ (∃ i j, x = .str i ∧ y = .str j ∧ Q (.bl (!(!(Builtin.Str.occurrences j i 0 j.length 1).isEmpty))) H) ∨ rNotInD K x y H Q
theorem op_inM {X : Cx} (hu : X.A.units + 65 < cLine) : OpR X (compareOp .In) (rInM X.K) := op_in_seq.or (op_in_str.or (op_inD hu))
theorem op_notInM {X : Cx} (hu : X.A.units + 65 < cLine) : OpR X (compareOp .NotIn) (rNotInM X.K) := op_notIn_seq.or (op_notin_str.or (op_notInD hu))
section
variable {K : PySem.W.Frag} {cls ts ρ : List Addr} {H : Hp} {h : AH}
theorem inD_ok {x y : V} {dx dy : D} {b : Bool} {Q : VK} (r : RH K cls ts ρ H h) (rx : RV K ρ H x dx) (ry : RV K ρ H y dy) (e : inD dx dy h = some b) : (Q (.bl b) H → rInM K x y H Q) ∧ (Q (.bl (!b)) H → rNotInM K x y H Q) := by
  unfold inD at e
  split at e
  · split at e <;> cases e
    cases rx
    cases ry
    exact ⟨fun q => .inr (.inl ⟨_, _, rfl, rfl, q⟩), fun q => .inr (.inl ⟨_, _, rfl, rfl, q⟩)⟩
  · split at e <;> first | (cases e; done) | skip
    rename_i ds es
    obtain ⟨a, xs, rfl, hs, rs⟩ := seq_of r ry es
    split at e
    · rename_i w ws q1 q2
      cases e
      obtain ⟨rfl, f1⟩ := flat_of rx q1
      obtain ⟨rfl, f2⟩ := flats_of rs q2
      exact ⟨fun q => .inl ⟨_, _, rfl, hs, f1, f2, q⟩, fun q => .inl ⟨_, _, rfl, hs, f1, f2, q⟩⟩
    · split at e <;> first | (cases e; done) | skip
      rename_i p ps q1 q2
      split at e <;> cases e
      rename_i c
      exact ⟨fun q => .inr (.inr ⟨_, _, dp_of r _ _ _ _ rx q1, dp_of r _ _ _ _ ry q2, c.1, c.2, q⟩), fun q => .inr (.inr ⟨_, _, dp_of r _ _ _ _ rx q1, dp_of r _ _ _ _ ry q2, c.1, c.2, q⟩)⟩
theorem opIn_ok : OpS K cls ts (rInM K) opIn := by
  intro W ρ H h x y dx dy Q r rx ry p
  unfold opIn at p
  split at p <;> first | exact p.elim | skip
  rename_i b e
  exact (inD_ok r rx ry e).1 (post_val r (.bl _) p)
theorem opNotIn_ok : OpS K cls ts (rNotInM K) opNotIn := by
  intro W ρ H h x y dx dy Q r rx ry p
  unfold opNotIn at p
  split at p <;> first | exact p.elim | skip
  rename_i b e
  exact (inD_ok r rx ry e).2 (post_val r (.bl _) p)
end
end Mi

namespace Mi
open L2 PySem PySem.Spec PyProof.Rows

/-! ### items and cuts -/
def opIx : Op2
  | .str z, .int i, h => if z.length ≤ sizeLine then match atI z.cps.toList i with
      | some c => .ok (.str ⟨#[c]⟩) h
      | none => .stuck
    else .stuck
  | c, .int i, h => match seqD c h with
    | some ds => match atI ds i with
      | some d => .ok d h
      | none => .stuck
    | none => .stuck
  | _, _, _ => .stuck
theorem RVs.at {K : PySem.W.Frag} {ρ : List Addr} {H : Hp} {xs : List V} {ds : List D} {i : Int} {d : D} (r : RVs K ρ H xs ds) (e : atI ds i = some d) : ∃ v, atI xs i = some v ∧ RV K ρ H v d := by
  unfold atI at e ⊢
  rw [r.length]
  obtain ⟨j, hj, e⟩ := Option.bind_eq_some_iff.mp e
  rw [hj]
  exact r.get e
theorem opIx_ok {K : PySem.W.Frag} {cls ts : List Addr} : OpS K cls ts (rIx K) opIx := by
  intro W ρ H h x y dx dy Q r rx ry p
  cases ry with
  | int i =>
    have seq : ∀ {c : D}, RV K ρ H x c → Post K cls ts (relD K) W ρ H (match seqD c h with
        | some ds => match atI ds i with
          | some d => .ok d h
          | none => .stuck
        | none => .stuck) Q → rIx K x (.int i) H Q := fun {c} rc p => by
      split at p <;> first | exact p.elim | skip
      rename_i ds e
      split at p <;> first | exact p.elim | skip
      rename_i d e2
      obtain ⟨a, xs, rfl, hs, rs⟩ := seq_of r rc e
      obtain ⟨v, hv, rv⟩ := rs.at e2
      rcases hs with hs | hs
      · exact .inl ⟨_, _, _, _, rfl, rfl, hs, hv, post_val r rv p⟩
      · exact .inr (.inl ⟨_, _, _, _, rfl, rfl, hs, hv, post_val r rv p⟩)
    cases rx with
    | str z =>
      simp only [opIx] at p
      split at p <;> first | exact p.elim | skip
      rename_i c
      split at p <;> first | exact p.elim | skip
      rename_i k e
      exact .inr (.inr ⟨_, _, _, rfl, rfl, c, e, post_val r (.str _) p⟩)
    | tup h1 r1 => exact seq (.tup h1 r1) p
    | rol h1 r1 => exact seq (.rol h1 r1) p
    | ref q1 => exact seq (.ref q1) p
    | _ => exact p.elim
  | _ => cases rx <;> exact p.elim
abbrev OF := AEnv → AH → Res (Option Int)
def oNone : OF := fun _ h => .ok none h
def oSome (F : EF) : OF := fun ε h => (F ε h).bind fun d h1 => match d with
  | .int i => .ok (some i) h1
  | _ => .stuck
def cutL {α : Type} (xs : List α) (lo hi : Option Int) : List α := (xs.drop (HT.sIx xs.length 0 lo)).take (HT.sIx xs.length xs.length hi - HT.sIx xs.length 0 lo)
def cutD (c : D) (lo hi : Option Int) (h : AH) : Res D :=
  match c with
  | .str z => if z.length ≤ sizeLine then .ok (.str (cutS z lo hi)) h else .stuck
  | .tup xs => .ok (.tup (cutL xs lo hi)) h
  | .rol xs => .ok (.ref h.length) (h ++ [.lst (cutL xs lo hi)])
  | .ref n => match h[n]? with
    | some (.lst xs) => .ok (.ref h.length) (h ++ [.lst (cutL xs lo hi)])
    | _ => .stuck
  | _ => .stuck
def cCut (F : EF) (lo hi : OF) : EF := fun ε h => (F ε h).bind fun c h1 => (lo ε h1).bind fun l h2 => (hi ε h2).bind fun u h3 => cutD c l u h3
def revD (c : D) (h : AH) : Res D :=
  match c with
  | .rol xs => .ok (.ref h.length) (h ++ [.lst xs.reverse])
  | .ref n => match h[n]? with
    | some (.lst xs) => .ok (.ref h.length) (h ++ [.lst xs.reverse])
    | _ => .stuck
  | _ => .stuck
def cRev (F : EF) : EF := fun ε h => (F ε h).bind revD
def rSlM (K : PySem.W.Frag) : V → Option Int → Option Int → Hp → VK → Prop := fun x lo hi H Q => rSlS x lo hi H Q ∨ rSlA K x lo hi H Q ∨ rSlL K x lo hi H Q
theorem cut_rel {K : PySem.W.Frag} {ρ : List Addr} {H : Hp} {xs : List V} {ds : List D} (r : RVs K ρ H xs ds) (lo hi : Option Int) : RVs K ρ H (cutV xs lo hi) (cutL ds lo hi) := by
  unfold cutV cutL
  rw [r.length]
  exact (r.drop _).take _
section
variable {X : Cx} {W : WX} {cls ts : List Addr} {a b c e : Expr} {Fa Fb Fc F : EF} {A : AF} {es : List Expr} {pos : Pos} {lo hi : OF}
theorem e_ix (ha : E' X cls ts W a Fa) (hb : E' X cls ts W b Fb) (hs : PlainIx b := by exact fun _ _ => rfl) : E' X cls ts W (.Subscript a b pos) (cBin opIx Fa Fb) :=
  ⟨fun pins s σ H Q I ⟨ρ, ε, h, hH, hE, p⟩ => (pe_ix ix_seq ha hb hs).run pins s σ H Q I (tG_bind hH hE p fun ρ1 H1 x h1 dx _ e1 hH1 rx hE1 p1 =>
    tG_bind hH1 hE1 p1 fun ρ2 H2 y h2 dy _ e2 hH2 ry hE2 p2 => opIx_ok _ _ _ _ _ _ _ _ _ hH2 (rx.mono e2) ry p2)⟩
abbrev relO : List Addr → Hp → Option Int → Option Int → Prop := fun _ _ b a => b = a
abbrev O' (X : Cx) (cls ts : List Addr) (W : WX) (e : Option Expr) (F : OF) : Prop := PO X e (tG X.K cls ts relO W F)
theorem o_none : O' X cls ts W none oNone := ⟨fun pins s σ H Q I ⟨ρ, ε, h, hH, hE, p⟩ => po_none.run pins s σ H Q I (p _ _ _ .refl hH rfl)⟩
theorem o_some (h : E' X cls ts W e F) : O' X cls ts W (some e) (oSome F) := by
  refine ⟨fun pins s σ H Q I ⟨ρ, ε, hh, hH, hE, p⟩ => (po_some h).run pins s σ H Q I (tG_bind hH hE p fun ρ1 H1 x h1 dx _ e1 hH1 rx hE1 p1 => ?_)⟩
  cases rx <;> first | exact p1.elim | skip
  exact ⟨_, rfl, p1 _ _ _ .refl hH1 rfl⟩
theorem cut_ok {K : PySem.W.Frag} {W : Value → Option Addr → Hp → Prop} {ρ : List Addr} {H : Hp} {h : AH} {x : V} {d : D} {l u : Option Int} {Q : VK} (r : RH K cls ts ρ H h) (rx : RV K ρ H x d) (p : Post K cls ts (relD K) W ρ H (cutD d l u h) Q) : rSlM K x l u H Q := by
  cases rx with
  | str z =>
    simp only [cutD] at p
    split at p <;> first | exact p.elim | skip
    rename_i c
    exact .inl ⟨_, rfl, c, post_val r (.str _) p⟩
  | tup h1 r1 =>
    refine .inr (.inl ⟨_, _, rfl, h1, fun z => ?_, fun _ => post_newT r (cut_rel r1 l u) p⟩)
    have e : cutL (‹List D› : List D) l u = ‹List D› := by
      unfold cutL
      rw [← r1.length, z.1, z.2, List.drop_zero, Nat.sub_zero, r1.length]
      exact List.take_length
    simp only [cutD] at p
    rw [e] at p
    exact post_val r (.tup h1 r1) p
  | rol h1 r1 => exact .inr (.inr ⟨_, _, rfl, h1.sq, post_newL r (cut_rel r1 l u) p⟩)
  | ref q1 =>
    simp only [cutD] at p
    split at p <;> first | exact p.elim | skip
    rename_i xs e1
    obtain ⟨us, k1, r1⟩ := r.lst q1 e1
    exact .inr (.inr ⟨_, _, rfl, SqL.of k1, post_newL r (cut_rel r1 l u) p⟩)
  | _ => exact p.elim
theorem e_cut {lo' hi' : Option Expr} {p2 : Pos} (he : E' X cls ts W e F) (hl : O' X cls ts W lo' lo) (hu : O' X cls ts W hi' hi) : E' X cls ts W (.Subscript e (.Slice lo' hi' none p2) pos) (cCut F lo hi) :=
  ⟨fun pins s σ H Q I ⟨ρ, ε, h, hH, hE, p⟩ => (pe_slice (sl_str.or (sl_tupA.or sl_list)) he hl hu).run pins s σ H Q I (tG_bind hH hE p fun ρ1 H1 x h1 dx _ e1 hH1 rx hE1 p1 =>
    tG_bind hH1 hE1 p1 fun ρ2 H2 y h2 dy _ e2 hH2 ry hE2 p2 => tG_bind hH2 hE2 p2 fun ρ3 H3 z h3 dz _ e3 hH3 rz hE3 p3 => by
      cases ry
      cases rz
      exact cut_ok hH3 (rx.mono (e2.trans e3)) p3)⟩
theorem e_rev {k : Nat} {p1 p2 p3 : Pos} (he : E' X cls ts W e F) : E' X cls ts W (.Subscript e (.Slice none none (some (.UnaryOp .USub (.Constant (.int 1) k p1) p2)) p3) pos) (cRev F) := by
  refine ⟨fun pins s σ H Q I ⟨ρ, ε, h, hH, hE, p⟩ => (pe_revL he).run pins s σ H Q I (tG_bind hH hE p fun ρ1 H1 x h1 dx _ e1 hH1 rx hE1 p1 => ?_)⟩
  cases rx with
  | rol h1 r1 => exact ⟨_, _, rfl, h1.sq, post_newL hH1 r1.reverse p1⟩
  | ref q1 =>
    simp only [revD] at p1
    split at p1 <;> first | exact p1.elim | skip
    rename_i xs e1
    obtain ⟨us, k1, r1⟩ := hH1.lst q1 e1
    exact ⟨_, _, rfl, SqL.of k1, post_newL hH1 r1.reverse p1⟩
  | _ => exact p1.elim
end

/-! ### built-ins called by their names -/
abbrev OpN := List D → AH → Res D
def CallS (K : PySem.W.Frag) (cls ts : List Addr) (r : List V → Hp → VK → Prop) (f : OpN) : Prop :=
  ∀ (W : Value → Option Addr → Hp → Prop) (ρ : List Addr) (H : Hp) (h : AH) (xs : List V) (ds : List D) (Q : VK), RH K cls ts ρ H h → RVs K ρ H xs ds → Post K cls ts (relD K) W ρ H (f ds h) Q → r xs H Q
def cCall (f : OpN) (A : AF) : EF := fun ε h => (A ε h).bind f
section
variable {X : Cx} {W : WX} {cls ts : List Addr} {e : Expr} {A : AF} {es : List Expr} {p pos : Pos} {x : Str} {id T : String} {r : List V → Hp → VK → Prop} {f : OpN}
theorem e_callB (hc : CallR X (.builtin id) r) (os : CallS X.K cls ts r f) (hg : Gl X x) (hm : X.mg x = none) (hv : bootBuiltins x = some (.builtin id)) (ha : A' X cls ts W (e :: es) A) (hn : x ≠ "__name__" := by decide) (hdb : (x == ("__debug__" : Str)) = false := by decide)
    (he : starEach (e :: es) X.env = (false, eval e X.env) :: starEach es X.env := by rfl) (hpl : (backTo pos (starEach es X.env)).any (·.1) = false := by rfl) : E' X cls ts W (.Call (.Name x p) (e :: es) [] pos) (cCall f A) :=
  ⟨fun pins s σ H Q I ⟨ρ, ε, h, hH, hE, q⟩ => (pe_callB hc hg hm hv ha hn hdb he hpl).run pins s σ H Q I (tG_bind hH hE q fun ρ1 H1 x h1 dx _ e1 hH1 rx hE1 p1 => os _ _ _ _ _ _ _ hH1 rx p1)⟩
theorem e_callTy (hc : CallR X (.type T) r) (os : CallS X.K cls ts r f) (hg : Gl X x) (hm : X.mg x = none) (hv : bootBuiltins x = some (.type T)) (ha : A' X cls ts W (e :: es) A) (hn : x ≠ "__name__" := by decide) (hdb : (x == ("__debug__" : Str)) = false := by decide)
    (he : starEach (e :: es) X.env = (false, eval e X.env) :: starEach es X.env := by rfl) (hpl : (backTo pos (starEach es X.env)).any (·.1) = false := by rfl) : E' X cls ts W (.Call (.Name x p) (e :: es) [] pos) (cCall f A) :=
  ⟨fun pins s σ H Q I ⟨ρ, ε, h, hH, hE, q⟩ => (pe_callTy hc hg hm hv ha hn hdb he hpl).run pins s σ H Q I (tG_bind hH hE q fun ρ1 H1 x h1 dx _ e1 hH1 rx hE1 p1 => os _ _ _ _ _ _ _ hH1 rx p1)⟩
end
theorem RVs.one {K : PySem.W.Frag} {ρ : List Addr} {H : Hp} {xs : List V} {d : D} (r : RVs K ρ H xs [d]) : ∃ v, xs = [v] ∧ RV K ρ H v d := by
  cases r with
  | cons a b => cases b; exact ⟨_, rfl, a⟩
theorem RVs.two {K : PySem.W.Frag} {ρ : List Addr} {H : Hp} {xs : List V} {d e : D} (r : RVs K ρ H xs [d, e]) : ∃ v w, xs = [v, w] ∧ RV K ρ H v d ∧ RV K ρ H w e := by
  cases r with
  | cons a b => obtain ⟨w, rfl, c⟩ := RVs.one b; exact ⟨_, w, rfl, a, c⟩
/-- len -/
def fLen : OpN
  | [.str x], h => if x.length ≤ sizeLine then .ok (.int x.length) h else .stuck
  | [.ref n], h => match h[n]? with
    | some (.lst xs) => .ok (.int xs.length) h
    | some (.dic kvs) => .ok (.int kvs.length) h
    | _ => .stuck
  | [.tup xs], h => .ok (.int xs.length) h
  | [.rol xs], h => .ok (.int xs.length) h
  | _, _ => .stuck
def rLenM (K : PySem.W.Frag) : List V → Hp → VK → Prop := fun xs H Q => (∃ x n, xs = [x] ∧ LenV K x H n ∧ Q (.int n) H) ∨ ∃ p kvs, xs = [.ref p] ∧ H p = some (.dK kvs) ∧ Q (.int kvs.length) H
theorem call_lenM {X : Cx} : CallR X (.builtin "len") (rLenM X.K) := CallR.or call_len fun pins s σ H xs us Q I r h => by
  obtain ⟨p, kvs, rfl, e, q⟩ := h
  exact call_lenD pins s σ H [.ref p] us Q I r ⟨p, kvs, rfl, e, q⟩
theorem len_ok {K : PySem.W.Frag} {cls ts : List Addr} : CallS K cls ts (rLenM K) fLen := by
  intro W ρ H h xs ds Q r rs p
  unfold fLen at p
  split at p
  · obtain ⟨v, rfl, rv⟩ := rs.one
    cases rv
    split at p <;> first | exact p.elim | skip
    rename_i c
    exact .inl ⟨_, _, rfl, ⟨c, rfl⟩, post_val r (.int _) p⟩
  · obtain ⟨v, rfl, rv⟩ := rs.one
    cases rv with
    | ref q1 =>
      split at p <;> first | exact p.elim | skip
      · rename_i xs e
        obtain ⟨us, k1, r1⟩ := r.lst q1 e
        exact .inl ⟨_, us.length, rfl, .inl ⟨_, SqL.of k1, rfl⟩, by rw [r1.length]; exact post_val r (.int _) p⟩
      · rename_i xs e
        obtain ⟨us, k1, r1⟩ := r.dic q1 e
        exact .inr ⟨_, us, rfl, k1, by rw [Paired.length r1]; exact post_val r (.int _) p⟩
  · obtain ⟨v, rfl, rv⟩ := rs.one
    cases rv with
    | tup h1 r1 => exact .inl ⟨_, _, rfl, .inr ⟨_, h1, rfl⟩, by rw [r1.length]; exact post_val r (.int _) p⟩
  · obtain ⟨v, rfl, rv⟩ := rs.one
    cases rv with
    | rol h1 r1 => exact .inl ⟨_, _, rfl, .inl ⟨_, h1.sq, rfl⟩, by rw [r1.length]; exact post_val r (.int _) p⟩
  · exact p.elim
end Mi

namespace Mi
open L2 PySem PySem.Spec PyProof.Rows

/-! ### repr -/
def keyP : Key → PyData
  | .inl i => .int i
  | .inr x => .str x
/-- a dict of flat things that stands alone -/
def pdDict (h : AH) : D → Option PyData
  | .ref n => match h[n]? with
    | some (.dic kvs) => match omap (fun p : Key × D => match pd 0 h p.2 with
        | some v => some (keyP p.1, v)
        | none => none) kvs with
      | some ps => some (.dict ps)
      | none => none
    | _ => none
  | _ => none
def reprD (d : D) (h : AH) : Option Str :=
  match pd 60 h d with
  | some p => if p.showable = true ∧ p.shown.length ≤ sizeLine then some p.shown else none
  | none => match pdDict h d with
    | some p => if p.showable = true ∧ p.shown.length ≤ sizeLine then some p.shown else none
    | none => none
def fRepr : OpN
  | [d], h => match reprD d h with
    | some x => .ok (.str x) h
    | none => .stuck
  | _, _ => .stuck
theorem pd_depth {f : D → Option PyData} {n : Nat} (ih : ∀ d p, f d = some p → p.depth ≤ n) : ∀ {ds : List D} {ps : List PyData}, omap f ds = some ps → PyData.depthAll ps ≤ n
  | [], _, e => by cases e; exact Nat.zero_le _
  | d :: ds, _, e => by
    unfold omap at e
    split at e <;> first | (cases e; done) | skip
    rename_i y ys q1 q2
    cases e
    simp only [PyData.depthAll]
    exact Nat.max_le.mpr ⟨ih _ _ q1, pd_depth ih q2⟩
theorem depth_of {h : AH} : ∀ (n : Nat) (d : D) (p : PyData), pd n h d = some p → p.depth ≤ n := by
  intro n
  induction n with
  | zero =>
    intro d p e
    cases d <;> simp only [pd] at e <;> cases e <;> exact Nat.zero_le _
  | succ n ih =>
    intro d p e
    cases d with
    | tup xs =>
      simp only [pd, Option.map_eq_some_iff] at e
      obtain ⟨ps, q, rfl⟩ := e
      simp only [PyData.depth]
      exact Nat.succ_le_succ (pd_depth ih q)
    | rol xs =>
      simp only [pd, Option.map_eq_some_iff] at e
      obtain ⟨ps, q, rfl⟩ := e
      simp only [PyData.depth]
      exact Nat.succ_le_succ (pd_depth ih q)
    | ref r =>
      simp only [pd] at e
      split at e <;> first | (cases e; done) | skip
      obtain ⟨ps, q, rfl⟩ := Option.map_eq_some_iff.mp e
      simp only [PyData.depth]
      exact Nat.succ_le_succ (pd_depth ih q)
    | _ => first | (cases e; done) | (cases e; exact Nat.zero_le _)
theorem pd_noDicts {f : D → Option PyData} (ih : ∀ d p, f d = some p → p.hasDict = false) : ∀ {ds : List D} {ps : List PyData}, omap f ds = some ps → PyData.hasDictAll ps = false
  | [], _, e => by cases e; simp only [PyData.hasDictAll]
  | d :: ds, _, e => by
    unfold omap at e
    split at e <;> first | (cases e; done) | skip
    rename_i y ys q1 q2
    cases e
    simp only [PyData.hasDictAll, ih _ _ q1, pd_noDicts ih q2, Bool.or_false]
theorem pd_noDict {h : AH} : ∀ (n : Nat) (d : D) (p : PyData), pd n h d = some p → p.hasDict = false := by
  intro n
  induction n with
  | zero =>
    intro d p e
    cases d <;> simp only [pd] at e <;> cases e <;> simp only [PyData.hasDict]
  | succ n ih =>
    intro d p e
    cases d with
    | tup xs =>
      simp only [pd, Option.map_eq_some_iff] at e
      obtain ⟨ps, q, rfl⟩ := e
      simp only [PyData.hasDict]
      exact pd_noDicts ih q
    | rol xs =>
      simp only [pd, Option.map_eq_some_iff] at e
      obtain ⟨ps, q, rfl⟩ := e
      simp only [PyData.hasDict]
      exact pd_noDicts ih q
    | ref r =>
      simp only [pd] at e
      split at e <;> first | (cases e; done) | skip
      obtain ⟨ps, q, rfl⟩ := Option.map_eq_some_iff.mp e
      simp only [PyData.hasDict]
      exact pd_noDicts ih q
    | _ => first | (cases e; done) | (cases e; simp only [PyData.hasDict])
theorem repr_scalar {M : Program} {w : World} {A : Around} {E : Value → Shared → Prop} {s : Shared} {K : PySem.W.Frag} {ρ : List Addr} {H : Hp} {v : V} {u : Value} {d : D} {p : PyData} {h : AH} {Q : Value → Shared → Prop} (rv : RV K ρ H v d) (ru : RelV v u) (e : pd 0 h d = some p) (hs : p.showable = true) (hz : p.shown.length ≤ sizeLine)
    (q : ∀ t k, Q (.str p.shown t) { s with toks := k }) : wpAny (model M w) A (call (.builtin "repr") [u]) Q E s := by
  cases rv <;> simp only [pd] at e <;> cases e
  · cases ru
    simp only [PyData.shown] at q
    exact PySem.P.repr_of_none (q _ _)
  · cases ru
    simp only [PyData.shown] at q
    exact PySem.P.repr_of_bool (q _ _)
  · obtain ⟨t, rfl⟩ := ru
    simp only [PyData.shown] at q
    exact PySem.P.repr_of_int (by simpa [PyData.showable] using hs) (q _ _)
  · obtain ⟨t, rfl⟩ := ru
    simp only [PyData.shown] at q hz
    exact PySem.P.repr_of_str (q _ _) hz
/-- the reading of repr: any data by what it is -/
def rReprM (K : PySem.W.Frag) : List V → Hp → VK → Prop := fun xs H Q => ∃ (cls ts ρ : List Addr) (h : AH) (v : V) (d : D) (x : Str), xs = [v] ∧ RH K cls ts ρ H h ∧ RV K ρ H v d ∧ reprD d h = some x ∧ Q (.str x) H
theorem reads_scalar {K : PySem.W.Frag} {ρ : List Addr} {H : Hp} {hh : Heap} {h : AH} {v : V} {u : Value} {d : D} {p : PyData} (rv : RV K ρ H v d) (ru : RelV v u) (e : pd 0 h d = some p) : Reads hh u p [] := by
  cases rv <;> simp only [pd] at e <;> cases e
  · cases ru; exact .none
  · cases ru; exact .bool _
  · obtain ⟨t, rfl⟩ := ru; exact .int _ _
  · obtain ⟨t, rfl⟩ := ru; exact .str _ _
theorem keys_read {P : Program} {w : World} {H : Hp} {K : PySem.W.Frag} {ρ : List Addr} {hh : Heap} {h : AH} : ∀ {es : List DictEntry} {vs : List (Key × Value)} {xs : List (Key × V)} {kvs : List (Key × D)} {ps : List (PyData × PyData)},
    PySem.Pairs (mixKind P w) es vs → KV xs vs → RKs K ρ H xs kvs → omap (fun p : Key × D => match pd 0 h p.2 with
        | some v => some (keyP p.1, v)
        | none => none) kvs = some ps →
    ReadsAll hh (es.map (·.key)) (ps.map (·.1)) [] ∧ ReadsAll hh (es.map (·.val)) (ps.map (·.2)) []
  | _, _, _, _, _, .nil, a, b, c => by
    cases a
    cases b
    cases c
    exact ⟨.nil, .nil⟩
  | _, _, _, _, _, .cons (e := en) (kv := kv) k1 k2 rest, a, b, c => by
    cases a with
    | cons a1 a2 =>
      cases b with
      | cons b1 b2 =>
        unfold omap at c
        split at c <;> first | (cases c; done) | skip
        rename_i y ys q1 q2
        cases c
        split at q1 <;> cases q1
        rename_i v e
        obtain ⟨i1, i2⟩ := keys_read (hh := hh) rest a2 b2 q2
        refine ⟨.cons (as := []) ?_ i1, .cons (as := []) ?_ i2⟩
        · show Reads hh en.key (keyP _) []
          rw [← b1.1, a1.1]
          rcases keyIs_shape k1 with ⟨i, t, ek, ev⟩ | ⟨x, t, ek, ev⟩
          · rw [ek, ev]; exact .int _ _
          · rw [ek, ev]; exact .str _ _
        · show Reads hh en.val v []
          rw [k2]
          exact reads_scalar b1.2 a1.2 e
section
variable {X : Cx}
theorem call_reprM (hg : X.A.guards = some []) (hu : X.A.units + 64 < cLine) : CallR X (.builtin "repr") (rReprM X.K) := by
  rintro pins s σ H xs us Q I r ⟨cls, ts, ρ, hh, v, d, x, rfl, rH, rv, e, q⟩
  obtain ⟨w, rfl, ru⟩ := vals1 r
  unfold reprD at e
  split at e
  · rename_i p ep
    split at e <;> cases e
    rename_i c
    have dp := dp_of rH _ _ _ _ rv ep
    obtain ⟨as, rd⟩ := Dp.reads I _ _ _ dp ru
    have end_ : ∀ h' u tk, (∀ b o, s.heap.get? b = some o → h'.get? b = some o) → EP X pins σ Q (.str p.shown u) { s with heap := h', toks := tk } := fun h' u tk hk => ⟨.str p.shown, H, I.kept hk, ⟨_, rfl⟩, q⟩
    cases ru' : v with
    | ref a =>
      subst ru'
      obtain rfl : w = Value.ref a := ru
      exact repr_of_reads' rd c.1 (PyData.noDict_hsm (pd_noDict _ _ _ ep)) hg (by have := depth_of _ _ _ ep; omega) (fun _ _ e => e) (fun h' u tk hk => end_ h' u tk hk) c.2
    | _ =>
      subst ru'
      have e0 : pd 0 hh d = some p := by cases rv <;> simpa [pd] using ep
      exact repr_scalar rv ru e0 c.1 c.2 fun t k => end_ s.heap t k fun _ _ e => e
  · split at e <;> first | (cases e; done) | skip
    rename_i p ep
    split at e <;> cases e
    rename_i c
    cases d <;> simp only [pdDict] at ep <;> first | (cases ep; done) | skip
    rename_i n
    split at ep <;> first | (cases ep; done) | skip
    rename_i kvs e1
    split at ep <;> cases ep
    rename_i ps e2
    cases rv with
    | ref q1 =>
      rename_i a
      obtain ⟨xs, k1, r1⟩ := rH.dic q1 e1
      obtain ⟨_, nS, vs, kv, o, es, ep', ho, ex, hd, hk, hp, _⟩ := I.hok _ _ k1
      obtain ⟨i1, i2⟩ := keys_read (hh := s.heap) hp kv r1 e2
      have rd : Reads s.heap (.ref a) (.dict ps) [a] := .dict (as := []) (bs := []) ho ex.1 hd i1 i2
      obtain rfl : w = Value.ref a := ru
      refine repr_of_reads' rd c.1 (fun _ hm => ?_) hg ?_ (fun _ _ e => e) (fun h' u tk hk => ⟨.str _, H, I.kept hk, ⟨_, rfl⟩, q⟩) c.2
      · rw [List.mem_singleton.mp hm] at nS
        simp at nS
      · have dep : ∀ {kvs : List (Key × D)} {ps : List (PyData × PyData)}, omap (fun p : Key × D => match pd 0 hh p.2 with
            | some v => some (keyP p.1, v)
            | none => none) kvs = some ps → PyData.depthKv ps = 0 := by
          intro kvs
          induction kvs with
          | nil => intro ps e; cases e; simp only [PyData.depthKv]
          | cons kv kvs ih =>
            intro ps e
            unfold omap at e
            split at e <;> first | (cases e; done) | skip
            rename_i y ys q1 q2
            cases e
            split at q1 <;> cases q1
            rename_i v ev
            have z := depth_of _ _ _ ev
            obtain ⟨k, d⟩ := kv
            cases k <;> simp only [PyData.depthKv, ih q2, keyP, PyData.depth] <;> omega
        simp only [PyData.depth, dep e2]
        omega
end
theorem repr_ok {K : PySem.W.Frag} {cls ts : List Addr} : CallS K cls ts (rReprM K) fRepr := by
  intro W ρ H h xs ds Q r rs p
  unfold fRepr at p
  split at p <;> first | exact p.elim | skip
  obtain ⟨v, rfl, rv⟩ := rs.one
  split at p <;> first | exact p.elim | skip
  rename_i d _ x e
  exact ⟨cls, ts, ρ, h, v, d, x, rfl, r, rv, e, post_val r (.str _) p⟩
end Mi

namespace Mi
open L2 PySem PySem.Spec PyProof.Rows

/-! ### isinstance of a built-in type -/
def tyD : D → AH → Option String
  | .non, _ => some "NoneType"
  | .bl _, _ => some "bool"
  | .int _, _ => some "int"
  | .str _, _ => some "str"
  | .tup _, _ => some "tuple"
  | .rol _, _ => some "list"
  | .ref n, h => match h[n]? with
    | some (.lst _xs) => some "list"
    | some (.dic _) => some "dict"
    | _ => none
  | _, _ => none
def fIsi : OpN
  | [d, .ty n], h => match tyD d h with
    | some t => match kitB t n with
      | some b => .ok (.bl b) h
      | none => .stuck
    | none => .stuck
  | _, _ => .stuck
section
variable {K : PySem.W.Frag} {cls ts ρ : List Addr} {H : Hp} {h : AH}
theorem tyX_of {v : V} {d : D} {t : String} (r : RH K cls ts ρ H h) (rv : RV K ρ H v d) (e : tyD d h = some t) : TyX K H v (.type t) := by
  cases rv with
  | non => cases e; exact .base .non
  | bl b => cases e; exact .base (.bl b)
  | int i => cases e; exact .base (.int i)
  | str x => cases e; exact .base (.str x)
  | tup h1 r1 =>
    cases e
    rcases h1 with (h1 | ⟨o, h1⟩) | ⟨o, its, n, k, c, _⟩
    · exact .base (.tup h1)
    · exact .fTuple h1
    · exact .kTuple k c
  | rol h1 r1 =>
    cases e
    rcases h1 with ⟨o, h1⟩ | ⟨o, its, n, k, c, _⟩
    · exact .base (.frz h1)
    · exact .kList k c
  | ref q1 =>
    simp only [tyD] at e
    split at e <;> first | (cases e; done) | skip
    · rename_i xs e1
      cases e
      obtain ⟨us, k1, _⟩ := r.lst q1 e1
      exact .base (.lst k1)
    · rename_i xs e1
      cases e
      obtain ⟨us, k1, _⟩ := r.dic q1 e1
      exact .base (.dK k1)
  | _ => cases e
theorem isi_ok : CallS K cls ts (rIsi K) fIsi := by
  intro W ρ H h xs ds Q r rs p
  unfold fIsi at p
  split at p <;> first | exact p.elim | skip
  obtain ⟨v, w, rfl, rv, rw'⟩ := rs.two
  cases rw'
  split at p <;> first | exact p.elim | skip
  rename_i t e1
  split at p <;> first | exact p.elim | skip
  rename_i b e2
  exact ⟨_, _, _, _, _, rfl, .ty _, tyX_of r rv e1, kit_ty e2, post_val r (.bl _) p⟩

/-! ### list(x), tuple(x) -/
def fList : OpN
  | [d], h => match seqD d h with
    | some ds => .ok (.ref h.length) (h ++ [.lst ds])
    | none => .stuck
  | _, _ => .stuck
theorem list_ok : CallS K cls ts (fun xs H Q => ∃ p ys, xs = [.ref p] ∧ (SqL K H p ys ∨ SqT K H p ys) ∧ ∀ l, H l = none → Q (.ref l) (upd H l (.lst ys))) fList := by
  intro W ρ H h xs ds Q r rs p
  unfold fList at p
  split at p <;> first | exact p.elim | skip
  obtain ⟨v, rfl, rv⟩ := rs.one
  split at p <;> first | exact p.elim | skip
  rename_i ds e
  obtain ⟨a, us, rfl, hs, ru⟩ := seq_of r rv e
  exact ⟨_, _, rfl, hs, post_newL r ru p⟩
def fTuple : OpN
  | [.tup xs], h => .ok (.tup xs) h
  | [.rol xs], h => .ok (.tup xs) h
  | [.ref n], h => match h[n]? with
    | some (.lst xs) => .ok (.tup xs) h
    | _ => .stuck
  | _, _ => .stuck
theorem tuple_ok : CallS K cls ts (fun xs H Q => ∃ p ys, xs = [.ref p] ∧ ((SqL K H p ys ∧ ∀ l, H l = none → Q (.ref l) (upd H l (.tup ys))) ∨ (SqT K H p ys ∧ Q (.ref p) H))) fTuple := by
  intro W ρ H h xs ds Q r rs p
  unfold fTuple at p
  split at p <;> first | exact p.elim | skip
  · obtain ⟨v, rfl, rv⟩ := rs.one
    cases rv with
    | tup h1 r1 => exact ⟨_, _, rfl, .inr ⟨h1, post_val r (.tup h1 r1) p⟩⟩
  · obtain ⟨v, rfl, rv⟩ := rs.one
    cases rv with
    | rol h1 r1 => exact ⟨_, _, rfl, .inl ⟨h1.sq, post_newT r r1 p⟩⟩
  · obtain ⟨v, rfl, rv⟩ := rs.one
    cases rv with
    | ref q1 =>
      split at p <;> first | exact p.elim | skip
      rename_i xs e1
      obtain ⟨us, k1, r1⟩ := r.lst q1 e1
      exact ⟨_, _, rfl, .inl ⟨SqL.of k1, post_newT r r1 p⟩⟩
end

/-! ### methods of built-in types -/
abbrev OpM := D → List D → AH → Res D
def MtS (K : PySem.W.Frag) (cls ts : List Addr) (T : String) (r : V → List V → Hp → VK → Prop) (f : OpM) : Prop :=
  ∀ (W : Value → Option Addr → Hp → Prop) (ρ : List Addr) (H : Hp) (h : AH) (x : V) (dx : D) (xs : List V) (ds : List D) (Q : VK), RH K cls ts ρ H h → RV K ρ H x dx → RVs K ρ H xs ds → Post K cls ts (relD K) W ρ H (f dx ds h) Q → r x xs H Q
/-- the thing whose method is called is of the type T when it is met -/
def isTy (T : String) (d : D) (h : AH) : Bool := tyD d h == some T
def cMeth (T : String) (f : OpM) (F : EF) (A : AF) : EF := fun ε h => (F ε h).bind fun d h1 => if isTy T d h1 = true then (A ε h1).bind fun ds h2 => f d ds h2 else .stuck
theorem tyV_of {K : PySem.W.Frag} {cls ts ρ : List Addr} {H : Hp} {h : AH} {v : V} {d : D} {T : String} (r : RH K cls ts ρ H h) (rv : RV K ρ H v d) (hT : T = "list" ∨ T = "str" ∨ T = "dict") (e : isTy T d h = true) : tyV K T v H := by
  have e := beq_iff_eq.mp e
  cases rv with
  | str x => cases e; rfl
  | rol h1 r1 => cases e; exact .inl ⟨rfl, _, h1.sq⟩
  | ref q1 =>
    simp only [tyD] at e
    split at e <;> first | (cases e; done) | skip
    · rename_i xs e1
      cases e
      obtain ⟨us, k1, _⟩ := r.lst q1 e1
      exact .inl ⟨rfl, _, SqL.of k1⟩
    · rename_i xs e1
      cases e
      obtain ⟨us, k1, _⟩ := r.dic q1 e1
      exact .inr (.inr (.inl ⟨rfl, .inl ⟨_, k1⟩⟩))
  | _ => first | (cases e; done) | (cases e; rcases hT with h | h | h <;> exact absurd h (by decide))
section
variable {X : Cx} {W : WX} {cls ts : List Addr} {o e : Expr} {F : EF} {A : AF} {es : List Expr} {name : Str} {apos cpos : Pos} {T id : String} {r : V → List V → Hp → VK → Prop} {f : OpM}
theorem e_meth0 (hT : T = "list" ∨ T = "str" ∨ T = "dict") (pa : PlainAttrs T) (slot : Slot T name id) (hty : typeOf (.builtin id) = pure (.type "method_descriptor")) (hm : MtR X id r) (os : MtS X.K cls ts T r f) (ho : E' X cls ts W o F)
    (hbase : attributeBase o name X.env (eval o X.env) = eval o X.env := by rfl) (hline : (apos.endLine == cpos.line) = true := by rfl) : E' X cls ts W (.Call (.Attribute o name apos) [] [] cpos) (cMeth T f F aNil) := by
  refine ⟨fun pins s σ H Q I ⟨ρ, ε, h, hH, hE, p⟩ => (pe_bm0 pa slot hty hm ho hbase hline).run pins s σ H Q I (tG_bind hH hE p fun ρ1 H1 x h1 dx _ e1 hH1 rx hE1 p1 => ?_)⟩
  split at p1 <;> first | exact p1.elim | skip
  rename_i c
  exact ⟨tyV_of hH1 rx hT c, os _ _ _ _ _ _ _ _ _ hH1 rx .nil p1⟩
theorem e_meth (hT : T = "list" ∨ T = "str" ∨ T = "dict") (pa : PlainAttrs T) (slot : Slot T name id) (hty : typeOf (.builtin id) = pure (.type "method_descriptor")) (hm : MtR X id r) (os : MtS X.K cls ts T r f) (ho : E' X cls ts W o F) (ha : A' X cls ts W (e :: es) A)
    (hbase : attributeBase o name X.env (eval o X.env) = eval o X.env := by rfl) (hfew : ((backTo cpos (starEach (e :: es) X.env)).all (fun x => !x.1) && (backToKw cpos (keywordEach [] X.env)).all (fun x => x.1.isSome) && decide ((e :: es).length + ([] : List Keyword).length + (if ([] : List Keyword).isEmpty then 0 else 1) < 30)) = true := by rfl)
    (hs : starEach (e :: es) X.env = (false, eval e X.env) :: starEach es X.env := by rfl) (hplain : (backTo cpos (starEach es X.env)).any (·.1) = false := by rfl) (hline : (apos.endLine == cpos.line) = true := by rfl) :
    E' X cls ts W (.Call (.Attribute o name apos) (e :: es) [] cpos) (cMeth T f F A) := by
  refine ⟨fun pins s σ H Q I ⟨ρ, ε, h, hH, hE, p⟩ => (pe_bm pa slot hty hm ho ha hbase hfew hline hs hplain).run pins s σ H Q I (tG_bind hH hE p fun ρ1 H1 x h1 dx _ e1 hH1 rx hE1 p1 => ?_)⟩
  split at p1 <;> first | exact p1.elim | skip
  rename_i c
  exact ⟨tyV_of hH1 rx hT c, tG_bind hH1 hE1 p1 fun ρ2 H2 y h2 dy _ e2 hH2 ry hE2 p2 => os _ _ _ _ _ _ _ _ _ hH2 (rx.mono e2) ry p2⟩
end
section
variable {K : PySem.W.Frag} {cls ts : List Addr}
def mAppend : OpM
  | .ref n, [d], h => match h[n]? with
    | some (.lst xs) => if xs.length < sizeLine then .ok .non (h.set n (.lst (xs ++ [d]))) else .stuck
    | _ => .stuck
  | _, _, _ => .stuck
theorem append_ok : MtS K cls ts "list" rAppend mAppend := by
  intro W ρ H h x dx xs ds Q r rx rs p
  unfold mAppend at p
  split at p <;> first | exact p.elim | skip
  split at p <;> first | exact p.elim | skip
  rename_i e1
  split at p <;> first | exact p.elim | skip
  rename_i c
  obtain ⟨v, rfl, rv⟩ := rs.one
  cases rx with
  | ref q1 =>
    obtain ⟨us, k1, r1⟩ := r.lst q1 e1
    exact ⟨_, _, _, rfl, rfl, k1, by rw [r1.length]; exact c, post_put (us := us) r q1 (r1.append (.cons rv .nil)) .non p⟩
def mPop : OpM
  | .ref n, [], h => match h[n]? with
    | some (.lst xs) => match xs[xs.length - 1]? with
      | some d => .ok d (h.set n (.lst xs.dropLast))
      | none => .stuck
    | _ => .stuck
  | _, _, _ => .stuck
theorem pop_ok : MtS K cls ts "list" rPop mPop := by
  intro W ρ H h x dx xs ds Q r rx rs p
  unfold mPop at p
  split at p <;> first | exact p.elim | skip
  split at p <;> first | exact p.elim | skip
  rename_i e1
  split at p <;> first | exact p.elim | skip
  rename_i d e2
  cases rs
  cases rx with
  | ref q1 =>
    obtain ⟨us, k1, r1⟩ := r.lst q1 e1
    rw [← r1.length] at e2
    obtain ⟨v, hv, rv⟩ := r1.get e2
    exact ⟨_, _, _, rfl, rfl, k1, hv, post_put (us := us) r q1 r1.dropLast rv p⟩
def asStr : D → Option Str
  | .str x => some x
  | _ => none
theorem strs_of {ρ : List Addr} {H : Hp} : ∀ {xs : List V} {ds : List D} {ys : List Str}, RVs K ρ H xs ds → omap asStr ds = some ys → xs = ys.map V.str
  | _, _, _, .nil, e => by cases e; rfl
  | _, _, _, .cons r rs, e => by
    unfold omap at e
    split at e <;> first | (cases e; done) | skip
    rename_i y ys q1 q2
    cases e
    cases r <;> cases q1
    rw [strs_of rs q2] <;> rfl
def mJoin : OpM
  | .str a, [d], h => match seqD d h with
    | some ds => match omap asStr ds with
      | some ys => if (ys.map (·.length)).sum + ys.length * a.length ≤ 16777216 then .ok (.str (Txt.join a ys)) h else .stuck
      | none => .stuck
    | none => .stuck
  | _, _, _ => .stuck
theorem join_ok : MtS K cls ts "str" (fun x xs H Q => ∃ a p, ∃ ys : List Str, x = .str a ∧ xs = [.ref p] ∧ (SqL K H p (ys.map V.str) ∨ SqT K H p (ys.map V.str)) ∧ (ys.map (·.length)).sum + ys.length * a.length ≤ 16777216 ∧ Q (.str (Txt.join a ys)) H) mJoin := by
  intro W ρ H h x dx xs ds Q r rx rs p
  unfold mJoin at p
  split at p <;> first | exact p.elim | skip
  split at p <;> first | exact p.elim | skip
  rename_i ds' e1
  split at p <;> first | exact p.elim | skip
  rename_i ys e2
  split at p <;> first | exact p.elim | skip
  rename_i c
  obtain ⟨v, rfl, rv⟩ := rs.one
  cases rx
  obtain ⟨a, us, rfl, hs, ru⟩ := seq_of r rv e1
  rw [strs_of ru e2] at hs
  exact ⟨_, _, ys, rfl, rfl, hs, c, post_val r (.str _) p⟩
def mFind : OpM
  | .str a, [.str b], h => .ok (.int (Txt.find a b)) h
  | _, _, _ => .stuck
theorem find_ok : MtS K cls ts "str" (fun x xs H Q => ∃ a b, x = .str a ∧ xs = [.str b] ∧ Q (.int (Txt.find a b)) H) mFind := by
  intro W ρ H h x dx xs ds Q r rx rs p
  unfold mFind at p
  split at p <;> first | exact p.elim | skip
  obtain ⟨v, rfl, rv⟩ := rs.one
  cases rx
  cases rv
  exact ⟨_, _, rfl, rfl, post_val r (.int _) p⟩
end
end Mi

namespace Mi
open L2 PySem PySem.Spec PyProof.Rows

/-! ### what is walked -/
inductive AIt where
  | fix (ds : List D)
  | live (n len : Nat)
  | enu (n len : Nat)
def AIt.len : AIt → Nat
  | .fix ds => ds.length
  | .live _ len => len
  | .enu _ len => len
def AIt.item (i : Nat) (h : AH) : AIt → Option D
  | .fix ds => ds[i]?
  | .live n len => match h[n]? with
    | some (.lst xs) => if xs.length = len then xs[i]? else none
    | _ => none
  | .enu n len => match h[n]? with
    | some (.lst xs) => if xs.length = len then (xs[i]?).map fun d => .tup [.int (i : Nat), d] else none
    | _ => none
def AIt.fin (h : AH) : AIt → Bool
  | .fix _ => true
  | .live n len => match h[n]? with
    | some (.lst xs) => decide (xs.length = len)
    | _ => false
  | .enu n len => match h[n]? with
    | some (.lst xs) => decide (xs.length = len)
    | _ => false
structure RIt (K : PySem.W.Frag) (cls ts ρ : List Addr) (H : Hp) (J : It) (it : AIt) : Prop where
  go : ∀ ρ' H' h' i d, Ext ts ρ ρ' H H' → RH K cls ts ρ' H' h' → i < it.len → it.item i h' = some d → J.go i H' ∧ ∀ x H'', J.yld i H' x H'' → Ext ts ρ' ρ' H' H'' ∧ RH K cls ts ρ' H'' h' ∧ RV K ρ' H'' x d
  stop : ∀ ρ' H' h', Ext ts ρ ρ' H H' → RH K cls ts ρ' H' h' → it.fin h' = true → J.stop it.len H'
theorem RIt.ext {K : PySem.W.Frag} {cls ts ρ ρ1 : List Addr} {H H1 : Hp} {J : It} {it : AIt} (e : Ext ts ρ ρ1 H H1) (r : RIt K cls ts ρ H J it) : RIt K cls ts ρ1 H1 J it :=
  ⟨fun ρ' H' h' i d e' => r.go ρ' H' h' i d (e.trans e'), fun ρ' H' h' e' => r.stop ρ' H' h' (e.trans e')⟩
abbrev IF := AEnv → AH → Res AIt
abbrev relI (K : PySem.W.Frag) (cls ts : List Addr) : List Addr → Hp → It → AIt → Prop := fun ρ H J it => RIt K cls ts ρ H J it
abbrev tI (K : PySem.W.Frag) (cls ts : List Addr) (W : WX) (F : IF) : TI := tG K cls ts (relI K cls ts) W F
abbrev I' (X : Cx) (cls ts : List Addr) (W : WX) (tg e : Expr) (F : IF) : Prop := PI X tg e (tI X.K cls ts W F)
def itOf (d : D) (h : AH) : Res AIt :=
  match d with
  | .tup xs => .ok (.fix xs) h
  | .rol xs => .ok (.fix xs) h
  | .str z => .ok (.fix (z.cps.toList.map fun c => .str ⟨#[c]⟩)) h
  | .ref n => match h[n]? with
    | some (.lst xs) => .ok (.live n xs.length) h
    | _ => .stuck
  | _ => .stuck
def iAny (F : EF) : IF := fun ε h => (F ε h).bind itOf
section
variable {K : PySem.W.Frag} {cls ts ρ : List Addr} {H : Hp} {h : AH}
theorem rit_tup {a : Addr} {xs : List V} {ds : List D} (h1 : SqT K H a xs) (r1 : RVs K ρ H xs ds) : RIt K cls ts ρ H (Itt K a) (.fix ds) := by
  refine ⟨fun ρ' H' h' i d e r hi q => ?_, fun ρ' H' h' e r _ => ⟨xs, e.sqT h1, by rw [r1.length]; exact Nat.le_refl _⟩⟩
  obtain ⟨v, hv, rv⟩ := (r1.mono e).get q
  refine ⟨⟨xs, v, e.sqT h1, hv⟩, fun x H'' y => ?_⟩
  obtain ⟨rfl, y⟩ := y
  have z := y xs (e.sqT h1)
  rw [hv] at z
  cases z
  exact ⟨.refl, r, rv⟩
theorem rit_rol {a : Addr} {xs : List V} {ds : List D} (h1 : SqR K H a xs) (r1 : RVs K ρ H xs ds) : RIt K cls ts ρ H (Itl K a) (.fix ds) := by
  refine ⟨fun ρ' H' h' i d e r hi q => ?_, fun ρ' H' h' e r _ => ⟨xs, (e.sqR h1).sq, by rw [r1.length]; exact Nat.le_refl _⟩⟩
  obtain ⟨v, hv, rv⟩ := (r1.mono e).get q
  refine ⟨⟨xs, v, (e.sqR h1).sq, hv⟩, fun x H'' y => ?_⟩
  obtain ⟨rfl, y⟩ := y
  have z := y xs (e.sqR h1).sq
  rw [hv] at z
  cases z
  exact ⟨.refl, r, rv⟩
theorem rit_live {a : Addr} {n len : Nat} (q1 : ρ[n]? = some a) : RIt K cls ts ρ H (Itl K a) (.live n len) := by
  refine ⟨fun ρ' H' h' i d e r hi q => ?_, fun ρ' H' h' e r q => ?_⟩
  · simp only [AIt.item] at q
    split at q <;> first | (cases q; done) | skip
    rename_i xs e1
    split at q <;> first | (cases q; done) | skip
    obtain ⟨us, k1, r1⟩ := r.lst (e.get q1) e1
    obtain ⟨v, hv, rv⟩ := r1.get q
    refine ⟨⟨us, v, SqL.of k1, hv⟩, fun x H'' y => ?_⟩
    obtain ⟨rfl, y⟩ := y
    have z := y us (SqL.of k1)
    rw [hv] at z
    cases z
    exact ⟨.refl, r, rv⟩
  · simp only [AIt.fin] at q
    split at q <;> first | (cases q; done) | skip
    rename_i xs e1
    obtain ⟨us, k1, r1⟩ := r.lst (e.get q1) e1
    refine ⟨us, SqL.of k1, ?_⟩
    rw [r1.length, of_decide_eq_true q]
    exact Nat.le_refl _
theorem rit_str {z : Str} : RIt K cls ts ρ H (Its z) (.fix (z.cps.toList.map fun c => .str ⟨#[c]⟩)) := by
  have hz : (z.cps.toList.map fun c => D.str ⟨#[c]⟩).length = z.cps.size := by simp
  refine ⟨fun ρ' H' h' i d e r hi q => ?_, fun ρ' H' h' e r _ => Nat.le_of_eq hz.symm⟩
  have hi' : i < z.cps.size := by
    have hi2 : i < (z.cps.toList.map fun c => D.str ⟨#[c]⟩).length := hi
    omega
  refine ⟨hi', fun x H'' y => ?_⟩
  obtain ⟨rfl, c, hc, rfl⟩ := y
  have q : (z.cps.toList.map fun c => D.str ⟨#[c]⟩)[i]? = some d := q
  rw [List.getElem?_map, Array.getElem?_toList, hc] at q
  cases q
  exact ⟨.refl, r, .str _⟩
theorem rit_range {lo : Int} {n : Nat} : RIt K cls ts ρ H (Itr lo n) (.fix ((List.range n).map fun (i : Nat) => .int (lo + i))) := by
  have hz : ((List.range n).map fun (i : Nat) => D.int (lo + i)).length = n := by simp
  refine ⟨fun ρ' H' h' i d e r hi q => ?_, fun ρ' H' h' e r _ => Nat.le_of_eq hz.symm⟩
  have hi' : i < n := by
    have hi2 : i < ((List.range n).map fun (i : Nat) => D.int (lo + i)).length := hi
    omega
  refine ⟨hi', fun x H'' y => ?_⟩
  obtain ⟨rfl, rfl⟩ := y
  have q : ((List.range n).map fun (i : Nat) => D.int (lo + i))[i]? = some d := q
  rw [List.getElem?_map, List.getElem?_range hi'] at q
  cases q
  exact ⟨.refl, r, .int _⟩
end
def iRange1 (F : EF) : IF := fun ε h => (F ε h).bind fun d h1 => match d with
  | .int j => if decide (-(2 ^ 62) ≤ j) && decide (j < 2 ^ 62) then .ok (.fix ((List.range j.toNat).map fun (i : Nat) => .int (0 + i))) h1 else .stuck
  | _ => .stuck
def iRange2 (F G : EF) : IF := fun ε h => (F ε h).bind fun a h1 => (G ε h1).bind fun b h2 => match a, b with
  | .int i, .int j => if decide (-(2 ^ 62) ≤ i) && decide (i < 2 ^ 62) && decide (-(2 ^ 62) ≤ j) && decide (j < 2 ^ 62) then .ok (.fix ((List.range (j - i).toNat).map fun (k : Nat) => .int (i + k))) h2 else .stuck
  | _, _ => .stuck
section
variable {X : Cx} {W : WX} {cls ts : List Addr} {tg e e2 : Expr} {F F2 : EF} {p pos : Pos}
theorem i_any (he : E' X cls ts W e F) : I' X cls ts W tg e (iAny F) := by
  refine ⟨fun pins s σ H R I ⟨ρ, ε, h, hH, hE, q⟩ => ?_⟩
  have go : tE X.K cls ts W F σ H fun x H1 => ∃ ρ1 h1 d, RH X.K cls ts ρ1 H1 h1 ∧ RV X.K ρ1 H1 x d ∧ Post X.K cls ts (relI X.K cls ts) (fun c dd H' => W c dd σ H') ρ1 H1 (itOf d h1) R :=
    tG_bind hH hE q fun ρ1 H1 x h1 dx _ e1 hH1 rx hE1 p1 => ⟨ρ1, h1, dx, hH1, rx, p1⟩
  refine thn (he.run pins s σ H _ I go) fun v s1 ⟨x, H1, I1, rv, ρ1, h1, d, hH1, rx, q⟩ => ?_
  have el : ∀ {a : Addr} {xs : List V}, SqL X.K H1 a xs → R (Itl X.K a) H1 → wpAny (model X.prog X.w) X.A (pyIter (.ref a)) (PIE X pins σ tg R) X.xe s1 := fun {a xs} k q => by
    obtain ⟨its, rv, pl, hz⟩ := I1.list k
    exact wpAny_pyIter_list pl.isList (pi_one (tk := s1.toks) I1 _ (turn_list a _) ⟨_, Heap.get?_push_size _ rfl, rfl, rfl⟩ q)
  cases rx with
  | tup k1 r1 =>
    rename_i a xs ds
    cases rv
    obtain ⟨its, rv, pl, hz⟩ := I1.tuple k1
    exact wpAny_pyIter_tuple (show s1.heap.IsTuple a its.toArray from pl) (pi_one (tk := s1.toks) I1 _ (turn_tuple a _) ⟨_, Heap.get?_push_size _ rfl, rfl, rfl⟩ (q ρ1 H1 (Itt X.K a) .refl hH1 (rit_tup k1 r1)))
  | rol k1 r1 =>
    cases rv
    exact el k1.sq (q ρ1 H1 _ .refl hH1 (rit_rol k1 r1))
  | str z =>
    obtain ⟨t, rfl⟩ := rv
    have q' := q ρ1 H1 _ .refl hH1 rit_str
    cases ha : z.cps.all (· < 128)
    · exact wpAny_pyIter_wide ha (pi_one (tk := s1.toks) I1 _ (turn_str _ z t "str_iterator" (.inr rfl)) ⟨_, Heap.get?_push_size _ rfl, rfl, rfl⟩ q')
    · exact wpAny_pyIter_ascii ha (pi_one (tk := s1.toks) I1 _ (turn_str _ z t "str_ascii_iterator" (.inl rfl)) ⟨_, Heap.get?_push_size _ rfl, rfl, rfl⟩ q')
  | ref q1 =>
    simp only [itOf] at q
    split at q <;> first | exact q.elim | skip
    rename_i xs e1
    obtain ⟨us, k1, r1⟩ := hH1.lst q1 e1
    cases rv
    exact el (SqL.of k1) (q ρ1 H1 _ .refl hH1 (rit_live q1))
  | _ => exact q.elim
theorem i_range1 (hg : Gl X "range") (hm : X.mg "range" = none) (ha : E' X cls ts W e F) (hs : starEach [e] X.env = [(false, eval e X.env)] := by rfl) : I' X cls ts W tg (.Call (.Name "range" p) [e] [] pos) (iRange1 F) := by
  have hs' : starEach [e] X.env = (false, eval e X.env) :: starEach [] X.env := hs
  refine ⟨fun pins s σ H R I ⟨ρ, ε, h, hH, hE, q⟩ => (pi_range1 hg hm (pa_cons ha pa_nil hs') hs).run pins s σ H R I (tG_bind hH hE q fun ρ1 H1 x h1 dx _ e1 hH1 rx hE1 p1 => ?_)⟩
  cases rx <;> first | exact p1.elim | skip
  rename_i j _
  simp only at p1
  split at p1 <;> first | exact p1.elim | skip
  rename_i c
  simp only [Bool.and_eq_true, decide_eq_true_eq] at c
  exact ⟨j, rfl, c.1, c.2, p1 ρ1 H1 _ .refl hH1 rit_range⟩
theorem i_range2 (hg : Gl X "range") (hm : X.mg "range" = none) (ha : E' X cls ts W e F) (hb : E' X cls ts W e2 F2) (hs : starEach [e, e2] X.env = [(false, eval e X.env), (false, eval e2 X.env)] := by rfl) (hs2 : starEach [e2] X.env = [(false, eval e2 X.env)] := by rfl) :
    I' X cls ts W tg (.Call (.Name "range" p) [e, e2] [] pos) (iRange2 F F2) := by
  have hs2' : starEach [e2] X.env = (false, eval e2 X.env) :: starEach [] X.env := hs2
  have hs' : starEach [e, e2] X.env = (false, eval e X.env) :: starEach [e2] X.env := by rw [hs, hs2]
  refine ⟨fun pins s σ H R I ⟨ρ, ε, h, hH, hE, q⟩ => (pi_range2 hg hm (pa_cons ha (pa_cons hb pa_nil hs2') hs') hs hs2).run pins s σ H R I (tG_bind hH hE q fun ρ1 H1 x h1 dx _ e1 hH1 rx hE1 p1 => tG_bind hH1 hE1 p1 fun ρ2 H2 y h2 dy _ e2 hH2 ry hE2 p2 => ?_)⟩
  cases rx <;> first | exact p2.elim | skip
  cases ry <;> first | exact p2.elim | skip
  rename_i i _ j _
  simp only at p2
  split at p2 <;> first | exact p2.elim | skip
  rename_i c
  simp only [Bool.and_eq_true, decide_eq_true_eq] at c
  exact ⟨i, j, rfl, ⟨c.1.1.1, c.1.1.2, c.1.2, c.2⟩, p2 ρ2 H2 _ .refl hH2 rit_range⟩
end

/-! ### targets -/
abbrev TF' := D → AEnv → AH → Option AEnv
abbrev TFs := List D → AEnv → AH → Option AEnv
def gN (i : Nat) : TF' := fun d ε _ => if i < ε.length then some (ε.set i (some d)) else none
def gNil' : TFs := fun ds ε _ => match ds with
  | [] => some ε
  | _ => none
def gCons' (g : TF') (gs : TFs) : TFs := fun ds ε h => match ds with
  | d :: ds => match g d ε h with
    | some ε1 => gs ds ε1 h
    | none => none
  | [] => none
def gT (n : Nat) (gs : TFs) : TF' := fun d ε h => match d with
  | .tup ds => if ds.length = n then gs ds ε h else none
  | _ => none
/-- a target whose names stand at the slots sl -/
def tTg (K : PySem.W.Frag) (cls ts : List Addr) (sl : List Nat) (g : TF') : TG := fun v σ H Q => ∃ ρ ε h d ε', RH K cls ts ρ H h ∧ RE K ρ H σ ε ∧ RV K ρ H v d ∧ g d ε h = some ε' ∧
  ∀ σ', RE K ρ H σ' ε' → (∀ vs : List Nat, (∀ i ∈ sl, i ∈ vs) → wipe σ' vs = wipe σ vs) → Q σ' H
def tTgs (K : PySem.W.Frag) (cls ts : List Addr) (sl : List Nat) (g : TFs) : TGs := fun v σ H Q => ∃ ρ ε h d ε', RH K cls ts ρ H h ∧ RE K ρ H σ ε ∧ RVs K ρ H v d ∧ g d ε h = some ε' ∧
  ∀ σ', RE K ρ H σ' ε' → (∀ vs : List Nat, (∀ i ∈ sl, i ∈ vs) → wipe σ' vs = wipe σ vs) → Q σ' H
abbrev G' (X : Cx) (cls ts : List Addr) (tg : Expr) (sl : List Nat) (g : TF') : Prop := PG X tg (tTg X.K cls ts sl g)
abbrev Gs' (X : Cx) (cls ts : List Addr) (tg : List Expr) (sl : List Nat) (g : TFs) : Prop := PGs X tg (tTgs X.K cls ts sl g)
theorem RE.set {K : PySem.W.Frag} {ρ : List Addr} {H : Hp} {σ : L2.St} {ε : AEnv} {i : Nat} {v : V} {d : D} (r : RE K ρ H σ ε) (rv : RV K ρ H v d) : RE K ρ H (σ.set i (some v)) (ε.set i (some d)) := by
  refine ⟨by rw [List.length_set, List.length_set]; exact r.1, fun j e q => ?_⟩
  by_cases hj : i = j
  · subst hj
    have hl : i < ε.length := by
      have := (List.getElem?_eq_some_iff.mp q).1
      rw [List.length_set] at this
      exact this
    rw [List.getElem?_set_self hl] at q
    cases q
    exact ⟨v, List.getElem?_set_self (by rw [← r.1]; exact hl), rv⟩
  · rw [List.getElem?_set_ne hj] at q
    obtain ⟨w, h1, h2⟩ := r.2 j e q
    exact ⟨w, by rw [List.getElem?_set_ne hj]; exact h1, h2⟩
theorem wipe_set {σ : L2.St} {i : Nat} {x : Option V} : ∀ {vs : List Nat}, i ∈ vs → wipe (σ.set i x) vs = wipe σ vs
  | v :: vs, h => by
    unfold wipe
    by_cases hm : i ∈ vs
    · rw [wipe_set hm]
    · have e : i = v := by
        rcases List.mem_cons.mp h with one | more
        · exact one
        · exact absurd more hm
      subst e
      have z : ∀ vs : List Nat, i ∉ vs → wipe (σ.set i x) vs = (wipe σ vs).set i x := by
        intro vs
        induction vs with
        | nil => intro _; rfl
        | cons w ws ih =>
          intro hn
          unfold wipe
          rw [ih fun q => hn (List.mem_cons_of_mem _ q), List.set_comm _ _ (fun q => hn (by rw [q]; exact List.mem_cons_self))]
      rw [z vs hm, List.set_set]
section
variable {X : Cx} {cls ts : List Addr} {tg : Expr} {es : List Expr} {sl sl2 : List Nat} {g : TF'} {gs : TFs} {pos : Pos}
theorem g_name {i : Nat} {x : Str} (hN : X.N.Nodup) (hi : X.N[i]? = some x) (hx : Loc X.env.scope x) (hf : X.fn x = true ∨ X.env.scope.names.lookup x = some .local := by first | exact .inl rfl | exact .inr rfl | assumption) : G' X cls ts (.Name x pos) [i] (gN i) := by
  refine ⟨fun pins s σ H v u Q I r h => (pg_name hN hi hx hf).run pins s σ H v u Q I r ?_⟩
  obtain ⟨ρ, ε, hh, d, ε', hH, hE, rv, q, k⟩ := h
  unfold gN at q
  split at q <;> cases q
  exact k _ (hE.set rv) fun vs hv => wipe_set (hv i List.mem_cons_self)
theorem gs_nil : Gs' X cls ts [] [] gNil' := by
  refine ⟨fun pins s σ H vs us Q I r h => pgs_nil.run pins s σ H vs us Q I r ?_⟩
  obtain ⟨ρ, ε, hh, d, ε', hH, hE, rv, q, k⟩ := h
  unfold gNil' at q
  split at q <;> cases q
  cases rv
  exact ⟨rfl, k _ hE fun _ _ => rfl⟩
theorem gs_cons (h1 : G' X cls ts tg sl g) (h2 : Gs' X cls ts es sl2 gs) (hs : (assignEach (tg :: es) X.env).map (·.2) = assign tg X.env :: (assignEach es X.env).map (·.2) := by rfl) : Gs' X cls ts (tg :: es) (sl ++ sl2) (gCons' g gs) := by
  refine ⟨fun pins s σ H vs us Q I r h => (pgs_cons h1 h2 hs).run pins s σ H vs us Q I r ?_⟩
  obtain ⟨ρ, ε, hh, d, ε', hH, hE, rv, q, k⟩ := h
  unfold gCons' at q
  split at q <;> first | (cases q; done) | skip
  split at q <;> first | (cases q; done) | skip
  rename_i ε1 q1
  cases rv with
  | cons ra rb =>
    exact ⟨_, _, rfl, ρ, ε, hh, _, ε1, hH, hE, ra, q1, fun σ' hE' w1 => ⟨ρ, ε1, hh, _, ε', hH, hE', rb, q, fun σ2 hE2 w2 => k σ2 hE2 fun vs hv =>
      (w2 vs fun i hi => hv i (List.mem_append_right _ hi)).trans (w1 vs fun i hi => hv i (List.mem_append_left _ hi))⟩⟩
theorem g_tup {k : Nat} {n : Nat} (hc : X.calm = true) (h : Gs' X cls ts es sl gs) (hn : (assignEach es X.env).length = n := by rfl) (hst : (assignEach es X.env).findIdx? (·.1) = none := by rfl) : G' X cls ts (.Tuple es k pos) sl (gT n gs) := by
  refine ⟨fun pins s σ H v u Q I r hq => (pg_tup hc h hn hst).run pins s σ H v u Q I r ?_⟩
  obtain ⟨ρ, ε, hh, d, ε', hH, hE, rv, q, k⟩ := hq
  unfold gT at q
  split at q <;> first | (cases q; done) | skip
  split at q <;> first | (cases q; done) | skip
  rename_i c
  cases rv with
  | tup h1 r1 => exact ⟨_, _, rfl, h1, by rw [r1.length]; exact c, ρ, ε, hh, _, ε', hH, hE, r1, q, k⟩
end

/-! ### comprehensions -/
def wipeA (ε : AEnv) : List Nat → AEnv
  | [] => ε
  | v :: vs => (wipeA ε vs).set v none
def noExc {α : Type} : Res α → Res α
  | .exc _ _ => .stuck
  | r => r
def tYes' : TF := fun _ h => .ok true h
def compGo (it : AIt) (g : TF') (t : TF) (F : EF) (nD : Nat) (ε0 : AEnv) : Nat → Nat → AH → Res Unit
  | 0, _, h => if it.fin h = true then .ok () h else .stuck
  | m + 1, i, h => match it.item i h with
    | some d => match g d ε0 h with
      | some ε1 => (noExc (t ε1 h)).bind fun b h1 => if b = true then (noExc (F ε1 h1)).bind fun y h2 => match h2[nD]? with
          | some (.lst acc) => if acc.length < sizeLine then compGo it g t F nD ε0 m (i + 1) (h2.set nD (.lst (acc ++ [y]))) else .stuck
          | _ => .stuck
        else compGo it g t F nD ε0 m (i + 1) h1
      | none => .stuck
    | none => .stuck
def cComp (iF : IF) (g : TF') (t : TF) (F : EF) (own : List Nat) : EF := fun ε h => (iF ε h).bind fun it h1 => (compGo it g t F h1.length (wipeA ε own) it.len 0 (h1 ++ [.lst []])).bind fun _ h2 => .ok (.ref h1.length) h2
theorem RE.wipe {K : PySem.W.Frag} {ρ : List Addr} {H : Hp} {σ : L2.St} {ε : AEnv} (r : RE K ρ H σ ε) : ∀ vs : List Nat, RE K ρ H (L2.wipe σ vs) (wipeA ε vs)
  | [] => r
  | v :: vs => by
    have ih := RE.wipe r vs
    unfold L2.wipe wipeA
    refine ⟨by rw [List.length_set, List.length_set]; exact ih.1, fun j e q => ?_⟩
    by_cases hj : v = j
    · subst hj
      have hl := (List.getElem?_eq_some_iff.mp q).1
      rw [List.length_set] at hl
      rw [List.getElem?_set_self hl] at q
      cases q
    · rw [List.getElem?_set_ne hj] at q
      obtain ⟨w, h1, h2⟩ := ih.2 j e q
      exact ⟨w, by rw [List.getElem?_set_ne hj]; exact h1, h2⟩
abbrev Ts' (X : Cx) (cls ts : List Addr) (W : WX) (es : List Expr) (F : TF) : Prop := PTs X es (tT X.K cls ts W F)
abbrev W0 : WX := fun _ _ _ _ => False
theorem ts_nil {X : Cx} {cls ts : List Addr} {W : WX} : Ts' X cls ts W [] tYes' := ⟨fun pins s σ H Q I ⟨ρ, ε, h, hH, hE, p⟩ => pts_nil.run pins s σ H Q I (p _ _ _ .refl hH rfl)⟩
theorem ts_one {X : Cx} {cls ts : List Addr} {W : WX} {c : Expr} {T : TF} (h : T' X cls ts W c T) : Ts' X cls ts W [c] T := pts_one h
section
variable {K : PySem.W.Frag} {cls ts : List Addr} {W : WX} {iF : IF} {g : TF'} {t : TF} {F : EF} {sl own : List Nat} {σ : L2.St} {H : Hp} {Q : VK}
theorem noExc_W {α β : Type} {rel : List Addr → Hp → β → α → Prop} {γ δ : Type} {rel2 : List Addr → Hp → δ → γ → Prop} {ρ : List Addr} {H : Hp} {ε : AEnv} {h : AH} {F : AEnv → AH → Res α} {G : α → AH → Res γ} {V2 : Value → Option Addr → Hp → Prop} {Qx : δ → Hp → Prop} {σ : L2.St} {Q' : β → Hp → Prop}
    (hH : RH K cls ts ρ H h) (hE : RE K ρ H σ ε) (hp : Post K cls ts rel2 V2 ρ H ((noExc (F ε h)).bind G) Qx)
    (k : ∀ ρ1 H1 v h1 a, Ext ts ρ ρ1 H H1 → RH K cls ts ρ1 H1 h1 → rel ρ1 H1 v a → RE K ρ1 H1 σ ε → Post K cls ts rel2 V2 ρ1 H1 (G a h1) Qx → Q' v H1) : tG K cls ts rel W0 F σ H Q' := by
  refine ⟨ρ, ε, h, hH, hE, ?_⟩
  cases q : F ε h with
  | ok a h1 =>
    rw [q] at hp
    exact fun ρ1 H1 v e r rv => k ρ1 H1 v h1 a e r rv (hE.mono e) (hp.ext e)
  | exc x h1 =>
    rw [q] at hp
    exact hp.elim
  | stuck =>
    rw [q] at hp
    exact hp
theorem comp_ok (hsl : ∀ i ∈ sl, i ∈ own) (p : tE K cls ts W (cComp iF g t F own) σ H Q) : tLc (tI K cls ts W iF) (tTg K cls ts sl g) (tT K cls ts W0 t) (tE K cls ts W0 F) own σ H Q := by
  obtain ⟨ρ, ε, h, hH, hE, p⟩ := p
  refine tG_bind hH hE p fun ρ1 H1 J h1 it _ e1 hH1 rit hE1 p1 => fun Da hD => ?_
  have eD := ext_new (ts := ts) (ρ := ρ1) (u := .lst []) hD
  have hHD : RH K cls ts (ρ1 ++ [Da]) (upd H1 Da (.lst [])) (h1 ++ [.lst []]) := hH1.new hD ⟨[], upd_same, .nil⟩
  refine ⟨fun i m H' => m = it.len - i ∧ i ≤ it.len ∧ ∃ ρ2 h2, Ext ts (ρ1 ++ [Da]) ρ2 (upd H1 Da (.lst [])) H' ∧ RH K cls ts ρ2 H' h2 ∧
    Post K cls ts (relD K) (fun c dd H' => W c dd σ H') ρ2 H' ((compGo it g t F h1.length (wipeA ε own) m i h2).bind fun _ h3 => .ok (.ref h1.length) h3) Q,
    ⟨it.len, by simp, Nat.zero_le _, _, _, .refl, hHD, p1.ext eD⟩, ?_⟩
  rintro i m H' ⟨em, hi, ρ2, h2, e2, hH2, q⟩
  have ritD := rit.ext eD
  have gD : ρ2[h1.length]? = some Da := e2.get (by rw [← hH1.len]; exact get_new)
  by_cases hlt : i < it.len
  · obtain ⟨k, rfl⟩ : ∃ k, m = k + 1 := ⟨m - 1, by omega⟩
    simp only [compGo] at q
    split at q <;> first | exact q.elim | skip
    rename_i d qi
    obtain ⟨go, yl⟩ := ritD.go ρ2 H' h2 i d e2 hH2 hlt qi
    refine .inr ⟨go, fun H3 => ∃ ρ3 h3, Ext ts (ρ1 ++ [Da]) ρ3 (upd H1 Da (.lst [])) H3 ∧ RH K cls ts ρ3 H3 h3 ∧
      Post K cls ts (relD K) (fun c dd H' => W c dd σ H') ρ3 H3 ((compGo it g t F h1.length (wipeA ε own) k (i + 1) h3).bind fun _ h3 => .ok (.ref h1.length) h3) Q, fun H3 z => ⟨k, by omega, by omega, by omega, z⟩, fun x H'' y => ?_⟩
    obtain ⟨e3, hH3, rx⟩ := yl x H'' y
    have q := q.ext e3
    split at q <;> first | exact q.elim | skip
    rename_i ε1 qg
    have hE3 : RE K ρ2 H'' (L2.wipe σ own) (wipeA ε own) := (hE1.mono (eD.trans (e2.trans e3))).wipe own
    refine ⟨ρ2, _, h2, d, ε1, hH3, hE3, rx, qg, fun σ' hE' hw => ⟨?_, ?_⟩⟩
    · have w1 := hw own hsl
      rw [w1]
      have idem : ∀ vs : List Nat, (∀ i ∈ vs, i ∈ own) → L2.wipe (L2.wipe σ own) vs = L2.wipe σ own := by
        intro vs
        induction vs with
        | nil => intro _; rfl
        | cons v vs ih =>
          intro hv
          show (L2.wipe (L2.wipe σ own) vs).set v none = _
          rw [ih fun i hi => hv i (List.mem_cons_of_mem _ hi)]
          have wn : ∀ us : List Nat, v ∈ us → (L2.wipe σ us).set v none = L2.wipe σ us := by
            intro us
            induction us with
            | nil => intro h; cases h
            | cons u us ih2 =>
              intro h
              show ((L2.wipe σ us).set u none).set v none = (L2.wipe σ us).set u none
              by_cases e : u = v
              · subst e; rw [List.set_set]
              · rcases List.mem_cons.mp h with z | z
                · exact absurd z.symm e
                · rw [List.set_comm _ _ e, ih2 z]
          exact wn own (hv v List.mem_cons_self)
      exact idem own fun _ h => h
    · have q0 : Post K cls ts (relD K) (fun c dd H' => W c dd σ H') ρ2 H'' ((noExc (t ε1 h2)).bind fun b h1' => (if b = true then (noExc (F ε1 h1')).bind fun y h2 => match h2[h1.length]? with
          | some (.lst acc) => if acc.length < sizeLine then compGo it g t F h1.length (wipeA ε own) k (i + 1) (h2.set h1.length (.lst (acc ++ [y]))) else .stuck
          | _ => .stuck
        else compGo it g t F h1.length (wipeA ε own) k (i + 1) h1').bind fun _ h3 => .ok (.ref h1.length) h3) Q := by
        cases z : noExc (t ε1 h2) with
        | ok b h' => rw [z] at q; exact q
        | exc _ _ => rw [z] at q; exact q
        | stuck => rw [z] at q; exact q
      refine noExc_W hH3 hE' q0 fun ρ4 H4 b h4 b' e4 hH4 rb hE4 q4 => ?_
      cases rb
      cases b with
      | false => exact iteF ⟨ρ4, h4, e2.trans (e3.trans e4), hH4, q4⟩
      | true =>
        refine iteT ?_
        have q5 : Post K cls ts (relD K) (fun c dd H' => W c dd σ H') ρ4 H4 ((noExc (F ε1 h4)).bind fun y h2 => (match h2[h1.length]? with
          | some (.lst acc) => if acc.length < sizeLine then compGo it g t F h1.length (wipeA ε own) k (i + 1) (h2.set h1.length (.lst (acc ++ [y]))) else .stuck
          | _ => .stuck).bind fun _ h3 => .ok (.ref h1.length) h3) Q := by
          rw [if_pos rfl] at q4
          cases z : noExc (F ε1 h4) with
          | ok b h' => rw [z] at q4; exact q4
          | exc _ _ => rw [z] at q4; exact q4
          | stuck => rw [z] at q4; exact q4
        refine noExc_W hH4 hE4 q5 fun ρ5 H5 y h5 dy e5 hH5 ry hE5 q6 => ?_
        have e25 := e2.trans (e3.trans (e4.trans e5))
        have gD5 : ρ5[h1.length]? = some Da := e25.get (by rw [← hH1.len]; exact get_new)
        split at q6 <;> first | exact q6.elim | skip
        rename_i acc ea
        split at q6 <;> first | exact q6.elim | skip
        rename_i c
        obtain ⟨us, k1, r1⟩ := hH5.lst gD5 ea
        have eP := ext_put (u := .lst (us ++ [y])) (List.mem_of_getElem? gD5) hH5
        have hP : RH K cls ts ρ5 (upd H5 Da (.lst (us ++ [y]))) (h5.set h1.length (.lst (acc ++ [dy]))) := hH5.put gD5 ⟨_, upd_same, (r1.append (.cons ry .nil)).mono eP⟩
        exact ⟨us, k1, by rw [r1.length]; exact c, ρ5, _, e25.trans eP, hP, q6.ext eP⟩
  · have ei : i = it.len := by omega
    subst ei
    have em0 : m = 0 := by omega
    subst em0
    simp only [compGo] at q
    split at q <;> first | exact q.elim | skip
    rename_i c
    exact .inl ⟨ritD.stop ρ2 H' h2 e2 hH2 c, post_val hH2 (.ref gD) q⟩
end
section
variable {X : Cx} {W : WX} {cls ts : List Addr} {elt tg iter : Expr} {ifs : List Expr} {scope : Scope} {own : List (Str × Nat)} {pos : Pos} {iF : IF} {g : TF'} {t : TF} {F : EF} {sl : List Nat}
theorem e_comp (hc : X.calm = true) (hN : X.N.Nodup) (hi : I' X cls ts W tg iter iF) (ok : BlkOk X.N X.env.scope scope own) (hsl : ∀ i ∈ sl, i ∈ own.map (·.2))
    (hg : ∀ (s : Shared) (H : Hp) (C : Addr) (cl : List (Str × Addr)) (fp : List Addr), G' (X.blk s H scope (compEnvC scope cl C X.env) fp) cls ts tg sl g)
    (ht : ∀ (s : Shared) (H : Hp) (C : Addr) (cl : List (Str × Addr)) (fp : List Addr), Ts' (X.blk s H scope (compEnvC scope cl C X.env) fp) cls ts W0 ifs t)
    (he : ∀ (s : Shared) (H : Hp) (C : Addr) (cl : List (Str × Addr)) (fp : List Addr), E' (X.blk s H scope (compEnvC scope cl C X.env) fp) cls ts W0 elt F) (hs : ∀ x, foldedSetIterable iter X.env x = pure x := by intro _; rfl) :
    E' X cls ts W (.ListComp elt [⟨tg, iter, ifs, 0⟩] scope pos) (cComp iF g t F (own.map (·.2))) :=
  ⟨fun pins s σ H Q I p => (pe_lc hc hN hi ok hg ht he hs).run pins s σ H Q I (comp_ok hsl p)⟩
end
end Mi

namespace Mi
open L2 PySem PySem.Spec PyProof.Rows

/-! ### statements -/
inductive SR where
  | nx (ε : AEnv) (h : AH) | ret (d : D) (h : AH) | brk (ε : AEnv) (h : AH) | cnt (ε : AEnv) (h : AH) | exc (x : Exn) (ε : AEnv) (h : AH) | stuck
abbrev SF := AEnv → AH → SR
/-- an expression's end in a statement -/
def Res.st {α : Type} (r : Res α) (ε : AEnv) (f : α → AH → SR) : SR :=
  match r with
  | .ok a h => f a h
  | .exc x h => .exc x ε h
  | .stuck => .stuck
@[simp] theorem Res.st_ok {α : Type} (a : α) (h : AH) (ε : AEnv) (f : α → AH → SR) : (Res.ok a h).st ε f = f a h := rfl
@[simp] theorem Res.st_exc {α : Type} (x : Exn) (h : AH) (ε : AEnv) (f : α → AH → SR) : (Res.exc (α := α) x h).st ε f = .exc x ε h := rfl
@[simp] theorem Res.st_stuck {α : Type} (ε : AEnv) (f : α → AH → SR) : (Res.stuck (α := α)).st ε f = .stuck := rfl
def SR.seq (r : SR) (f : SF) : SR :=
  match r with
  | .nx ε h => f ε h
  | r => r
@[simp] theorem SR.seq_nx (ε : AEnv) (h : AH) (f : SF) : (SR.nx ε h).seq f = f ε h := rfl
@[simp] theorem SR.seq_ret (d : D) (h : AH) (f : SF) : (SR.ret d h).seq f = .ret d h := rfl
@[simp] theorem SR.seq_exc (x : Exn) (ε : AEnv) (h : AH) (f : SF) : (SR.exc x ε h).seq f = .exc x ε h := rfl
@[simp] theorem SR.seq_stuck (f : SF) : SR.stuck.seq f = .stuck := rfl
@[simp] theorem SR.seq_brk (ε : AEnv) (h : AH) (f : SF) : (SR.brk ε h).seq f = .brk ε h := rfl
@[simp] theorem SR.seq_cnt (ε : AEnv) (h : AH) (f : SF) : (SR.cnt ε h).seq f = .cnt ε h := rfl
def PostS (K : PySem.W.Frag) (cls ts : List Addr) (W : WX) (ρ : List Addr) (H : Hp) (r : SR) (E : Ends) : Prop :=
  match r with
  | .nx ε' h' => ∀ ρ' H' σ', Ext ts ρ ρ' H H' → RH K cls ts ρ' H' h' → RE K ρ' H' σ' ε' → E.nx σ' H'
  | .ret d h' => ∀ ρ' H' v, Ext ts ρ ρ' H H' → RH K cls ts ρ' H' h' → RV K ρ' H' v d → E.rt v H'
  | .brk ε' h' => ∀ ρ' H' σ', Ext ts ρ ρ' H H' → RH K cls ts ρ' H' h' → RE K ρ' H' σ' ε' → E.bk σ' H'
  | .cnt ε' h' => ∀ ρ' H' σ', Ext ts ρ ρ' H H' → RH K cls ts ρ' H' h' → RE K ρ' H' σ' ε' → E.ct σ' H'
  | .exc x ε' h' => ∀ ρ' H' σ' c dd, Ext ts ρ ρ' H H' → RH K cls ts ρ' H' h' → RE K ρ' H' σ' ε' → RX K cls ρ' H' c dd x → W c dd σ' H'
  | .stuck => False
theorem PostS.ext {K : PySem.W.Frag} {cls ts ρ ρ1 : List Addr} {H H1 : Hp} {W : WX} {r : SR} {E : Ends} (e : Ext ts ρ ρ1 H H1) (p : PostS K cls ts W ρ H r E) : PostS K cls ts W ρ1 H1 r E := by
  cases r with
  | nx ε' h' => exact fun ρ' H' σ' e' => p ρ' H' σ' (e.trans e')
  | ret d h' => exact fun ρ' H' v e' => p ρ' H' v (e.trans e')
  | brk ε' h' => exact fun ρ' H' σ' e' => p ρ' H' σ' (e.trans e')
  | cnt ε' h' => exact fun ρ' H' σ' e' => p ρ' H' σ' (e.trans e')
  | exc x ε' h' => exact fun ρ' H' σ' c dd e' => p ρ' H' σ' c dd (e.trans e')
  | stuck => exact p
def tS (K : PySem.W.Frag) (cls ts : List Addr) (W : WX) (F : SF) : TS := fun E σ H => ∃ ρ ε h, RH K cls ts ρ H h ∧ RE K ρ H σ ε ∧ PostS K cls ts W ρ H (F ε h) E
/-- an expression ahead of what a statement does -/
theorem tS_bind {α β : Type} {K : PySem.W.Frag} {cls ts ρ : List Addr} {H : Hp} {rel : List Addr → Hp → β → α → Prop} {W : WX} {F : AEnv → AH → Res α} {G : α → AH → SR} {σ : L2.St} {ε : AEnv} {h : AH} {E : Ends} {Q' : β → Hp → Prop}
    (hH : RH K cls ts ρ H h) (hE : RE K ρ H σ ε) (hp : PostS K cls ts W ρ H ((F ε h).st ε G) E)
    (k : ∀ ρ1 H1 v h1 a, F ε h = .ok a h1 → Ext ts ρ ρ1 H H1 → RH K cls ts ρ1 H1 h1 → rel ρ1 H1 v a → RE K ρ1 H1 σ ε → PostS K cls ts W ρ1 H1 (G a h1) E → Q' v H1) : tG K cls ts rel W F σ H Q' := by
  refine ⟨ρ, ε, h, hH, hE, ?_⟩
  cases q : F ε h with
  | ok a h1 =>
    rw [q] at hp
    exact fun ρ1 H1 v e r rv => k ρ1 H1 v h1 a q e r rv (hE.mono e) (hp.ext e)
  | exc x h1 =>
    rw [q] at hp
    exact fun ρ1 H1 c dd e r rx => hp ρ1 H1 σ c dd e r (hE.mono e) rx
  | stuck =>
    rw [q] at hp
    exact hp
def sPass : SF := fun ε h => .nx ε h
def sBrk : SF := fun ε h => .brk ε h
def sCnt : SF := fun ε h => .cnt ε h
def sSeq (a b : SF) : SF := fun ε h => (a ε h).seq b
def sExpr (F : EF) : SF := fun ε h => (F ε h).st ε fun _ h1 => .nx ε h1
def sRet (F : EF) : SF := fun ε h => (F ε h).st ε fun d h1 => .ret d h1
def sRetN : SF := fun ε h => .ret .non h
def sSet (i : Nat) (F : EF) : SF := fun ε h => (F ε h).st ε fun d h1 => if i < ε.length then .nx (ε.set i (some d)) h1 else .stuck
def sAsg (F : EF) (g : TF') : SF := fun ε h => (F ε h).st ε fun d h1 => match g d ε h1 with
  | some ε1 => .nx ε1 h1
  | none => .stuck
def sIf (t : TF) (a b : SF) : SF := fun ε h => (t ε h).st ε fun c h1 => if c = true then a ε h1 else b ε h1
/-- xs[i] = e -/
def putL (c i d : D) (h : AH) : Option AH :=
  match c, i with
  | .ref n, .int k => match h[n]? with
    | some (.lst xs) => match ixN xs.length k with
      | some j => some (h.set n (.lst (xs.set j d)))
      | none => none
    | _ => none
  | _, _ => none
def sPut (F G I : EF) : SF := fun ε h => (F ε h).st ε fun d h1 => (G ε h1).st ε fun c h2 => (I ε h2).st ε fun i h3 => match putL c i d h3 with
  | some h4 => .nx ε h4
  | none => .stuck
def sPar2 (i j : Nat) (F G : EF) : SF := fun ε h => (F ε h).st ε fun a h1 => (G ε h1).st ε fun b h2 => if i < ε.length ∧ j < ε.length then .nx ((ε.set i (some a)).set j (some b)) h2 else .stuck
def sPar3 (i j k : Nat) (F G I : EF) : SF := fun ε h => (F ε h).st ε fun a h1 => (G ε h1).st ε fun b h2 => (I ε h2).st ε fun c h3 => if i < ε.length ∧ j < ε.length ∧ k < ε.length then .nx (((ε.set i (some a)).set j (some b)).set k (some c)) h3 else .stuck
/-- for: turn by turn -/
def forGo (it : AIt) (g : TF') (B : SF) : Nat → Nat → AEnv → AH → SR
  | 0, _, ε, h => if it.fin h = true then .nx ε h else .stuck
  | m + 1, i, ε, h => match it.item i h with
    | some d => match g d ε h with
      | some ε1 => match B ε1 h with
        | .nx ε2 h2 => forGo it g B m (i + 1) ε2 h2
        | .cnt ε2 h2 => forGo it g B m (i + 1) ε2 h2
        | .brk ε2 h2 => .nx ε2 h2
        | r => r
      | none => .stuck
    | none => .stuck
def sFor (iF : IF) (g : TF') (B : SF) : SF := fun ε h => (iF ε h).st ε fun it h1 => forGo it g B it.len 0 ε h1
/-- while: as many turns as fuel has -/
def whileGo (t : TF) (B : SF) : Nat → AEnv → AH → SR
  | 0, _, _ => .stuck
  | m + 1, ε, h => (t ε h).st ε fun c h1 => if c = true then match B ε h1 with
      | .nx ε2 h2 => whileGo t B m ε2 h2
      | .cnt ε2 h2 => whileGo t B m ε2 h2
      | .brk ε2 h2 => .nx ε2 h2
      | r => r
    else .nx ε h1
def sWhile (fuel : Nat) (t : TF) (B : SF) : SF := fun ε h => whileGo t B fuel ε h

section
variable {X : Cx} {W : WX} {cls ts : List Addr} {a b c e : Expr} {Fa Fb Fc F : EF} {Ta : TF} {A : AF} {es : List Expr} {pos : Pos} {st : Stmt} {rest body orelse : List Stmt} {S1 S2 B : SF}
abbrev S' (X : Cx) (cls ts : List Addr) (W : WX) (s : Stmt) (F : SF) : Prop := PS X s (tS X.K cls ts W F)
abbrev Ss' (X : Cx) (cls ts : List Addr) (W : WX) (s : List Stmt) (F : SF) : Prop := PSs X s (tS X.K cls ts W F)
theorem ss_nil : Ss' X cls ts W [] sPass := ⟨fun pins s σ H E I ⟨ρ, ε, h, hH, hE, p⟩ => pss_nil.run pins s σ H E I (p _ _ _ .refl hH hE)⟩
theorem ss_cons (h1 : S' X cls ts W st S1) (h2 : Ss' X cls ts W rest S2) : Ss' X cls ts W (st :: rest) (sSeq S1 S2) := by
  refine ⟨fun pins s σ H E I ⟨ρ, ε, h, hH, hE, p⟩ => (pss_cons h1 h2).run pins s σ H E I ⟨ρ, ε, h, hH, hE, ?_⟩⟩
  unfold sSeq at p
  cases q : S1 ε h with
  | nx ε' h' =>
    rw [q] at p
    exact fun ρ' H' σ' e' hH' hE' => ⟨ρ', ε', h', hH', hE', p.ext e'⟩
  | _ => rw [q] at p; exact p
theorem ss_one (h1 : S' X cls ts W st S1) : Ss' X cls ts W [st] S1 := pss_one h1
theorem s_pass : S' X cls ts W (.Pass pos) sPass := ⟨fun pins s σ H E I ⟨ρ, ε, h, hH, hE, p⟩ => ps_pass.run pins s σ H E I (p _ _ _ .refl hH hE)⟩
theorem s_doc {x j pos pos'} : S' X cls ts W (.Expr (.Constant (.str x) j pos) pos') sPass := ⟨fun pins s σ H E I ⟨ρ, ε, h, hH, hE, p⟩ => ps_doc.run pins s σ H E I (p _ _ _ .refl hH hE)⟩
theorem s_brk : S' X cls ts W (.Break pos) sBrk := ⟨fun pins s σ H E I ⟨ρ, ε, h, hH, hE, p⟩ => ps_break.run pins s σ H E I (p _ _ _ .refl hH hE)⟩
theorem s_cnt : S' X cls ts W (.Continue pos) sCnt := ⟨fun pins s σ H E I ⟨ρ, ε, h, hH, hE, p⟩ => ps_continue.run pins s σ H E I (p _ _ _ .refl hH hE)⟩
theorem s_expr (he : E' X cls ts W e F) (hs : swapsWith e none pos.line X.env = pure false := by rfl) : S' X cls ts W (.Expr e pos) (sExpr F) :=
  ⟨fun pins s σ H E I ⟨ρ, ε, h, hH, hE, p⟩ => (ps_expr he hs).run pins s σ H E I (tS_bind hH hE p fun ρ1 H1 x h1 dx _ e1 hH1 rx hE1 p1 => p1 _ _ _ .refl hH1 hE1)⟩
theorem s_ret (he : E' X cls ts W e F) : S' X cls ts W (.Return (some e) pos) (sRet F) :=
  ⟨fun pins s σ H E I ⟨ρ, ε, h, hH, hE, p⟩ => (ps_ret he).run pins s σ H E I (tS_bind hH hE p fun ρ1 H1 x h1 dx _ e1 hH1 rx hE1 p1 => p1 _ _ _ .refl hH1 rx)⟩
theorem s_retN : S' X cls ts W (.Return none pos) sRetN := ⟨fun pins s σ H E I ⟨ρ, ε, h, hH, hE, p⟩ => ps_retN.run pins s σ H E I (p _ _ _ .refl hH .non)⟩
theorem s_set {i : Nat} {x : Str} {pos' : Pos} (hN : X.N.Nodup) (hi : X.N[i]? = some x) (hx : Loc X.env.scope x) (he : E' X cls ts W e F) (hs : swapsWith e (some (.Name x pos')) pos.line X.env = pure false := by rfl)
    (hf : X.fn x = true ∨ X.env.scope.names.lookup x = some .local := by first | exact .inl rfl | exact .inr rfl | assumption) : S' X cls ts W (.Assign [.Name x pos'] e pos) (sSet i F) := by
  refine ⟨fun pins s σ H E I ⟨ρ, ε, h, hH, hE, p⟩ => (ps_set hN hi hx he hs hf).run pins s σ H E I (tS_bind hH hE p fun ρ1 H1 x h1 dx _ e1 hH1 rx hE1 p1 => ?_)⟩
  split at p1 <;> first | exact p1.elim | skip
  exact p1 _ _ _ .refl hH1 (hE1.set rx)
theorem s_asg {tg : Expr} {sl : List Nat} {g : TF'} (he : E' X cls ts W e F) (hg : G' X cls ts tg sl g) (hs : swapsWithSole [tg] e pos.line X.env = pure false := by rfl) (hw : swappedStores [tg] e X.env = pure none := by rfl)
    (h1 : (assignEach [tg] X.env).map (·.2) = [assign tg X.env] := by rfl) : S' X cls ts W (.Assign [tg] e pos) (sAsg F g) := by
  refine ⟨fun pins s σ H E I ⟨ρ, ε, h, hH, hE, p⟩ => (ps_asg he hg hs hw h1).run pins s σ H E I (tS_bind hH hE p fun ρ1 H1 x h1 dx _ e1 hH1 rx hE1 p1 => ?_)⟩
  split at p1 <;> first | exact p1.elim | skip
  rename_i ε1 q
  exact ⟨ρ1, ε, h1, dx, ε1, hH1, hE1, rx, q, fun σ' hE' _ => p1 _ _ _ .refl hH1 hE'⟩
theorem s_if (hc : T' X cls ts W c Ta) (ha : Ss' X cls ts W body S1) (hb : Ss' X cls ts W orelse S2) : S' X cls ts W (.If c body orelse pos) (sIf Ta S1 S2) := by
  refine ⟨fun pins s σ H E I ⟨ρ, ε, h, hH, hE, p⟩ => (ps_if hc ha hb).run pins s σ H E I (tS_bind hH hE p fun ρ1 H1 x h1 dx _ e1 hH1 rx hE1 p1 => ?_)⟩
  cases rx
  cases x with
  | true => exact ⟨_, _, _, hH1, hE1, p1⟩
  | false => exact ⟨_, _, _, hH1, hE1, p1⟩
theorem s_put {o i : Expr} {tpos : Pos} {Fo Fi : EF} (he : E' X cls ts W e F) (ho : E' X cls ts W o Fo) (hi : E' X cls ts W i Fi)
    (ha : ∀ v, assign (.Subscript o i tpos) X.env v = (do let a ← holding [v] (eval o X.env); let b ← holding [v, a] (eval i X.env); standAt tpos; holding [v, a, b] (setItem a b v); release [v, a, b] []) := by intro _; rfl)
    (hs : swapsWithSole [.Subscript o i tpos] e pos.line X.env = pure false := by rfl) (hw : swappedStores [.Subscript o i tpos] e X.env = pure none := by rfl)
    (h1 : (assignEach [.Subscript o i tpos] X.env).map (·.2) = [assign (.Subscript o i tpos) X.env] := by rfl) : S' X cls ts W (.Assign [.Subscript o i tpos] e pos) (sPut F Fo Fi) := by
  refine ⟨fun pins s σ H E I ⟨ρ, ε, h, hH, hE, p⟩ => (ps_asg he (pg_sub ho hi set_list ha) hs hw h1).run pins s σ H E I (tS_bind hH hE p fun ρ1 H1 x h1 dx _ e1 hH1 rx hE1 p1 =>
    tS_bind hH1 hE1 p1 fun ρ2 H2 y h2 dy _ e2 hH2 ry hE2 p2 => tS_bind hH2 hE2 p2 fun ρ3 H3 z h3 dz _ e3 hH3 rz hE3 p3 => ?_)⟩
  split at p3 <;> first | exact p3.elim | skip
  rename_i h4 q
  unfold putL at q
  split at q <;> first | (cases q; done) | skip
  split at q <;> first | (cases q; done) | skip
  rename_i xs e4
  split at q <;> cases q
  rename_i j ej
  cases rz
  cases ry with
  | ref q1 =>
    have q1 := e3.get q1
    obtain ⟨us, k1, r1⟩ := hH3.lst q1 e4
    have rx := rx.mono (e2.trans e3)
    have eP := ext_put (u := .lst (us.set j x)) (List.mem_of_getElem? q1) hH3
    refine ⟨_, us, _, j, rfl, rfl, k1, by rw [r1.length]; exact ej, p3 _ _ _ eP (hH3.put q1 ⟨_, upd_same, (RVs.set rx j r1).mono eP⟩) (hE3.mono eP)⟩
theorem s_par2 {i j : Nat} {x y : Str} {px py pt : Pos} {kt k2 pt2} (hc : X.calm = true) (hN : X.N.Nodup) (hi : X.N[i]? = some x) (hj : X.N[j]? = some y) (hij : i ≠ j)
    (hx : X.env.scope.names.lookup x = some .local) (hy : X.env.scope.names.lookup y = some .local) (ha : E' X cls ts W a Fa) (hb : E' X cls ts W b Fb)
    (hw : swappedStores [.Tuple [.Name x px, .Name y py] kt pt] (.Tuple [a, b] k2 pt2) X.env = pure (some [x, y])) (hs : swapsWithSole [.Tuple [.Name x px, .Name y py] kt pt] (.Tuple [a, b] k2 pt2) pos.line X.env = pure false := by rfl)
    (h1 : starEach [a, b] X.env = (false, eval a X.env) :: starEach [b] X.env := by rfl) (h2 : starEach [b] X.env = (false, eval b X.env) :: starEach [] X.env := by rfl) :
    S' X cls ts W (.Assign [.Tuple [.Name x px, .Name y py] kt pt] (.Tuple [a, b] k2 pt2) pos) (sPar2 i j Fa Fb) := by
  refine ⟨fun pins s σ H E I ⟨ρ, ε, h, hH, hE, p⟩ => (ps_par hc hN hi hj hij hx hy (pa_cons ha (pa_cons hb pa_nil h2) h1) hw hs).run pins s σ H E I (tS_bind hH hE p fun ρ1 H1 x h1 dx _ e1 hH1 rx hE1 p1 =>
    tS_bind hH1 hE1 p1 fun ρ2 H2 y h2 dy _ e2 hH2 ry hE2 p2 => ?_)⟩
  split at p2 <;> first | exact p2.elim | skip
  exact ⟨x, y, rfl, p2 _ _ _ .refl hH2 ((hE2.set (rx.mono e2)).set ry)⟩
theorem s_par3 {i j k : Nat} {x y z : Str} {px py pz pt : Pos} {kt k2 pt2} (hc : X.calm = true) (hN : X.N.Nodup) (hi : X.N[i]? = some x) (hj : X.N[j]? = some y) (hk : X.N[k]? = some z) (hij : i ≠ j) (hik : i ≠ k) (hjk : j ≠ k)
    (hx : X.env.scope.names.lookup x = some .local) (hy : X.env.scope.names.lookup y = some .local) (hz : X.env.scope.names.lookup z = some .local) (ha : E' X cls ts W a Fa) (hb : E' X cls ts W b Fb) (hcc : E' X cls ts W c Fc)
    (hw : swappedStores [.Tuple [.Name x px, .Name y py, .Name z pz] kt pt] (.Tuple [a, b, c] k2 pt2) X.env = pure (some [x, y, z])) (hs : swapsWithSole [.Tuple [.Name x px, .Name y py, .Name z pz] kt pt] (.Tuple [a, b, c] k2 pt2) pos.line X.env = pure false := by rfl)
    (h1 : starEach [a, b, c] X.env = (false, eval a X.env) :: starEach [b, c] X.env := by rfl) (h2 : starEach [b, c] X.env = (false, eval b X.env) :: starEach [c] X.env := by rfl) (h3 : starEach [c] X.env = (false, eval c X.env) :: starEach [] X.env := by rfl) :
    S' X cls ts W (.Assign [.Tuple [.Name x px, .Name y py, .Name z pz] kt pt] (.Tuple [a, b, c] k2 pt2) pos) (sPar3 i j k Fa Fb Fc) := by
  refine ⟨fun pins s σ H E I ⟨ρ, ε, h, hH, hE, p⟩ => (ps_par3 hc hN hi hj hk hij hik hjk hx hy hz (pa_cons ha (pa_cons hb (pa_cons hcc pa_nil h3) h2) h1) hw hs).run pins s σ H E I (tS_bind hH hE p fun ρ1 H1 x h1 dx _ e1 hH1 rx hE1 p1 =>
    tS_bind hH1 hE1 p1 fun ρ2 H2 y h2 dy _ e2 hH2 ry hE2 p2 => tS_bind hH2 hE2 p2 fun ρ3 H3 z h3 dz _ e3 hH3 rz hE3 p3 => ?_)⟩
  split at p3 <;> first | exact p3.elim | skip
  exact ⟨x, y, z, rfl, p3 _ _ _ .refl hH3 (((hE3.set (rx.mono (e2.trans e3))).set (ry.mono e3)).set rz)⟩
theorem s_for {iter tg : Expr} {iF : IF} {sl : List Nat} {g : TF'} (hp : PassesOwn (model X.prog X.w) X.A X.env X.xe) (hc : X.calm = true) (hi : I' X cls ts W tg iter iF) (hg : G' X cls ts tg sl g) (hb : Ss' X cls ts W body B)
    (hs : ∀ x, foldedSetIterable iter X.env x = pure x := by intro _; rfl) : S' X cls ts W (.For tg iter body [] pos) (sFor iF g B) := by
  refine ⟨fun pins s σ H E I ⟨ρ, ε, h, hH, hE, p⟩ => (ps_for hp hc hi hg hb hs).run pins s σ H E I (tS_bind hH hE p fun ρ1 H1 J h1 it _ e1 hH1 rit hE1 p1 => ?_)⟩
  refine ⟨fun i m σ' H' => m = it.len - i ∧ i ≤ it.len ∧ ∃ ρ2 ε2 h2, Ext ts ρ1 ρ2 H1 H' ∧ RH X.K cls ts ρ2 H' h2 ∧ RE X.K ρ2 H' σ' ε2 ∧ PostS X.K cls ts W ρ2 H' (forGo it g B m i ε2 h2) E,
    ⟨it.len, by simp, Nat.zero_le _, _, _, _, .refl, hH1, hE1, p1⟩, ?_⟩
  rintro i m σ' H' ⟨em, hi', ρ2, ε2, h2, e2, hH2, hE2, q⟩
  by_cases hlt : i < it.len
  · obtain ⟨k, rfl⟩ : ∃ k, m = k + 1 := ⟨m - 1, by omega⟩
    simp only [forGo] at q
    split at q <;> first | exact q.elim | skip
    rename_i d qi
    obtain ⟨go, yl⟩ := rit.go ρ2 H' h2 i d e2 hH2 hlt qi
    refine .inr ⟨go, fun σ3 H3 => ∃ ρ3 ε3 h3, Ext ts ρ1 ρ3 H1 H3 ∧ RH X.K cls ts ρ3 H3 h3 ∧ RE X.K ρ3 H3 σ3 ε3 ∧ PostS X.K cls ts W ρ3 H3 (forGo it g B k (i + 1) ε3 h3) E, fun σ3 H3 z => ⟨k, by omega, by omega, by omega, z⟩, fun x H'' y => ?_⟩
    obtain ⟨e3, hH3, rx⟩ := yl x H'' y
    have q := q.ext e3
    split at q <;> first | exact q.elim | skip
    rename_i ε1 qg
    refine ⟨ρ2, ε2, h2, d, ε1, hH3, hE2.mono e3, rx, qg, fun σ4 hE4 _ => ⟨ρ2, ε1, h2, hH3, hE4, ?_⟩⟩
    cases z : B ε1 h2 with
    | nx ε5 h5 =>
      rw [z] at q
      exact fun ρ' H5 σ5 e5 hH5 hE5 => ⟨ρ', ε5, h5, e2.trans (e3.trans e5), hH5, hE5, q.ext e5⟩
    | cnt ε5 h5 =>
      rw [z] at q
      exact fun ρ' H5 σ5 e5 hH5 hE5 => ⟨ρ', ε5, h5, e2.trans (e3.trans e5), hH5, hE5, q.ext e5⟩
    | _ =>
      rw [z] at q
      exact q
  · have ei : i = it.len := by omega
    subst ei
    have em0 : m = 0 := by omega
    subst em0
    simp only [forGo] at q
    split at q <;> first | exact q.elim | skip
    rename_i c
    exact .inl ⟨rit.stop ρ2 H' h2 e2 hH2 c, q _ _ _ .refl hH2 hE2⟩
theorem s_while {fuel : Nat} (hp : PassesOwn (model X.prog X.w) X.A X.env X.xe) (hc : T' X cls ts W c Ta) (hb : Ss' X cls ts W body B) : S' X cls ts W (.While c body [] pos) (sWhile fuel Ta B) := by
  refine ⟨fun pins s σ H E I ⟨ρ, ε, h, hH, hE, p⟩ => (ps_while hp hc hb).run pins s σ H E I ?_⟩
  refine ⟨fun m σ' H' => ∃ ρ2 ε2 h2, RH X.K cls ts ρ2 H' h2 ∧ RE X.K ρ2 H' σ' ε2 ∧ PostS X.K cls ts W ρ2 H' (whileGo Ta B m ε2 h2) E, ⟨fuel, ρ, ε, h, hH, hE, p⟩, ?_⟩
  rintro m σ' H' ⟨ρ2, ε2, h2, hH2, hE2, q⟩
  cases m with
  | zero => exact q.elim
  | succ m =>
    simp only [whileGo] at q
    refine tS_bind hH2 hE2 q fun ρ3 H3 b h3 b' _ e3 hH3 rb hE3 q3 => ?_
    cases rb
    cases b with
    | false => exact iteF (q3 _ _ _ .refl hH3 hE3)
    | true =>
      rw [if_pos rfl] at q3
      refine iteT ⟨fun σ4 H4 => ∃ ρ4 ε4 h4, RH X.K cls ts ρ4 H4 h4 ∧ RE X.K ρ4 H4 σ4 ε4 ∧ PostS X.K cls ts W ρ4 H4 (whileGo Ta B m ε4 h4) E, fun σ4 H4 z => ⟨m, Nat.lt_succ_self _, z⟩, ρ3, ε2, h3, hH3, hE3, ?_⟩
      cases z : B ε2 h3 with
      | nx ε5 h5 =>
        rw [z] at q3
        exact fun ρ' H5 σ5 e5 hH5 hE5 => ⟨ρ', ε5, h5, hH5, hE5, q3.ext e5⟩
      | cnt ε5 h5 =>
        rw [z] at q3
        exact fun ρ' H5 σ5 e5 hH5 hE5 => ⟨ρ', ε5, h5, hH5, hE5, q3.ext e5⟩
      | _ =>
        rw [z] at q3
        exact q3
theorem s_setLc {i : Nat} {y : Str} {py : Pos} {elt tg iter : Expr} {ifs : List Expr} {scope : Scope} {own : List (Str × Nat)} {pos spos : Pos} {iF : IF} {g : TF'} {t : TF} {F : EF} {sl : List Nat}
    (hc : X.calm = true) (hN : X.N.Nodup) (hy : X.N[i]? = some y) (hyl : X.env.scope.names.lookup y = some .local)
    (hsw : swapsWith (.ListComp elt [⟨tg, iter, ifs, 0⟩] scope pos) (some (.Name y py)) spos.line X.env = pure true) (hi : I' X cls ts W tg iter iF) (ok : BlkOk X.N X.env.scope scope own) (hsl : ∀ i ∈ sl, i ∈ own.map (·.2))
    (hg : ∀ (s : Shared) (H : Hp) (C : Addr) (cl : List (Str × Addr)) (fp : List Addr), G' (X.blk s H scope (compEnvC scope cl C X.env) fp) cls ts tg sl g)
    (ht : ∀ (s : Shared) (H : Hp) (C : Addr) (cl : List (Str × Addr)) (fp : List Addr), Ts' (X.blk s H scope (compEnvC scope cl C X.env) fp) cls ts W0 ifs t)
    (he : ∀ (s : Shared) (H : Hp) (C : Addr) (cl : List (Str × Addr)) (fp : List Addr), E' (X.blk s H scope (compEnvC scope cl C X.env) fp) cls ts W0 elt F) (hs : ∀ x, foldedSetIterable iter X.env x = pure x := by intro _; rfl) :
    S' X cls ts W (.Assign [.Name y py] (.ListComp elt [⟨tg, iter, ifs, 0⟩] scope pos) spos) (sSet i (cComp iF g t F (own.map (·.2)))) := by
  refine ⟨fun pins s σ H E I ⟨ρ, ε, h, hH, hE, p⟩ => (ps_setLc (g := tTg X.K cls ts sl g) (tt := tT X.K cls ts W0 t) (te := tE X.K cls ts W0 F) hc hN hy hyl hsw hi ok hg ht he hs).run pins s σ H E I ?_⟩
  show tLc _ _ _ _ _ σ H (fun x H1 => gName i x σ H1 E.nx)
  refine comp_ok hsl (tS_bind hH hE p fun ρ1 H1 x h1 dx _ e1 hH1 rx hE1 p1 => ?_)
  split at p1 <;> first | exact p1.elim | skip
  exact p1 _ _ _ .refl hH1 (hE1.set rx)
end
end Mi

namespace Mi
open L2 PySem PySem.Spec PyProof.Rows

/-! ### defs -/
/-- what a def does with its arguments -/
abbrev FN := List D → AH → Res D
def cFn (c : FN) (A : AF) : EF := fun ε h => (A ε h).bind c
def cFnK (c : FN) (g : List D → List D → List D) (A B : AF) : EF := fun ε h => (A ε h).bind fun ds h1 => (B ε h1).bind fun es h2 => c (g ds es) h2
/-- a def, run where no guard is on -/
structure FnG (P : Program) (w : World) (K : PySem.W.Frag) (mg : Str → Option Value) (base : Heap) (cls ts : List Addr) (k : Nat) (f : Addr) (fd : FuncData) (ps : List Str) (c : FN) : Prop where
  len : ∀ ds h, c ds h ≠ .stuck → ds.length = ps.length
  run : ∀ (A : Around) (outer : List Env) (s : Shared) (H : Hp) (args : Args) (us : List Value) (vs : List V) (Q : VK) (E : XK), A.guards = some [] → Room k A → Env0 P w K mg base A outer s H → BindsTo s fd args (ps.zip us) → Vals vs us →
    (∃ ρ h ds, RH K cls ts ρ H h ∧ RVs K ρ H vs ds ∧ Post K cls ts (relD K) E ρ H (c ds h) Q) → codeAny (model P w) A (.call (.ref f) args) (CR (L2.CX P w) outer P w H s Q E) s
theorem Post.not_stuck {α β : Type} {K : PySem.W.Frag} {cls ts ρ : List Addr} {H : Hp} {rel : List Addr → Hp → β → α → Prop} {W : XK} {r : Res α} {Q : β → Hp → Prop} (p : Post K cls ts rel W ρ H r Q) : r ≠ .stuck := fun e => by
  rw [e] at p
  exact p
/-- what nothing is known of -/
theorem FnG.zero {P : Program} {w : World} {K : PySem.W.Frag} {mg : Str → Option Value} {base : Heap} {cls ts : List Addr} {k : Nat} {f : Addr} {fd : FuncData} {ps : List Str} : FnG P w K mg base cls ts k f fd ps (fun _ _ => .stuck) :=
  ⟨fun _ _ h => absurd rfl h, fun _ _ _ _ _ _ _ _ _ _ _ _ _ _ ⟨_, _, _, _, _, p⟩ => p.elim⟩
theorem FnG.mono {P : Program} {w : World} {K : PySem.W.Frag} {mg : Str → Option Value} {base : Heap} {cls ts : List Addr} {j k : Nat} {f : Addr} {fd : FuncData} {ps : List Str} {c : FN} (F : FnG P w K mg base cls ts j f fd ps c) (h : j ≤ k) : FnG P w K mg base cls ts k f fd ps c :=
  ⟨F.len, fun A outer s H args us vs Q E hg hr => F.run A outer s H args us vs Q E hg (hr.mono h)⟩

section
variable {X : Cx} {W : WX} {cls ts : List Addr} {k : Nat} {f : Addr} {fd : FuncData} {ps ks : List Str} {c : FN} {x : Str} {p pos : Pos} {e : Expr} {es : List Expr} {kws : List Keyword} {A B : AF}
theorem run_g {pins : List (Addr × Obj)} {s : Shared} {σ : L2.St} {H : Hp} {Q : VK} {us : List Value} {kw : List (Str × Value)} {zs : List Value} {vs : List V} {ρ : List Addr} {h : AH} {ds : List D} (F : FnG X.prog X.w X.K X.mg X.base cls ts k f fd ps c) (hg : X.A.guards = some []) (hr : Room k X.A) (tk : Takes X W)
    (hb : zs.length = ps.length → BindsTo s fd ⟨us, kw⟩ (ps.zip zs)) (I : Inv X pins σ H s) (r : Vals vs zs) (hH : RH X.K cls ts ρ H h) (rv : RVs X.K ρ H vs ds) (q : Post X.K cls ts (relD X.K) (fun c dd H' => W c dd σ H') ρ H (c ds h) Q) :
    wpAny (model X.prog X.w) X.A (call (.ref f) us kw) (EP X pins σ Q) X.xe s := by
  have hl : zs.length = ps.length := by rw [← r.length, rv.length]; exact F.len _ _ q.not_stuck
  refine wpAny_call (codeAny_mono (F.run X.A X.stack s H ⟨us, kw⟩ zs vs Q (fun c dd H' => W c dd σ H') hg hr I.env0 (hb hl) r ⟨ρ, h, ds, hH, rv, q⟩) fun o s' z => ?_)
  cases o with
  | error u => exact tk u s' (XE.of_call I (fun _ _ _ y => y) z)
  | ok fl => cases fl <;> first | exact I.after z | exact z.elim
/-- the arguments are there, what is behind is wanted -/
def Rdy (K : PySem.W.Frag) (cls ts : List Addr) (c : FN) (W : XK) (Q : VK) (vs : List V) (H : Hp) : Prop := ∃ ρ h ds, RH K cls ts ρ H h ∧ RVs K ρ H vs ds ∧ Post K cls ts (relD K) W ρ H (c ds h) Q
/-- f(e, ..) -/
theorem e_call (F : FnG X.prog X.w X.K X.mg X.base cls ts k f fd ps c) (hgu : X.A.guards = some []) (hr : Room k X.A) (tk : Takes X W) (hg : Gl X x) (hm : X.mg x = some (.ref f)) (hk : PySem.W.keepIn X.K (.ref f) = true) (hb : Binds X.K fd ps [])
    (ha : A' X cls ts W (e :: es) A) (hdb : (x == ("__debug__" : Str)) = false := by decide) (he : starEach (e :: es) X.env = (false, eval e X.env) :: starEach es X.env := by rfl) (hpl : (backTo pos (starEach es X.env)).any (·.1) = false := by rfl) :
    E' X cls ts W (.Call (.Name x p) (e :: es) [] pos) (cFn c A) := by
  refine ⟨fun pins s σ H Q I ⟨ρ, ε, h, hH, hE, q⟩ => ?_⟩
  have q1 : tA X.K cls ts W A σ H (Rdy X.K cls ts c (fun u dd H' => W u dd σ H') Q) := tG_bind hH hE q fun ρ1 H1 vs h1 ds _ e1 hH1 rv hE1 p1 => ⟨ρ1, h1, ds, hH1, rv, p1⟩
  refine wpAny_Call_Name_kw (ld_glob I hg hm ?go hdb)
  refine PySem.W.callWith_K (h₀ := X.base) I.ok.mod.kin hk (thn (ha.run pos pins s σ H _ I q1) fun us s1 ⟨vs, H1, I1, r, ρ1, h1, ds, hH1, rv, p1⟩ => ⟨I1.kIn, ?_⟩) he hpl
  exact run_g F hgu hr tk (fun hl => by have z := hb s1 us I1.kIn (by rw [List.append_nil]; exact hl); rw [List.append_nil] at z; exact z) I1 r hH1 rv p1
/-- f() -/
theorem e_call0 (F : FnG X.prog X.w X.K X.mg X.base cls ts k f fd ps c) (hgu : X.A.guards = some []) (hr : Room k X.A) (tk : Takes X W) (hg : Gl X x) (hm : X.mg x = some (.ref f)) (hk : PySem.W.keepIn X.K (.ref f) = true) (hb : Binds X.K fd ps [])
    (hdb : (x == ("__debug__" : Str)) = false := by decide) : E' X cls ts W (.Call (.Name x p) [] [] pos) (cFn c aNil) := by
  refine ⟨fun pins s σ H Q I ⟨ρ, ε, h, hH, hE, q⟩ => ?_⟩
  refine wpAny_Call_Name_kw (ld_glob I hg hm ?go hdb)
  exact PySem.W.callWith_K0 I.kIn hk (run_g (us := []) (zs := []) F hgu hr tk (fun hl => hb s [] I.kIn hl) I .nil hH .nil q)
/-- f(k = e, ..) and f(e, .., k = e) -/
theorem e_callK {g : List Value → List Value → List Value} {gV : List V → List V → List V} {gD : List D → List D → List D} {tk : TA} (F : FnG X.prog X.w X.K X.mg X.base cls ts k f fd ps c) (hgu : X.A.guards = some []) (hr : Room k X.A) (tx : Takes X W) (hg : Gl X x) (hm : X.mg x = some (.ref f))
    (hk : PySem.W.keepIn X.K (.ref f) = true) (hb : KBinds X.K fd ps ks g gV) (hgD : ∀ (ρ : List Addr) (H : Hp) (vs zs : List V) (ds es : List D), RVs X.K ρ H vs ds → RVs X.K ρ H zs es → RVs X.K ρ H (gV vs zs) (gD ds es))
    (ha : A' X cls ts W (e :: es) A) (hkw : PK X kws (tA X.K cls ts W B)) (hall : (backToKw pos (keywordEach kws X.env)).all (·.1.isSome) = true := by rfl) (hks : (backToKw pos (keywordEach kws X.env)).filterMap (·.1) = ks := by rfl)
    (hdb : (x == ("__debug__" : Str)) = false := by decide) (he : starEach (e :: es) X.env = (false, eval e X.env) :: starEach es X.env := by rfl) (hpl : ((backTo pos (starEach (e :: es) X.env)).any (·.1) || (backToKw pos (keywordEach kws X.env)).any (·.1.isNone)) = false := by rfl) :
    E' X cls ts W (.Call (.Name x p) (e :: es) kws pos) (cFnK c gD A B) := by
  refine ⟨fun pins s σ H Q I ⟨ρ, ε, h, hH, hE, q⟩ => ?_⟩
  have q1 : tA X.K cls ts W A σ H fun vs H1 => tA X.K cls ts W B σ H1 fun zs H2 => Rdy X.K cls ts c (fun u dd H' => W u dd σ H') Q (gV vs zs) H2 := tG_bind hH hE q fun ρ1 H1 vs h1 ds _ e1 hH1 rv hE1 p1 =>
    tG_bind hH1 hE1 p1 fun ρ2 H2 zs h2 es _ e2 hH2 rz hE2 p2 => ⟨ρ2, h2, gD ds es, hH2, hgD _ _ _ _ _ _ (rv.mono e2) rz, p2⟩
  refine wpAny_Call_Name_kw (ld_glob I hg hm ?go hdb)
  refine PySem.W.callWith_KW (h₀ := X.base) I.ok.mod.kin hk hall (thn (ha.run pos pins s σ H _ I q1) fun us s1 ⟨vs, H1, I1, r, y⟩ => ?_) hpl he
  refine thn (hkw.run pos pins s1 σ H1 _ I1 y) fun ws s2 ⟨zs, H2, I2, rz, ρ2, h2, ds, hH2, rv, p2⟩ => ⟨I2.kIn, ?_⟩
  rw [hks]
  exact run_g F hgu hr tx (fun hl => hb.to s2 us ws I2.kIn hl) I2 (hb.rel r rz) hH2 rv p2
theorem k_nil : PK X [] (tA X.K cls ts W aNil) := ⟨fun pos pins s σ H Q I ⟨ρ, ε, h, hH, hE, q⟩ => (pk_nil (X := X)).run pos pins s σ H Q I (q _ _ _ .refl hH .nil)⟩
theorem k_cons {nm : Option Str} {kpos : Pos} {F : EF} (ha : E' X cls ts W e F) (hr : PK X kws (tA X.K cls ts W A)) : PK X (⟨nm, e, kpos⟩ :: kws) (tA X.K cls ts W (aCons F A)) :=
  ⟨fun pos pins s σ H Q I ⟨ρ, ε, h, hH, hE, q⟩ => (pk_cons ha hr).run pos pins s σ H Q I (tG_bind hH hE q fun ρ1 H1 x h1 dx _ e1 hH1 rx hE1 p1 => tG_bind hH1 hE1 p1 fun ρ2 H2 y h2 dy _ e2 hH2 ry hE2 p2 => p2 _ _ _ .refl hH2 (.cons (rx.mono e2) ry))⟩
end

/-- a def's body, run at its arguments -/
def runB (np nN : Nat) (B : SF) : FN := fun ds h => if ds.length = np then match B (ds.map some ++ List.replicate (nN - np) none) h with
    | .nx _ h' => .ok .non h'
    | .ret d h' => .ok d h'
    | .exc x _ h' => .exc x h'
    | _ => .stuck
  else .stuck
theorem RE.start {K : PySem.W.Frag} {ρ : List Addr} {H : Hp} {N : List Str} {vs : List V} {ds : List D} {np : Nat} (r : RVs K ρ H vs ds) (hn : ds.length = np) : RE K ρ H (L2.start N vs) (ds.map some ++ List.replicate (N.length - np) none) := by
  subst hn
  unfold L2.start
  refine ⟨by rw [List.length_append, List.length_append, List.length_map, List.length_map, List.length_replicate, List.length_replicate, r.length], fun i d q => ?_⟩
  by_cases hi : i < ds.length
  · rw [List.getElem?_append_left (by rw [List.length_map]; exact hi), List.getElem?_map] at q
    cases z : ds[i]? with
    | none => rw [z] at q; cases q
    | some d' =>
      rw [z] at q
      cases q
      obtain ⟨v, e, rv⟩ := r.get z
      refine ⟨v, ?_, rv⟩
      rw [List.getElem?_append_left (by rw [List.length_map, r.length]; exact hi), List.getElem?_map, e]
      rfl
  · rw [List.getElem?_append_right (by rw [List.length_map]; omega), List.getElem?_replicate] at q
    split at q <;> cases q
/-- a def by its body -/
theorem FnG.of {P : Program} {w : World} {K : PySem.W.Frag} {mg : Str → Option Value} {base : Heap} {cls ts : List Addr} {k : Nat} {f : Addr} {name qual : Str} {params : Arguments} {body : List Stmt} {scope : Scope} {dV kV doc pm cdv ct oc : Value} {an od : Option Addr}
    {osl : Array (Option Value)} {N ps : List Str} {B : SF} (lk : K.lookup f = some ⟨oc, od, .func (PySem.W.fnOf name qual params body scope dV kV doc pm an cdv ct), osl⟩) (hcd : PySem.W.codeIn K cdv qual = true) (S : FnScope N ps scope)
    (hbody : ∀ (A : Around) (outer : List Env) (s : Shared) (H : Hp) (E : XK), (A.deeper (envOfC qual scope s.heap.objs.size f cdv)).guards = some [] → Room k (A.deeper (envOfC qual scope s.heap.objs.size f cdv)) →
      Takes (cxOf (L2.CX P w) P w K mg base N qual scope f cdv A outer s H E) (fun c d _ H => E c d H) → Ss' (cxOf (L2.CX P w) P w K mg base N qual scope f cdv A outer s H E) cls ts (fun c d _ H => E c d H) body B) :
    FnG P w K mg base cls ts (k + 1) f (PySem.W.fnOf name qual params body scope dV kV doc pm an cdv ct) ps (runB ps.length N.length B) := by
  refine ⟨fun ds h q => ?_, fun A outer s H args us vs Q E hg hr e0 hb r ⟨ρ, h, ds, hH, rv, p⟩ => ?_⟩
  · unfold runB at q
    split at q
    · rename_i e
      exact e
    · exact absurd rfl q
  · unfold runB at p
    split at p
    · rename_i hl
      have bk : ∀ b o, base.get? b = some o → s.heap.get? b = some o := fun b o e => (e0.bs b o e).1
      have KX := e0.mod.kin.keeps bk
      have hkind : ∀ y ∈ ps.zip us, scope.names.lookup y.1 = some .local ∨ (scope.names.lookup y.1 = some .cell ∧ ((cellsFrom (s.heap.objs.size + 1) scope.names []).lookup y.1).isSome = true) := by
        rintro ⟨n, v⟩ hy
        exact (S.par n (List.of_mem_zip hy).1).imp id fun q => ⟨q, PySem.W.cellsFrom_some _ _ _ (.inl q)⟩
      refine codeAny_call_function hr.depth (KX _ _ lk) rfl S.co S.gen rfl (PySem.W.codeRec_of KX hcd) (hb _ _ _ _ (wpAny_newFunctionEnv_cells S.kind hkind fun _ he s1 x => ?_))
      cases he
      refine ⟨(e0.mod.nolimit.keeps bk).keeps x.toInCall.keep, codeAny_func ?_⟩
      have I := inv_start (CX := L2.CX P w) (E := E) (N := N) (qual := qual) (cd := cdv) S hr.hd e0 (by rw [rv.length]; exact hl) r x
      have tk : Takes (cxOf (L2.CX P w) P w K mg base N qual scope f cdv A outer s H E) (fun c d _ H => E c d H) := takes_of rfl rfl rfl rfl
      have q : tS K cls ts (fun c d _ H => E c d H) B { nx := fun _ H' => Q .non H', rt := Q } (L2.start N vs) H := by
        refine ⟨ρ, _, h, hH, RE.start rv hl, ?_⟩
        cases z : B (ds.map some ++ List.replicate (N.length - ps.length) none) h with
        | nx ε h' =>
          rw [z] at p
          exact fun ρ' H' σ' e1 hH1 _ => p ρ' H' .non e1 hH1 .non
        | ret d h' =>
          rw [z] at p
          exact p
        | exc y ε h' =>
          rw [z] at p
          exact fun ρ' H' σ' c dd e1 hH1 _ rx => p ρ' H' c dd e1 hH1 rx
        | _ =>
          rw [z] at p
          exact p.elim
      refine wpAny_mono ((hbody A outer s H E hg (hr.deeper _) tk).run [] s1 _ H _ I q) (fun fl s' hs => ?_) fun u s' hs => hs
      have fin : ∀ {σ' : L2.St} {H' : Hp} {v : V} {u : Value}, Inv (cxOf (L2.CX P w) P w K mg base N qual scope f cdv A outer s H E) [] σ' H' s' → RelV v u → Q v H' → CE outer P w H s Q u s' :=
        fun {_ H' v _} J rv q => ⟨v, H', J.os, J.bare, J.base, J.hok, rv, q⟩
      cases fl with
      | ret u =>
        obtain ⟨v, σ2, H2, J, r2, q⟩ := hs
        exact fin J r2 q
      | next =>
        obtain ⟨σ', H', J, q⟩ := hs
        exact fin (u := Value.none) (v := .non) J rfl q
      | brk =>
        obtain ⟨_, _, _, q⟩ := hs
        exact q.elim
      | cont =>
        obtain ⟨_, _, _, q⟩ := hs
        exact q.elim
    · exact p.elim
end Mi

namespace Mi
open L2 PySem PySem.Spec PyProof.Rows

/-! ### all(a <= x <= b for x in text) -/
theorem elt_between {prog : Program} {w : World} {scope : Scope} {x a b : Str} {ja jb : Nat} {p1 p2 p3 p4 : Pos} (hk : scope.kind = .function) (hl : scope.names.lookup x = some .local) (hd : (x == ("__debug__" : Str)) = false := by decide)
    (hm : lastMarks [.LtE, .LtE] [.Name x p1, .Constant (.str b) jb p2] = false := by with_unfolding_all rfl) :
    GxR.EltP prog w scope x (.Compare (.Constant (.str a) ja p3) [.LtE, .LtE] [.Name x p1, .Constant (.str b) jb p2] p4) (fun c => !decide ([c] < a.cps.toList) && !decide (b.cps.toList < [c])) := by
  intro cenv A' E' c t s₂ m₂ hs hn hx
  refine Compare_chain (Calls.Constant_str ?_) hm
  refine chain_link (wpAny_Name (wpAny_loadName_local (by rw [hs]; exact hk) (show cenv.scope.names.lookup x = some .local by rw [hs]; exact hl) (hn.keeps fun _ _ e => e) hx ?_) hd)
  refine PySem.P.le_str (wpAny_truthy_bool ?_)
  show if (!decide (([c] : List Nat) < a.cps.toList)) = true then _ else _
  cases q : decide (([c] : List Nat) < a.cps.toList) with
  | true => exact ite_ff ⟨by show Value.bool (!true) = Value.bool (!decide (([c] : List Nat) < a.cps.toList) && _); rw [q]; rfl, GxR.keeps_tok _ _⟩
  | false =>
    refine ite_tt (chain_last (Calls.Constant_str (PySem.P.le_str ⟨?_, GxR.keeps_tok _ _⟩)))
    show Value.bool (!decide (b.cps.toList < ([c] : List Nat))) = Value.bool (!decide (([c] : List Nat) < a.cps.toList) && _)
    rw [q]
    rfl

/-! ### all(test for x in text) -/
def cAllS (pb : Nat → Bool) (F : EF) : EF := fun ε h => (F ε h).bind fun d h1 => match d with
  | .str a => .ok (.bl (a.cps.toList.all pb)) h1
  | _ => .stuck
section
variable {X : Cx} {W : WX} {cls ts ρ : List Addr} {K : PySem.W.Frag} {H H' : Hp} {h : AH} {P : Addr}
/-- a table has grown -/
theorem tabbed_ext (r : RH K cls ts ρ H h) (hP : P ∈ ts) (t : GxR.Tabbed P H H') : Ext ts ρ ρ H H' ∧ RH K cls ts ρ H' h := by
  obtain ⟨n0, ps, hp, _⟩ := r.tab P hP
  have e : Ext ts ρ ρ H H' := by
    refine ⟨List.prefix_refl _, fun _ h n => absurd h n, fun a o e _ n => ?_, fun a xs e => ?_, fun a o u e => ?_, fun a e => ?_⟩
    · rw [t.2 a fun z => n (by rw [z]; exact hP)]; exact e
    · rw [t.2 a fun z => by rw [z, hp] at e; cases e]; exact e
    · rw [t.2 a fun z => by rw [z, hp] at e; cases e]; exact e
    · by_cases z : a = P
      · obtain ⟨qs, y, _⟩ := t.1
        rw [z, y] at e
        cases e
      · rw [t.2 a z] at e
        exact e
  refine ⟨e, r.len, r.nd, fun n a o q1 q2 => (r.obj n a o q1 q2).mono e fun u y => ?_, fun Z hZ => ⟨(r.tab Z hZ).1, ?_⟩, r.sm.1, ?_⟩
  · rw [t.2 a fun z => n0 (by rw [← z]; exact List.mem_of_getElem? q1)]; exact y
  · by_cases z : Z = P
    · rw [z]; exact t.1
    · obtain ⟨_, qs, y, k⟩ := r.tab Z hZ
      exact ⟨qs, by rw [t.2 Z z]; exact y, k⟩
  · obtain ⟨_, φ, y⟩ := r.sm
    exact ⟨φ, by rw [t.2 _ fun z => by rw [z, hp] at y; cases y]; exact y⟩
theorem e_allS {c : Addr} {elt iter : Expr} {x : Str} {px p pos gpos : Pos} {scope : Scope} {pb : Nat → Bool} {F : EF} {k : Nat} (hr : Room k X.A) (hg : Gl X "all") (hm : X.mg "all" = none) (TB : GxR.TabB X.base X.mg c P) (hcode : X.env.code = .ref c) (hP : P ∈ ts)
    (S : GxR.GenS X.env scope x) (hi : E' X cls ts W iter F) (hel : GxR.EltP X.prog X.w scope x elt pb) (hs : ∀ v, genFold iter X.env v = pure v)
    (he : starEach [.GeneratorExp elt [⟨.Name x px, iter, [], 0⟩] scope gpos] X.env = (false, eval (.GeneratorExp elt [⟨.Name x px, iter, [], 0⟩] scope gpos) X.env) :: starEach [] X.env := by rfl) : E' X cls ts W (.Call (.Name "all" p) [.GeneratorExp elt [⟨.Name x px, iter, [], 0⟩] scope gpos] [] pos) (cAllS pb F) := by
  refine ⟨fun pins s σ H Q I ⟨ρ, ε, h, hH, hE, q⟩ => (GxR.pe_allS hr hg hm (by with_unfolding_all rfl) TB hcode S hi hel hs he).run pins s σ H Q I (tG_bind hH hE q fun ρ1 H1 v h1 d _ e1 hH1 rv hE1 p1 => ?_)⟩
  cases rv <;> first | exact p1.elim | skip
  rename_i _ a
  obtain ⟨_, hT⟩ := hH1.tab P hP
  refine ⟨_, rfl, hT, fun H2 t => ?_⟩
  obtain ⟨e2, hH2⟩ := tabbed_ext hH1 hP t
  exact p1 _ _ _ e2 hH2 (.bl _)
end
end Mi

namespace Mi
open L2 PySem PySem.Spec PyProof.Rows

/-! ### the end of a law: its def runs at the script -/
theorem RVs.ints {K : PySem.W.Frag} {ρ : List Addr} {H : Hp} : ∀ ns : List Int, RVs K ρ H (ns.map V.int) (ns.map D.int)
  | [] => .nil
  | n :: ns => .cons (.int n) (RVs.ints ns)
def tblO (ps : Array Value) : Obj := { cls := .none, data := .fields ps }
def lstO (vs : List Value) : Obj := { cls := .type "list", data := .seq vs.toArray }
section
variable {P : Program} {w : World} {K : PySem.W.Frag} {mg mb : Str → Option Value} {k : Nat} {fa a : Addr} {cls : List Addr} {cs : List (Addr × Addr)} {fd : FuncData} {x : Str} {c : FN} {s₁ : Shared} {vs : List Value} {ns : List Int}
/-- sys.modules stands as it is -/
def smO (o : Obj) : HO := .ext fun h => h.get? sysModules = some o
/-- what is tracked: the tables, and the script where the text doesn't hold it -/
def scrH (K : PySem.W.Frag) (T : List Addr) (o : Obj) (a : Addr) (vs : List Value) (ns : List Int) : Hp := fun b =>
  if b = sysModules then some (smO o) else if b ∈ T then some (.tbl #[]) else if b = a ∧ (K.lookup a).isNone = true then some (.frz (lstO vs) (.lst (ns.map V.int))) else none
theorem scrH_or {T : List Addr} {b : Addr} {o : Obj} {u : HO} (h : scrH K T o a vs ns b = some u) : (b ∈ T ∧ u = .tbl #[]) ∨ (b = a ∧ K.lookup a = none ∧ u = .frz (lstO vs) (.lst (ns.map V.int))) ∨ (b = sysModules ∧ u = smO o) := by
  unfold scrH at h
  split at h
  · rename_i m
    cases h
    exact .inr (.inr ⟨m, rfl⟩)
  split at h
  · rename_i m
    cases h
    exact .inl ⟨m, rfl⟩
  · split at h
    · rename_i m
      cases h
      exact .inr (.inl ⟨m.1, Option.isNone_iff_eq_none.mp m.2, rfl⟩)
    · cases h
theorem law_callG (KX : K.In s₁.heap) (hns : s₁.heap.Ns mainGlobals mg) (hb : s₁.heap.Ns builtinsNs mb) (hbb : ∀ x : Str, x ≠ "__name__" → mb x = bootBuiltins x) (hlim : s₁.heap.NoLimit) (hg : s₁.gens = #[]) (hsm : ∃ mm, s₁.heap.Ns sysModules mm) (nsm : K.lookup sysModules = none)
    (hT : ∀ p ∈ cs, s₁.heap.get? p.2 = some (tblO #[])) (nT : ∀ p ∈ cs, K.lookup p.2 = none) (C : ∀ p ∈ cs, PySem.W.CodeHd s₁.heap p.1 p.2)
    (hbm : ∃ (bm : Addr) (ob : Obj), mg "__builtins__" = some (.ref bm) ∧ bm ≠ builtinsNs ∧ s₁.heap.get? bm = some ob ∧ ob.cls = .type "module" ∧ ob.dict = some builtinsNs ∧ ob.data = .plain) (ha : s₁.heap.get? a = some (lstO vs)) (hi : IntsAre vs ns) (hl : ns.length ≤ sizeLine) (hr : Room k callerA)
    (F : ∀ base : Heap, K.In base → base.Ns mainGlobals mg → (∀ p ∈ cs, GxR.TabB base mg p.1 p.2) → FnG P w K mg base cls (cs.map (·.2)) k fa fd [x] c) (hbind : ∀ (s : Shared) (u : Value), BindsTo s fd ⟨[u], []⟩ [(x, u)])
    (hc : ∃ h', c [.rol (ns.map D.int)] [] = .ok (.bl true) h') : codeAny (model P w) callerA (.call (.ref fa) ⟨[.ref a], []⟩) (fun r s' => r = .ok (.ret (.bool true)) ∧ OldK s₁.heap s'.heap ∧ s'.os = s₁.os ∧ AllBare s'.gens) s₁ := by
  obtain ⟨mm, om, esm, epm, gm, dm, rm⟩ := hsm
  obtain ⟨H, eH⟩ : ∃ H, H = scrH K (cs.map (·.2)) om a vs ns := ⟨_, rfl⟩
  have or : ∀ {b u}, H b = some u → (b ∈ cs.map (·.2) ∧ u = .tbl #[]) ∨ (b = a ∧ K.lookup a = none ∧ u = .frz (lstO vs) (.lst (ns.map V.int))) ∨ (b = sysModules ∧ u = smO om) := fun h => by rw [eH] at h; exact scrH_or h
  have ofT : ∀ {b}, b ∈ cs.map (·.2) → ∃ p ∈ cs, b = p.2 := fun h => by
    obtain ⟨z, hz, e⟩ := List.mem_map.mp h
    exact ⟨z, hz, e.symm⟩
  have tS : ∀ p ∈ cs, p.2 ≠ sysModules := fun p hp z => by
    have y := hT p hp
    rw [z, gm] at y
    cases y
    cases dm
  have aS : a ≠ sysModules := fun z => by
    rw [z, gm] at ha
    cases ha
    cases dm
  have atT : ∀ p ∈ cs, H p.2 = some (.tbl #[]) := fun p hp => by
    rw [eH]
    unfold scrH
    rw [if_neg (tS p hp)]
    exact if_pos (List.mem_map.mpr ⟨p, hp, rfl⟩)
  have atS : H sysModules = some (smO om) := by
    rw [eH]
    exact if_pos rfl
  -- what is neither a list nor an empty table is not tracked
  have off : ∀ {b o}, s₁.heap.get? b = some o → (∀ us n, o.data ≠ .seq us n) → o.data ≠ .fields #[] → b ≠ sysModules → H b = none := fun {b o} e n1 n2 n3 => by
    cases q : H b with
    | none => rfl
    | some u =>
      rcases or q with ⟨m, _⟩ | ⟨m, _, _⟩ | ⟨m, _⟩
      rotate_left 2
      · exact absurd m n3
      · obtain ⟨p, hp, rfl⟩ := ofT m
        rw [hT p hp] at e
        cases e
        exact absurd rfl n2
      · rw [m, ha] at e
        cases e
        exact absurd rfl (n1 _ _)
  have offD : ∀ {b o es ep}, b ≠ sysModules → s₁.heap.get? b = some o → o.data = .dict es ep → H b = none := fun n e d => off e (fun _ _ z => by rw [d] at z; cases z) (fun z => by rw [d] at z; cases z) n
  have nsK : ∀ {b m}, b ≠ sysModules → s₁.heap.Ns b m → (hidT s₁.heap H).Ns b m := fun n ⟨o, es, ep, e, d, r⟩ => ⟨o, es, ep, hidT_get e (offD n e d), d, r⟩
  have nG : mainGlobals ≠ sysModules := by decide
  have nB : builtinsNs ≠ sysModules := by decide
  have nC : cStatics ≠ sysModules := by decide
  have hK : K.In (hidT s₁.heap H) := fun b o e => hidT_get (KX b o e) (by
    cases q : H b with
    | none => rfl
    | some u =>
      rcases or q with ⟨m, _⟩ | ⟨m, n, _⟩ | ⟨m, _⟩
      · obtain ⟨p, hp, rfl⟩ := ofT m
        rw [nT p hp] at e
        cases e
      · rw [m, n] at e
        cases e
      · rw [m, nsm] at e
        cases e)
  have hM : L2.Mod K mg (hidT s₁.heap H) := ⟨hK, nsK nG hns, ⟨mb, nsK nB hb, hbb⟩, by
    obtain ⟨mc, h1, h2⟩ := hlim
    exact ⟨mc, nsK nC h1, h2⟩⟩
  have TB : ∀ p ∈ cs, GxR.TabB (hidT s₁.heap H) mg p.1 p.2 := fun p hp => by
    refine ⟨?_, ?_, fun z => ?_⟩
    · obtain ⟨o, us, file, tf, flags, tg, inF, text, tt, e1, r1, r2, r3, rr⟩ := C p hp
      refine ⟨o, us, file, tf, flags, tg, inF, text, tt, hidT_get e1 (off e1 (fun _ _ z => by rw [r2] at z; cases z) (fun z => ?_) fun z => ?_), r1, r2, r3, rr⟩
      · rw [r2] at z
        cases z
        exact absurd r3 (by simp)
      · rw [z, gm] at e1
        cases e1
        rw [dm] at r2
        cases r2
    · obtain ⟨a1, ob, b1, b2, b3, b4, b5, b6⟩ := hbm
      refine ⟨a1, ob, b1, b2, fun q => ?_, fun q => ?_, hidT_get b3 (off b3 (fun _ _ z => by rw [b6] at z; cases z) (fun z => by rw [b6] at z; cases z) fun z => by rw [z, gm] at b3; cases b3; rw [dm] at b6; cases b6), b4, b5, b6⟩
      · obtain ⟨ou, es, ep, e, hd, _⟩ := hns
        rw [← q, b3] at e
        cases e
        rw [b6] at hd
        cases hd
      · rw [q, hT p hp] at b3
        cases b3
        cases b6
    · obtain ⟨ou, es, ep, e, hd, _⟩ := hns
      rw [z, hT p hp] at e
      cases e
      cases hd
  have rv := vals_ints hi
  have hok : HOk P w H s₁.heap := fun b u z => by
    rcases or z with ⟨m, rfl⟩ | ⟨rfl, _, rfl⟩ | ⟨rfl, rfl⟩
    rotate_left 2
    · exact ⟨gm, ⟨_, gm⟩, fun h1 h2 e k => k _ e⟩
    · obtain ⟨p, hp, rfl⟩ := ofT m
      exact hT p hp
    · exact ⟨ha, by rw [List.length_map]; exact hl, vs, 0, rv, ha⟩
  have hS : SqR K H a (ns.map V.int) := by
    cases q : K.lookup a with
    | some o =>
      have e := KX a o q
      rw [ha] at e
      cases e
      exact .inr ⟨_, vs.toArray, 0, q, rfl, rfl, rfl, by rw [List.size_toArray, hi.length]; exact hl, by simpa using rv⟩
    | none =>
      refine .inl ⟨lstO vs, ?_⟩
      rw [eH]
      unfold scrH
      rw [if_neg aS, if_neg, if_pos ⟨rfl, by rw [q]; rfl⟩]
      intro m
      obtain ⟨p, hp, e⟩ := ofT m
      have := hT p hp
      rw [← e, ha] at this
      cases this
  have e0 : Env0 P w K mg (hidT s₁.heap H) callerA [] s₁ H := ⟨rfl, hM, fun b o e => of_hidT e, Nat.le_of_eq (hidT_size _ _), trivial, fun b hb => (nomatch hb), hok, .of_eq hg⟩
  have hH : RH K cls (cs.map (·.2)) [] H [] := ⟨rfl, List.nodup_nil, fun n b o e _ => (nomatch e), fun b hb => by
    obtain ⟨p, hp, rfl⟩ := ofT hb
    exact ⟨List.not_mem_nil, #[], atT p hp, by simp [TriplesOk]⟩, List.not_mem_nil, _, atS⟩
  obtain ⟨h', hc⟩ := hc
  have run := (F _ hK (nsK nG hns) TB).run callerA [] s₁ H ⟨[.ref a], []⟩ [.ref a] [.ref a] (fun v H' => v = .bl true ∧ H' sysModules = some (smO om)) (fun _ _ _ => False) rfl hr e0 (hbind s₁ (.ref a)) (.cons rfl .nil) ⟨[], [], _, hH, .cons (.rol hS (RVs.ints ns)) .nil, by
    rw [hc]
    intro ρ' H' v e9 _ r
    cases r
    refine ⟨rfl, e9.keep _ _ atS List.not_mem_nil fun z => ?_⟩
    obtain ⟨p, hp, y⟩ := ofT z
    exact tS p hp y.symm⟩
  refine codeAny_mono run fun r s' z => ?_
  rcases r with e | fl
  · obtain ⟨_, _, _, _, _, _, _, _, _, _, _, _, bad⟩ := z
    exact bad.elim
  cases fl with
  | next => exact z.elim
  | brk => exact z.elim
  | cont => exact z.elim
  | ret u =>
    obtain ⟨v, H', os, bare, un, hok', r', q⟩ := z
    obtain ⟨rfl, qS⟩ := (show v = .bl true ∧ H' sysModules = some (smO om) from q)
    have r' : u = Value.bool true := r'
    subst r'
    have old : ∀ b o, s₁.heap.get? b = some o → (∃ p ∈ cs, b = p.2 ∧ ∃ more : Array Value, s'.heap.get? b = some (tblO more)) ∨ s'.heap.get? b = some o := fun b o e => by
      cases q : H b with
      | none => exact .inr (un.keep b o e q (fun z => nomatch z) (fun z => nomatch z))
      | some u =>
        rcases or q with ⟨m, rfl⟩ | ⟨rfl, _, rfl⟩ | ⟨rfl, rfl⟩
        rotate_left 2
        · have y : s'.heap.get? sysModules = some om := (hok' _ _ qS).1
          rw [gm] at e
          cases e
          exact .inr y
        · obtain ⟨p, hp, rfl⟩ := ofT m
          obtain ⟨more, y⟩ := un.tbls p.2 #[] q
          exact .inl ⟨p, hp, rfl, _, hok' p.2 _ y⟩
        · have y := un.frzs _ _ _ q
          have e1 := (hok' _ _ y).1
          rw [ha] at e
          cases e
          exact .inr e1
    refine And.intro rfl ⟨⟨fun b o e => ?_, fun b o e => ?_⟩, os, bare⟩
    · rcases old b o e with ⟨p, hp, rfl, more, y⟩ | y
      · have t := hT p hp
        rw [t] at e
        cases e
        exact .inr (.inl ⟨((C p hp).tab t).isCodeTable, rfl, #[], more, rfl, by rw [Array.empty_append]; exact y⟩)
      · exact .inl y
    · rcases old b o e with ⟨p, hp, rfl, more, y⟩ | y
      · exact ⟨_, y⟩
      · exact ⟨_, y⟩
end
/-- what is known of the law's def at the head's heap h -/
def LawG (l : PySem.W.OpenLaw) (w : World) (K : PySem.W.Frag) (k n : Nat) (x : Str) (mg : Str → Option Value) (fa : Addr) (h : Heap) : Prop :=
  ∃ (fd : FuncData) (cls : List Addr) (cs : List (Addr × Addr)) (c : FN), (∀ p ∈ cs, h.get? p.2 = some (tblO #[])) ∧ (∀ p ∈ cs, K.lookup p.2 = none) ∧ (∀ p ∈ cs, PySem.W.CodeHd h p.1 p.2) ∧ K.lookup sysModules = none ∧ (∃ mm, h.Ns sysModules mm) ∧ (∀ (s : Shared) (u : Value), BindsTo s fd ⟨[u], []⟩ [(x, u)]) ∧
    (∀ ns : List Int, ns.length ≤ n → (∀ z ∈ ns, Builtin.Int.intBits z ≤ 1048576) → ∃ h', c [.rol (ns.map D.int)] [] = .ok (.bl true) h') ∧
    ∀ base : Heap, K.In base → base.Ns mainGlobals mg → (∀ p ∈ cs, GxR.TabB base mg p.1 p.2) → FnG l.prog w K mg base cls (cs.map (·.2)) k fa fd [x] c
theorem walkG {l : PySem.W.OpenLaw} {n k : Nat} {q : Program} {loose : List Str} {XP : (Str → Option Value) → Heap → Prop} {YP : World → Heap → Prop} {d : DefRec} {K : Params → PySem.W.Frag} {x : Str}
    (hn : l.most = some n) (hn2 : n ≤ sizeLine) (hdf : d.params.defaults = []) (hr : Room k callerA) (hY : ∀ (w : World) (h : Heap), YP w h → (K w.params).In h) (F : ∀ (w : World) (mg mb : Str → Option Value) (mean : ExcName → Option Value) (fa : Addr) (h : Heap), Top q (PySem.W.looseW q loose) mean mg mb h → YP w h → (K w.params).In h → h.Ns mainGlobals mg → mg d.name = some (.ref fa) → LawG l w (K w.params) k n x mg fa h) : PySem.W.WalkO q loose XP YP l.row.toRowW d [] (fun f vs => PySem.call f vs) := by
  refine Att.attach_callB hn hdf fun w s₀ s₁ mg mb fa o pm cd doc a vs ns G Y _ _ _ hmg hobj hints hlen hbits hg => ?_
  obtain ⟨fd, cls, cs, c, hT, nT, C, nsm, hsm, hb, hsp, hF⟩ := F w mg mb _ fa _ G.T Y (hY w _ Y) G.T.g hmg
  exact law_callG (hY w _ Y) G.T.g G.T.b G.T.builtins G.T.nolimit hg hsm nsm hT nT C G.T.bmain hobj hints (Nat.le_trans hlen hn2) hr hF hb (hsp ns hlen hbits)
end Mi

namespace Mi
open L2 PySem PySem.Spec PyProof.Rows

/-! ### dicts that are written out: {}, {'k': e} -/
def cD0 : EF := fun _ h => .ok (.ref h.length) (h ++ [.dic []])
def cD1 (k : Str) (F : EF) : EF := fun ε h => (F ε (h ++ [.dic []])).bind fun d h2 => match h2[h.length]? with
  | some (.dic []) => .ok (.ref h.length) (h2.set h.length (.dic [(.inr k, d)]))
  | _ => .stuck
section
variable {X : Cx} {W : WX} {cls ts : List Addr} {e : Expr} {F : EF} {pos : Pos} {x : Str}
theorem e_d0 : E' X cls ts W (.Dict [] [] pos) cD0 := ⟨fun pins s σ H Q I ⟨ρ, ε, h, hH, hE, q⟩ => pe_dnewK.run pins s σ H Q I (post_newD hH .nil q)⟩
theorem e_d1 {k : Str} {j : Nat} {kp : Pos} (he : E' X cls ts W e F) : E' X cls ts W (.Dict [some (.Constant (.str k) j kp)] [e] pos) (cD1 k F) := by
  refine ⟨fun pins s σ H Q I ⟨ρ, ε, h, hH, hE, q⟩ => (pe_disp (pps_cons pe_str he pps_nil) rfl rfl (List.cons_ne_nil _ _) (Nat.le_of_ble_eq_true rfl)).run pins s σ H Q I fun p hp => ?_⟩
  have e1 := ext_new (ts := ts) (ρ := ρ) (u := .dK []) hp
  have hH1 : RH X.K cls ts (ρ ++ [p]) (upd H p (.dK [])) (h ++ [.dic []]) := hH.new hp ⟨[], upd_same, .nil⟩
  refine tG_bind hH1 (hE.mono e1) (q.ext e1) fun ρ2 H2 y h2 d _ e2 hH2 ry hE2 q2 => ?_
  split at q2 <;> first | exact q2.elim | skip
  rename_i ed
  have gp : ρ2[h.length]? = some p := e2.get (by rw [← hH.len]; exact get_new)
  obtain ⟨us, k1, r1⟩ := hH2.dic gp ed
  cases r1
  have eP := ext_put (u := .dK [(.inr k, y)]) (List.mem_of_getElem? gp) hH2
  refine ⟨k1, [(.inr k, y)], rfl, Nat.le_of_ble_eq_true rfl, ?_⟩
  exact q2 _ _ _ eP (hH2.put gp ⟨_, upd_same, .cons ⟨rfl, ry.mono eP⟩ .nil⟩) (.ref gp)

/-! ### -e; a built-in type as a value -/
def cNeg (F : EF) : EF := fun ε h => (F ε h).bind fun d h1 => match d with
  | .int i => .ok (.int (-i)) h1
  | _ => .stuck
theorem e_neg (he : E' X cls ts W e F) : E' X cls ts W (.UnaryOp .USub e pos) (cNeg F) := by
  refine ⟨fun pins s σ H Q I ⟨ρ, ε, h, hH, hE, q⟩ => (pe_un un_neg he).run pins s σ H Q I (tG_bind hH hE q fun ρ1 H1 x h1 d _ e1 hH1 rx hE1 p1 => ?_)⟩
  cases rx <;> first | exact p1.elim | skip
  exact ⟨_, rfl, post_val hH1 (.int _) p1⟩
theorem e_bty {n : String} (hg : Gl X x) (hm : X.mg x = none) (hv : bootBuiltins x = some (.type n)) (hn : x ≠ "__name__" := by decide) (hd : (x == ("__debug__" : Str)) = false := by decide) : E' X cls ts W (.Name x pos) (cC (.ty n)) :=
  e_c (fun _ _ _ => .ty n) (pe_bltn hg hm hv rfl hn hd)
end

/-! ### a def that is known -/
structure Kd (K : PySem.W.Frag) (mg : Str → Option Value) (x : Str) (st : Stmt) (f : Addr) (cdv : Value) (fd : FuncData) : Prop where
  ex : ∃ (oc : Value) (od : Option Addr) (kV doc pm : Value) (an : Option Addr) (ct : Value) (osl : Array (Option Value)), fd = PySem.W.fnOf x x (defArgs st) (defBody st) (defScope st) .none kV doc pm an cdv ct ∧ K.lookup f = some ⟨oc, od, .func fd, osl⟩
  kp : PySem.W.keepIn K (.ref f) = true ∧ PySem.W.codeIn K cdv x = true
  mg : mg x = some (.ref f)
/-- how a def without defaults binds -/
def Bd (x : Str) (st : Stmt) (ps : List Str) : Prop := ∀ (kV doc pm : Value) (an : Option Addr) (cdv ct : Value) (us : List Value), us.length = ps.length → bindArgs (PySem.W.fnOf x x (defArgs st) (defBody st) (defScope st) .none kV doc pm an cdv ct) ⟨us, []⟩ = pure (ps.zip us)
/-- how it binds where the last arguments are named: g puts them in their order -/
def BdK (x : Str) (st : Stmt) (ps ks : List Str) (m : Nat) (g : List Value → List Value → List Value) : Prop := ∀ (kV doc pm : Value) (an : Option Addr) (cdv ct : Value) (us ws : List Value), us.length = m → ws.length = ks.length →
  bindArgs (PySem.W.fnOf x x (defArgs st) (defBody st) (defScope st) .none kV doc pm an cdv ct) ⟨us, ks.zip ws⟩ = pure (ps.zip (g us ws))
/-- a def that may be called -/
structure Ca (P : Program) (w : World) (K : PySem.W.Frag) (mg : Str → Option Value) (base : Heap) (cls ts : List Addr) (k : Nat) (x : Str) (st : Stmt) (ps : List Str) (c : FN) : Prop where
  ex : ∃ f cdv fd, Kd K mg x st f cdv fd ∧ FnG P w K mg base cls ts k f fd ps c
theorem Kd.binds {K : PySem.W.Frag} {mg : Str → Option Value} {x : Str} {st : Stmt} {f : Addr} {cdv : Value} {fd : FuncData} {ps : List Str} (D : Kd K mg x st f cdv fd) (b : Bd x st ps) : Binds K fd ps [] := by
  obtain ⟨oc, od, kV, doc, pm, an, ct, osl, rfl, _⟩ := D.ex
  exact .all (b kV doc pm an cdv ct)
theorem Kd.bindsTo {K : PySem.W.Frag} {mg : Str → Option Value} {x : Str} {st : Stmt} {f : Addr} {cdv : Value} {fd : FuncData} {ps ks : List Str} {m : Nat} {g : List Value → List Value → List Value} {us ws : List Value} {s : Shared} (D : Kd K mg x st f cdv fd) (b : BdK x st ps ks m g) (h1 : us.length = m) (h2 : ws.length = ks.length) :
    BindsTo s fd ⟨us, ks.zip ws⟩ (ps.zip (g us ws)) := by
  obtain ⟨oc, od, kV, doc, pm, an, ct, osl, rfl, _⟩ := D.ex
  exact .of_eq (b kV doc pm an cdv ct us ws h1 h2)
/-- a def by its body -/
theorem Kd.fn {P : Program} {w : World} {K : PySem.W.Frag} {mg : Str → Option Value} {base : Heap} {cls ts : List Addr} {k : Nat} {x : Str} {st : Stmt} {f : Addr} {cdv : Value} {fd : FuncData} {N ps : List Str} {B : SF} (D : Kd K mg x st f cdv fd) (S : FnScope N ps (defScope st))
    (hbody : ∀ (A : Around) (outer : List Env) (s : Shared) (H : Hp) (E : XK), (A.deeper (envOfC x (defScope st) s.heap.objs.size f cdv)).guards = some [] → Room k (A.deeper (envOfC x (defScope st) s.heap.objs.size f cdv)) →
      Takes (cxOf (L2.CX P w) P w K mg base N x (defScope st) f cdv A outer s H E) (fun c d _ H => E c d H) → Ss' (cxOf (L2.CX P w) P w K mg base N x (defScope st) f cdv A outer s H E) cls ts (fun c d _ H => E c d H) (defBody st) B) :
    FnG P w K mg base cls ts (k + 1) f fd ps (runB ps.length N.length B) := by
  obtain ⟨oc, od, kV, doc, pm, an, ct, osl, rfl, lk⟩ := D.ex
  exact FnG.of lk D.kp.2 S hbody
def ALen (A : AF) (n : Nat) : Prop := ∀ ε h ds h', A ε h = .ok ds h' → ds.length = n
theorem aLen0 : ALen aNil 0 := fun _ _ _ _ e => by cases e; rfl
theorem aLenS {F : EF} {A : AF} {n : Nat} (i : ALen A n) : ALen (aCons F A) (n + 1) := fun ε h ds h' e => by
  unfold aCons at e
  cases q : F ε h with
  | ok d h1 =>
    rw [q, Res.bind_ok] at e
    cases q2 : A ε h1 with
    | ok es h2 =>
      rw [q2] at e
      cases e
      rw [List.length_cons, i _ _ _ _ q2]
    | exc x h2 => rw [q2] at e; cases e
    | stuck => rw [q2] at e; cases e
  | exc x h1 => rw [q] at e; cases e
  | stuck => rw [q] at e; cases e
section
variable {X : Cx} {W : WX} {cls ts : List Addr} {k : Nat} {st : Stmt} {ps ks : List Str} {c : FN} {x : Str} {p pos : Pos} {e : Expr} {es : List Expr} {kws : List Keyword} {A B : AF} {m : Nat}
/-- f(e, ..) -/
theorem e_ca (C : Ca X.prog X.w X.K X.mg X.base cls ts k x st ps c) (b : Bd x st ps) (hgu : X.A.guards = some []) (hr : Room k X.A) (tk : Takes X W) (hg : Gl X x) (ha : A' X cls ts W (e :: es) A) (hdb : (x == ("__debug__" : Str)) = false := by decide)
    (he : starEach (e :: es) X.env = (false, eval e X.env) :: starEach es X.env := by rfl) (hpl : (backTo pos (starEach es X.env)).any (·.1) = false := by rfl) : E' X cls ts W (.Call (.Name x p) (e :: es) [] pos) (cFn c A) := by
  obtain ⟨f, cdv, fd, D, F⟩ := C.ex
  exact e_call F hgu hr tk hg D.mg D.kp.1 (D.binds b) ha hdb he hpl
theorem e_ca0 (C : Ca X.prog X.w X.K X.mg X.base cls ts k x st ps c) (b : Bd x st ps) (hgu : X.A.guards = some []) (hr : Room k X.A) (tk : Takes X W) (hg : Gl X x) (hdb : (x == ("__debug__" : Str)) = false := by decide) : E' X cls ts W (.Call (.Name x p) [] [] pos) (cFn c aNil) := by
  obtain ⟨f, cdv, fd, D, F⟩ := C.ex
  exact e_call0 F hgu hr tk hg D.mg D.kp.1 (D.binds b) hdb
/-- f(k = e, ..), every argument named -/
theorem e_caK {gv : List Value → List Value} {gV : List V → List V} {gD : List D → List D} (C : Ca X.prog X.w X.K X.mg X.base cls ts k x st ps c) (b : BdK x st ps ks 0 (fun _ ws => gv ws)) (hgu : X.A.guards = some []) (hr : Room k X.A) (tx : Takes X W) (hg : Gl X x)
    (hV : ∀ (zs : List V) (ws : List Value), Vals zs ws → zs.length = ks.length → Vals (gV zs) (gv ws)) (hgD : ∀ (ρ : List Addr) (H : Hp) (zs : List V) (es : List D), RVs X.K ρ H zs es → zs.length = ks.length → RVs X.K ρ H (gV zs) (gD es))
    (hkw : PK X kws (tA X.K cls ts W B)) (hn : ALen B ks.length) (hall : (backToKw pos (keywordEach kws X.env)).all (·.1.isSome) = true := by rfl) (hks : (backToKw pos (keywordEach kws X.env)).filterMap (·.1) = ks := by rfl)
    (hdb : (x == ("__debug__" : Str)) = false := by decide)
    (hpl : (backToKw pos (keywordEach kws X.env)).any (·.1.isNone) = false := by rfl) :
    E' X cls ts W (.Call (.Name x p) [] kws pos) (cFn (fun es h => c (gD es) h) B) := by
  obtain ⟨f, cdv, fd, Dd, F⟩ := C.ex
  refine ⟨fun pins s σ H Q I ⟨ρ, ε, h, hH, hE, q⟩ => ?_⟩
  have q1 : tA X.K cls ts W B σ H fun zs H2 => zs.length = ks.length ∧ Rdy X.K cls ts c (fun u dd H' => W u dd σ H') Q (gV zs) H2 :=
    tG_bind hH hE q fun ρ2 H2 zs h2 es ee e2 hH2 rz hE2 p2 => by
      have hl : zs.length = ks.length := by rw [rz.length]; exact hn _ _ _ _ ee
      exact ⟨hl, ρ2, h2, gD es, hH2, hgD _ _ _ _ rz hl, p2⟩
  refine wpAny_Call_Name_kw (ld_glob I hg Dd.mg ?_ hdb)
  refine PySem.W.callWith_KW0 I.kIn Dd.kp.1 hall (thn (hkw.run pos pins s σ H _ I q1) fun ws s2 ⟨zs, H2, I2, rz, hl, ρ2, h2, ds, hH2, rv, p2⟩ => ⟨I2.kIn, ?_⟩) hpl
  rw [hks]
  exact run_g F hgu hr tx (fun _ => Dd.bindsTo b rfl (by rw [← rz.length]; exact hl)) I2 (hV _ _ rz hl) hH2 rv p2
end
end Mi

namespace Mi
open L2 PySem PySem.Spec PyProof.Rows

theorem hu65 {k : Nat} {A : Around} (r : Room k A) : A.units + 65 < cLine := by
  have := r.un
  omega
theorem e_globE {X : Cx} {W : WX} {cls ts : List Addr} {x : Str} {pos : Pos} {i : Int} (hg : Gl X x) (hm : ∃ u, X.mg x = some u ∧ RelV (.int i) u) (hd : (x == ("__debug__" : Str)) = false := by decide) : E' X cls ts W (.Name x pos) (cC (.int i)) := by
  obtain ⟨u, hm, r⟩ := hm
  exact e_glob hg hm r (fun _ _ _ => .int i) hd
def between (a b : Str) (c : Nat) : Bool := !decide ([c] < a.cps.toList) && !decide (b.cps.toList < [c])
/-- a generator expression's scope without captured names -/
def genC (scope : Scope) (x : Str) : Bool := (match scope.kind with | .function => true | _ => false) && !scope.isCoroutine && (scope.names.all fun y => match y.2 with | .local => true | _ => false) &&
  (match scope.names.lookup (".0" : Str) with | some .local => true | _ => false) && (match scope.names.lookup x with | some .local => true | _ => false)
theorem genS_by {env : Env} {scope : Scope} {x : Str} (h : genC scope x = true) : GxR.GenS env scope x := by
  simp only [genC, Bool.and_eq_true, List.all_eq_true] at h
  obtain ⟨⟨⟨⟨h1, h2⟩, h3⟩, h4⟩, h5⟩ := h
  refine ⟨?_, by simpa using h2, fun y hy e => ?_, ?_, ?_, fun y hy e => ?_⟩
  · split at h1 <;> first | assumption | cases h1
  · have := h3 y hy
    rw [e] at this
    cases this
  · split at h4 <;> first | assumption | cases h4
  · split at h5 <;> first | assumption | cases h5
  · have := h3 y hy
    rw [e] at this
    cases this
theorem tabIn_of {K : PySem.W.Frag} {x : Str} {f c P : Addr} {oc ox : Value} {od oy : Option Addr} {fd : FuncData} {sl sm : Array (Option Value)} {vs : Array Value} (a : PySem.W.nsIn K mainGlobals x = some (some (.ref f))) (l : K.lookup f = some ⟨oc, od, .func fd, sl⟩) (hc : fd.code = .ref c)
    (lc : K.lookup c = some ⟨ox, oy, .fields vs, sm⟩) (h11 : (vs[11]? : Option Value) = some (.ref P)) : PySem.W.tabIn K x = some (c, P) := by
  unfold PySem.W.tabIn
  simp only [a, l, hc, lc, h11]
/-- the named arguments in the parameters' order -/
def pm0 {α : Type} (xs : List α) : List α := xs
theorem pmV0 {ks : List Str} (zs : List V) (ws : List Value) (r : Vals zs ws) (_ : zs.length = ks.length) : Vals (pm0 zs) (pm0 ws) := r
theorem pmD0 {K : PySem.W.Frag} {ρ : List Addr} {H : Hp} {ks : List Str} (zs : List V) (es : List D) (r : RVs K ρ H zs es) (_ : zs.length = ks.length) : RVs K ρ H (pm0 zs) (pm0 es) := r
end Mi

namespace Mi
open L2 PySem PySem.Spec PyProof.Rows

/-! ### reckoning -/
section
variable {F G : EF} {A : AF} {T : TF} {a b c : SF} {ε ε1 : AEnv} {h h1 h2 h3 : AH} {d x y : D} {ds es : List D} {i : Nat} {f : Op2} {k : Bool}
theorem sSeq_nx (e : a ε h = .nx ε1 h1) : sSeq a b ε h = b ε1 h1 := by
  unfold sSeq
  rw [e]
  rfl
theorem sSeq_ret (e : a ε h = .ret d h1) : sSeq a b ε h = .ret d h1 := by
  unfold sSeq
  rw [e]
  rfl
theorem sSet_eq (e : F ε h = .ok d h1) (hi : i < ε.length := by exact Nat.le_of_ble_eq_true rfl) : sSet i F ε h = .nx (ε.set i (some d)) h1 := by
  unfold sSet
  rw [e, Res.st_ok, if_pos hi]
theorem sRet_eq (e : F ε h = .ok d h1) : sRet F ε h = .ret d h1 := by
  unfold sRet
  rw [e]
  rfl
theorem sExpr_eq (e : F ε h = .ok d h1) : sExpr F ε h = .nx ε h1 := by
  unfold sExpr
  rw [e]
  rfl
theorem sIf_eq (e : T ε h = .ok k h1) : sIf T a b ε h = if k = true then a ε h1 else b ε h1 := by
  unfold sIf
  rw [e]
  rfl
theorem sIf_t (e : T ε h = .ok true h1) : sIf T a b ε h = a ε h1 := by rw [sIf_eq e, if_pos rfl]
theorem sIf_f (e : T ε h = .ok false h1) : sIf T a b ε h = b ε h1 := by rw [sIf_eq e, if_neg Bool.false_ne_true]
theorem cBin_eq (e1 : F ε h = .ok x h1) (e2 : G ε h1 = .ok y h2) : cBin f F G ε h = f x y h2 := by
  unfold cBin
  rw [e1, Res.bind_ok, e2, Res.bind_ok]
theorem aCons_eq (e1 : F ε h = .ok x h1) (e2 : A ε h1 = .ok ds h2) : aCons F A ε h = .ok (x :: ds) h2 := by
  unfold aCons
  rw [e1, Res.bind_ok, e2, Res.bind_ok]
theorem aNil_eq : aNil ε h = .ok [] h := rfl
theorem cFn_eq {f : FN} (e : A ε h = .ok ds h1) : cFn f A ε h = f ds h1 := by
  unfold cFn
  rw [e, Res.bind_ok]
theorem cCall_eq {f : OpN} (e : A ε h = .ok ds h1) : cCall f A ε h = f ds h1 := by
  unfold cCall
  rw [e, Res.bind_ok]
theorem cLst_eq (e : A ε h = .ok ds h1) (hl : ds.length ≤ sizeLine) : cLst A ε h = .ok (.ref h1.length) (h1 ++ [.lst ds]) := by
  unfold cLst
  rw [e, Res.bind_ok, if_pos hl]
theorem cTup_eq (e : A ε h = .ok ds h1) (hl : ds.length ≤ sizeLine) : cTup A ε h = .ok (.tup ds) h1 := by
  unfold cTup
  rw [e, Res.bind_ok, if_pos hl]
theorem tVal_eq (e : F ε h = .ok (.bl k) h1) : tVal F ε h = .ok k h1 := by
  unfold tVal
  rw [e]
  rfl
theorem cMeth_eq {T : String} {f : OpM} (e : F ε h = .ok d h1) (hT : isTy T d h1 = true) (e2 : A ε h1 = .ok ds h2) : cMeth T f F A ε h = f d ds h2 := by
  unfold cMeth
  rw [e, Res.bind_ok, if_pos hT, e2, Res.bind_ok]
theorem cIf_eq (e : T ε h = .ok k h1) : cIf T F G ε h = if k = true then F ε h1 else G ε h1 := by
  unfold cIf
  rw [e, Res.bind_ok]
theorem tOr_t {T2 : TF} (e : T ε h = .ok true h1) : tOr' T T2 ε h = .ok true h1 := by
  unfold tOr'
  rw [e, Res.bind_ok, if_pos rfl]
theorem tOr_f {T2 : TF} (e : T ε h = .ok false h1) : tOr' T T2 ε h = T2 ε h1 := by
  unfold tOr'
  rw [e, Res.bind_ok, if_neg Bool.false_ne_true]
theorem tAnd_t {T2 : TF} (e : T ε h = .ok true h1) : tAnd' T T2 ε h = T2 ε h1 := by
  unfold tAnd'
  rw [e, Res.bind_ok, if_pos rfl]
theorem tAnd_f {T2 : TF} (e : T ε h = .ok false h1) : tAnd' T T2 ε h = .ok false h1 := by
  unfold tAnd'
  rw [e, Res.bind_ok, if_neg Bool.false_ne_true]
theorem tNot_eq (e : T ε h = .ok k h1) : tNot' T ε h = .ok (!k) h1 := by
  unfold tNot'
  rw [e, Res.bind_ok]
theorem cAnd_t (e : F ε h = .ok (.bl true) h1) : cAnd F G ε h = G ε h1 := by
  unfold cAnd
  rw [e, Res.bind_ok]
  rfl
theorem cAnd_f (e : F ε h = .ok (.bl false) h1) : cAnd F G ε h = .ok (.bl false) h1 := by
  unfold cAnd
  rw [e, Res.bind_ok]
  rfl
theorem sPar2_eq {j : Nat} (e1 : F ε h = .ok x h1) (e2 : G ε h1 = .ok y h2) (hi : i < ε.length ∧ j < ε.length := by exact ⟨Nat.le_of_ble_eq_true rfl, Nat.le_of_ble_eq_true rfl⟩) : sPar2 i j F G ε h = .nx ((ε.set i (some x)).set j (some y)) h2 := by
  unfold sPar2
  rw [e1, Res.st_ok, e2, Res.st_ok, if_pos hi]
theorem sPar3_eq {j l : Nat} {I : EF} {z : D} (e1 : F ε h = .ok x h1) (e2 : G ε h1 = .ok y h2) (e3 : I ε h2 = .ok z h3) (hi : i < ε.length ∧ j < ε.length ∧ l < ε.length := by exact ⟨Nat.le_of_ble_eq_true rfl, Nat.le_of_ble_eq_true rfl, Nat.le_of_ble_eq_true rfl⟩) : sPar3 i j l F G I ε h = .nx (((ε.set i (some x)).set j (some y)).set l (some z)) h3 := by
  unfold sPar3
  rw [e1, Res.st_ok, e2, Res.st_ok, e3, Res.st_ok, if_pos hi]
theorem cCut_eq {lo hi : OF} {l u : Option Int} (e1 : F ε h = .ok d h1) (e2 : lo ε h1 = .ok l h2) (e3 : hi ε h2 = .ok u h3) : cCut F lo hi ε h = cutD d l u h3 := by
  unfold cCut
  rw [e1, Res.bind_ok, e2, Res.bind_ok, e3, Res.bind_ok]
theorem oSome_eq {j : Int} (e : F ε h = .ok (.int j) h1) : oSome F ε h = .ok (some j) h1 := by
  unfold oSome
  rw [e, Res.bind_ok]
theorem runB_ret {np nN : Nat} {B : SF} (hl : ds.length = np) (e : B (ds.map some ++ List.replicate (nN - np) none) h = .ret d h1) : runB np nN B ds h = .ok d h1 := by
  unfold runB
  rw [if_pos hl, e]
end

/-! ### comprehensions -/
/-- with an invariant: I i acc h, acc what is found so far; the list stands at nD -/
theorem compGo_inv {it : AIt} {g : TF'} {t : TF} {F : EF} {nD : Nat} {ε0 : AEnv} (I : Nat → List D → AH → Prop) (n : Nat) (hn : it.len = n) (hs : n < sizeLine) (hD : ∀ i acc h, I i acc h → h[nD]? = some (.lst acc))
    (hl : ∀ i acc h, I i acc h → acc.length ≤ i)
    (step : ∀ i acc h, i < n → I i acc h → ∃ d ε1 k h1, it.item i h = some d ∧ g d ε0 h = some ε1 ∧ t ε1 h = .ok k h1 ∧
      ((k = false ∧ I (i + 1) acc h1) ∨ (k = true ∧ ∃ y h2, F ε1 h1 = .ok y h2 ∧ h2[nD]? = some (.lst acc) ∧ I (i + 1) (acc ++ [y]) (h2.set nD (.lst (acc ++ [y]))))))
    (fin : ∀ acc h, I n acc h → it.fin h = true) : ∀ (m i : Nat) (acc : List D) (h : AH), i + m = n → I i acc h → ∃ acc' h', compGo it g t F nD ε0 m i h = .ok () h' ∧ I n acc' h' := by
  intro m
  induction m with
  | zero =>
    intro i acc h e q
    have : i = n := by omega
    subst this
    refine ⟨acc, h, ?_, q⟩
    unfold compGo
    rw [if_pos (fin _ _ q)]
  | succ m ih =>
    intro i acc h e q
    obtain ⟨d, ε1, k, h1, e1, e2, e3, r⟩ := step i acc h (by omega) q
    rcases r with ⟨rfl, r⟩ | ⟨rfl, y, h2, e4, e5, r⟩
    · rw [show compGo it g t F nD ε0 (m + 1) i h = compGo it g t F nD ε0 m (i + 1) h1 from by simp [compGo, e1, e2, e3, noExc]]
      exact ih (i + 1) acc h1 (by omega) r
    · have l1 := hl _ _ _ q
      have l2 : acc.length < sizeLine := by omega
      rw [show compGo it g t F nD ε0 (m + 1) i h = compGo it g t F nD ε0 m (i + 1) (h2.set nD (.lst (acc ++ [y]))) from by simp [compGo, e1, e2, e3, e4, e5, l2, noExc]]
      exact ih (i + 1) _ _ (by omega) r
theorem cComp_inv {iF : IF} {it : AIt} {g : TF'} {t : TF} {F : EF} {own : List Nat} {ε : AEnv} {h h1 : AH} (hi : iF ε h = .ok it h1) (I : Nat → List D → AH → Prop) (n : Nat) (hn : it.len = n) (hs : n < sizeLine) (hD : ∀ i acc h, I i acc h → h[h1.length]? = some (.lst acc))
    (hl : ∀ i acc h, I i acc h → acc.length ≤ i) (h0 : I 0 [] (h1 ++ [.lst []]))
    (step : ∀ i acc h, i < n → I i acc h → ∃ d ε1 k h1', it.item i h = some d ∧ g d (wipeA ε own) h = some ε1 ∧ t ε1 h = .ok k h1' ∧
      ((k = false ∧ I (i + 1) acc h1') ∨ (k = true ∧ ∃ y h2, F ε1 h1' = .ok y h2 ∧ h2[h1.length]? = some (.lst acc) ∧ I (i + 1) (acc ++ [y]) (h2.set h1.length (.lst (acc ++ [y]))))))
    (fin : ∀ acc h, I n acc h → it.fin h = true) : ∃ acc h', cComp iF g t F own ε h = .ok (.ref h1.length) h' ∧ I n acc h' := by
  obtain ⟨acc, h', e, q⟩ := compGo_inv (it := it) (g := g) (t := t) (F := F) (ε0 := wipeA ε own) I n hn hs hD hl step fin n 0 [] (h1 ++ [.lst []]) (by omega) h0
  refine ⟨acc, h', ?_, q⟩
  unfold cComp
  rw [hi, Res.bind_ok, hn, e]
  rfl
/-! ### for -/
theorem forGo_inv {it : AIt} {g : TF'} {B : SF} (I : Nat → AEnv → AH → Prop) (n : Nat) (step : ∀ i ε h, i < n → I i ε h → ∃ d ε1 ε2 h2, it.item i h = some d ∧ g d ε h = some ε1 ∧ (B ε1 h = .nx ε2 h2 ∨ B ε1 h = .cnt ε2 h2) ∧ I (i + 1) ε2 h2)
    (fin : ∀ ε h, I n ε h → it.fin h = true) : ∀ (m i : Nat) (ε : AEnv) (h : AH), i + m = n → I i ε h → ∃ ε' h', forGo it g B m i ε h = .nx ε' h' ∧ I n ε' h' := by
  intro m
  induction m with
  | zero =>
    intro i ε h e q
    have : i = n := by omega
    subst this
    refine ⟨ε, h, ?_, q⟩
    unfold forGo
    rw [if_pos (fin _ _ q)]
  | succ m ih =>
    intro i ε h e q
    obtain ⟨d, ε1, ε2, h2, e1, e2, e3, r⟩ := step i ε h (by omega) q
    rw [show forGo it g B (m + 1) i ε h = forGo it g B m (i + 1) ε2 h2 from by rcases e3 with e3 | e3 <;> simp [forGo, e1, e2, e3]]
    exact ih (i + 1) ε2 h2 (by omega) r
theorem sFor_inv {iF : IF} {it : AIt} {g : TF'} {B : SF} {ε : AEnv} {h h1 : AH} (hi : iF ε h = .ok it h1) (I : Nat → AEnv → AH → Prop) (n : Nat) (hn : it.len = n) (h0 : I 0 ε h1)
    (step : ∀ i ε h, i < n → I i ε h → ∃ d ε1 ε2 h2, it.item i h = some d ∧ g d ε h = some ε1 ∧ (B ε1 h = .nx ε2 h2 ∨ B ε1 h = .cnt ε2 h2) ∧ I (i + 1) ε2 h2)
    (fin : ∀ ε h, I n ε h → it.fin h = true) : ∃ ε' h', sFor iF g B ε h = .nx ε' h' ∧ I n ε' h' := by
  obtain ⟨ε', h', e, q⟩ := forGo_inv (it := it) (g := g) (B := B) I n step fin n 0 ε h1 (by omega) h0
  refine ⟨ε', h', ?_, q⟩
  unfold sFor
  rw [hi, Res.st_ok, hn, e]

end Mi

namespace Mi
open L2 PySem PySem.Spec PyProof.Rows

/-! ### the defs that every law has: begun, dealt, pick -/
/-- the hand stands at n, its cells at m, it was asked c times -/
def Hand (h : AH) (n m : Nat) (c : Int) : Prop := m ≠ n ∧ ∃ (cells : List Int) (t : Int), cells.length ≤ 100 ∧ h[n]? = some (.lst [.ref m, .int t, .int c]) ∧ h[m]? = some (.lst (cells.map D.int))
/-- nothing but n, m has changed; new things may stand behind -/
structure Step (n m : Nat) (h h' : AH) : Prop where
  len : h.length ≤ h'.length
  keep : ∀ k, k ≠ n → k ≠ m → k < h.length → h'[k]? = h[k]?
theorem Step.refl {n m : Nat} {h : AH} : Step n m h h := ⟨Nat.le_refl _, fun _ _ _ _ => rfl⟩
theorem Step.trans {n m : Nat} {h h1 h2 : AH} (a : Step n m h h1) (b : Step n m h1 h2) : Step n m h h2 :=
  ⟨Nat.le_trans a.len b.len, fun k h1 h2 h3 => (b.keep k h1 h2 (Nat.lt_of_lt_of_le h3 a.len)).trans (a.keep k h1 h2 h3)⟩
theorem Step.set1 {n m : Nat} {h : AH} {o : O} : Step n m h (h.set n o) := ⟨by simp, fun k h1 h2 h3 => by rw [List.getElem?_set_ne (Ne.symm h1)]⟩
theorem Step.set2 {n m : Nat} {h : AH} {o : O} : Step n m h (h.set m o) := ⟨by simp, fun k h1 h2 h3 => by rw [List.getElem?_set_ne (Ne.symm h2)]⟩
theorem Step.app {n m : Nat} {h : AH} {os : List O} : Step n m h (h ++ os) := ⟨by simp, fun k h1 h2 h3 => by rw [List.getElem?_append_left h3]⟩
theorem pd_ints (h : AH) (k : Nat) : ∀ cells : List Int, omap (pd k h) (cells.map D.int) = some (cells.map PyData.int)
  | [] => rfl
  | c :: cs => by
    simp only [List.map_cons]
    unfold omap
    rw [pd_ints h k cs]
    cases k <;> rfl
theorem shaped_ints (cells : List Int) : SeqAt.shaped (.list (cells.map PyData.int)) = true := by
  have h1 : ∀ cs : List Int, PyData.canLayAll0 (cs.map PyData.int) = true := fun cs => by
    induction cs with
    | nil => simp [PyData.canLayAll0]
    | cons c cs ih => simp [PyData.canLayAll0, PyData.canLay0, ih]
  have h2 : ∀ cs : List Int, PyData.depthAll (cs.map PyData.int) = 0 := fun cs => by
    induction cs with
    | nil => simp [PyData.depthAll]
    | cons c cs ih => simp [PyData.depthAll, PyData.depth, ih]
  simp [SeqAt.shaped, PyData.canLay0, PyData.depth, h1, h2]
theorem eqv_ints (cells : List Int) : PyData.eqv (.list (cells.map PyData.int)) (.list []) = cells.isEmpty := by
  cases cells with
  | nil => simp [PyData.eqv, PyData.eqvAll]
  | cons c cs => simp [PyData.eqv, PyData.eqvAll]


def dealtTail : SF := (sSeq (sSet 3 (cBin opAdd (cBin opAdd (cBin opAdd (cBin opMod (cVar 2) (cC (.int 2147483629))) (cBin opMul (cBin opMul (cC (.int 16807)) (cBin opIx (cVar 0) (cC (.int 2)))) (cBin opIx (cVar 0) (cC (.int 2))))) (cBin opIx (cVar 0) (cC (.int 1)))) (cC (.int 97))))
    (sSeq (sSet 3 (cBin opMod (cBin opMul (cVar 3) (cC (.int 48271))) (cC (.int 2147483647))))
    (sSeq (sSet 3 (cBin opMod (cBin opAdd (cBin opAdd (cBin opMul (cVar 3) (cVar 3)) (cBin opMul (cC (.int 69621)) (cBin opIx (cVar 0) (cC (.int 2))))) (cC (.int 11))) (cC (.int 2147483587))))
    (sRet (cBin opMod (cBin opFdiv (cBin opMod (cBin opMul (cVar 3) (cBin opAdd (cBin opFdiv (cVar 3) (cC (.int 5))) (cC (.int 39373)))) (cC (.int 2147483563))) (cC (.int 128))) (cVar 1))))))
theorem sm_l {i : Int} (h : 0 ≤ i) (h2 : i < 18446744073709551616) : Mi.small64 i = true := by
  simp [Mi.small64]
  omega
theorem dealtTail_ok {h : AH} {n m : Nat} {c lots cell t : Int} {x : Option D} (hn : h[n]? = some (.lst [.ref m, .int t, .int c])) (hc : 0 ≤ c) (hc2 : c < 1000001) (hl : 0 < lots) (hl2 : lots < 1000000) :
    ∃ r : Int, dealtTail [some (.ref n), some (.int lots), some (.int cell), x] h = .ret (.int r) h ∧ 0 ≤ r ∧ r < lots := by
  have ml : ∀ a b : Int, 0 ≤ a → a < 18446744073709551616 → opMul (.int a) (.int b) h = .ok (.int (a * b)) h := fun a b h1 h2 => by simp [opMul, sm_l h1 h2]
  have mr : ∀ a b : Int, 0 ≤ b → b < 18446744073709551616 → opMul (.int a) (.int b) h = .ok (.int (a * b)) h := fun a b h1 h2 => by simp [opMul, sm_l h1 h2]
  have md : ∀ a b : Int, 0 < b → opMod (.int a) (.int b) h = .ok (.int (a.fmod b)) h := fun a b h1 => by
    have : b ≠ 0 := by omega
    simp [opMod, opII, this]
  have mb : ∀ a b : Int, 0 < b → 0 ≤ a.fmod b ∧ a.fmod b < b := fun a b h1 => ⟨Int.fmod_nonneg_of_pos _ h1, Int.fmod_lt_of_pos _ h1⟩
  have i1 : opIx (.ref n) (.int 1) h = .ok (.int t) h := by simp [opIx, seqD, hn, atI, ixN]
  have i2 : opIx (.ref n) (.int 2) h = .ok (.int c) h := by simp [opIx, seqD, hn, atI, ixN]
  have ad : ∀ a b : Int, opAdd (.int a) (.int b) h = .ok (.int (a + b)) h := fun _ _ => rfl
  have fd : ∀ a b : Int, 0 < b → b < 1000 → opFdiv (.int a) (.int b) h = .ok (.int (a.fdiv b)) h := fun a b h1 h2 => by
    have : b ≠ 0 := by omega
    have : b.natAbs < 1073741824 := by omega
    simp [opFdiv, opII, *]
  obtain ⟨w0, e0⟩ : ∃ w, w = cell.fmod 2147483629 + 16807 * c * c + t + 97 := ⟨_, rfl⟩
  obtain ⟨w1, e1⟩ : ∃ w, w = (w0 * 48271).fmod 2147483647 := ⟨_, rfl⟩
  obtain ⟨w2, e2⟩ : ∃ w, w = (w1 * w1 + 69621 * c + 11).fmod 2147483587 := ⟨_, rfl⟩
  obtain ⟨w3, e3⟩ : ∃ w, w = (w2 * (w2.fdiv 5 + 39373)).fmod 2147483563 := ⟨_, rfl⟩
  have b1 := mb (w0 * 48271) 2147483647 (by decide)
  rw [← e1] at b1
  have b2 := mb (w1 * w1 + 69621 * c + 11) 2147483587 (by decide)
  rw [← e2] at b2
  have q0 : cBin opAdd (cBin opAdd (cBin opAdd (cBin opMod (cVar 2) (cC (.int 2147483629))) (cBin opMul (cBin opMul (cC (.int 16807)) (cBin opIx (cVar 0) (cC (.int 2)))) (cBin opIx (cVar 0) (cC (.int 2))))) (cBin opIx (cVar 0) (cC (.int 1)))) (cC (.int 97)) [some (.ref n), some (.int lots), some (.int cell), x] h = .ok (.int w0) h := by
    simp only [cBin, cVar, cC, List.getElem?_cons_zero, List.getElem?_cons_succ, Res.bind_ok, i1, i2, ad, md _ 2147483629 (by decide), ml 16807 c (by decide) (by decide), mr _ c hc (by omega), e0]
  have q1 : cBin opMod (cBin opMul (cVar 3) (cC (.int 48271))) (cC (.int 2147483647)) [some (.ref n), some (.int lots), some (.int cell), some (.int w0)] h = .ok (.int w1) h := by
    simp only [cBin, cVar, cC, List.getElem?_cons_zero, List.getElem?_cons_succ, Res.bind_ok, mr w0 48271 (by decide) (by decide), md _ 2147483647 (by decide), e1]
  have q2 : cBin opMod (cBin opAdd (cBin opAdd (cBin opMul (cVar 3) (cVar 3)) (cBin opMul (cC (.int 69621)) (cBin opIx (cVar 0) (cC (.int 2))))) (cC (.int 11))) (cC (.int 2147483587)) [some (.ref n), some (.int lots), some (.int cell), some (.int w1)] h = .ok (.int w2) h := by
    simp only [cBin, cVar, cC, List.getElem?_cons_zero, List.getElem?_cons_succ, Res.bind_ok, i2, mr w1 w1 b1.1 (by omega), ml 69621 c (by decide) (by decide), ad, md _ 2147483587 (by decide), e2]
  have q3 : cBin opMod (cBin opFdiv (cBin opMod (cBin opMul (cVar 3) (cBin opAdd (cBin opFdiv (cVar 3) (cC (.int 5))) (cC (.int 39373)))) (cC (.int 2147483563))) (cC (.int 128))) (cVar 1) [some (.ref n), some (.int lots), some (.int cell), some (.int w2)] h = .ok (.int ((w3.fdiv 128).fmod lots)) h := by
    simp only [cBin, cVar, cC, List.getElem?_cons_zero, List.getElem?_cons_succ, Res.bind_ok, fd _ 5 (by decide) (by decide), fd _ 128 (by decide) (by decide), ad, ml w2 _ b2.1 (by omega), md _ 2147483563 (by decide), md _ lots hl, e3]
  refine ⟨(w3.fdiv 128).fmod lots, ?_, mb _ _ hl⟩
  unfold dealtTail
  exact (sSeq_nx (sSet_eq q0)).trans ((sSeq_nx (sSet_eq q1)).trans ((sSeq_nx (sSet_eq q2)).trans (sRet_eq q3)))
def dealtIf : SF := (sIf (tVal (cBin opNe (cBin opIx (cVar 0) (cC (.int 0))) (cLst aNil)))
      (sSeq (sSet 2 (cMeth "list" mPop (cBin opIx (cVar 0) (cC (.int 0))) aNil))
    (sIf (tVal (cBin opGe (cVar 2) (cBin opPow (cC (.int 10)) (cC (.int 18)))))
      (sSeq (sExpr (cMeth "list" mAppend (cBin opIx (cVar 0) (cC (.int 0))) (aCons (cBin opFdiv (cVar 2) (cVar 1)) aNil)))
    (sRet (cBin opMod (cVar 2) (cVar 1))))
      sPass))
      sPass)
def fDealt : FN := runB 2 4 (sSeq (sPut (cBin opAdd (cBin opIx (cVar 0) (cC (.int 2))) (cC (.int 1))) (cVar 0) (cC (.int 2)))
    (sSeq (sSet 2 (cBin opIx (cVar 0) (cC (.int 1))))
    (sSeq dealtIf dealtTail)))
theorem mod_ok {h : AH} {a b : Int} (h1 : 0 < b) : opMod (.int a) (.int b) h = .ok (.int (a.fmod b)) h := by
  have : b ≠ 0 := by omega
  simp [opMod, opII, this]
theorem dealtIf_ok {h1 : AH} {n m : Nat} {t c lots : Int} {cells : List Int} (hmn : m ≠ n) (hn1 : h1[n]? = some (.lst [.ref m, .int t, .int c])) (hm1 : h1[m]? = some (.lst (cells.map D.int))) (hl : 0 < lots) (hl2 : lots < 1000000) (hz : cells.length ≤ 100) :
    ∃ (h2 : AH) (cells2 : List Int), cells2.length ≤ 100 ∧ h2[n]? = some (.lst [.ref m, .int t, .int c]) ∧ h2[m]? = some (.lst (cells2.map D.int)) ∧ Step n m h1 h2 ∧
      ((∃ cell : Int, dealtIf [some (.ref n), some (.int lots), some (.int t), none] h1 = .nx [some (.ref n), some (.int lots), some (.int cell), none] h2) ∨
        ∃ r : Int, 0 ≤ r ∧ r < lots ∧ dealtIf [some (.ref n), some (.int lots), some (.int t), none] h1 = .ret (.int r) h2) := by
  have lm1 : m < h1.length := (List.getElem?_eq_some_iff.mp hm1).1
  have i0 : ∀ (h2 : AH), h2[n]? = some (.lst [.ref m, .int t, .int c]) → opIx (.ref n) (.int 0) h2 = .ok (.ref m) h2 := fun h2 e => by simp [opIx, seqD, atI, ixN, e]
  have h1a : (h1 ++ [O.lst []])[n]? = some (.lst [.ref m, .int t, .int c]) := by rw [List.getElem?_append_left (List.getElem?_eq_some_iff.mp hn1).1]; exact hn1
  have h1b : (h1 ++ [O.lst []])[m]? = some (.lst (cells.map D.int)) := by rw [List.getElem?_append_left lm1]; exact hm1
  have test : tVal (cBin opNe (cBin opIx (cVar 0) (cC (.int 0))) (cLst aNil)) [some (.ref n), some (.int lots), some (.int t), none] h1 = .ok (!cells.isEmpty) (h1 ++ [.lst []]) := by
    have p1 : pd 66 (h1 ++ [O.lst []]) (.ref m) = some (.list (cells.map PyData.int)) := by
      simp only [pd, h1b, pd_ints, Option.map_some]
    have p2 : pd 66 (h1 ++ [O.lst []]) (.ref h1.length) = some (.list []) := by simp [pd, omap]
    have s2 : SeqAt.shaped (.list []) = true := shaped_ints []
    simp [tVal, cBin, cVar, cC, i0 _ hn1, cLst, aNil, opNe, scalEq, p1, p2, shaped_ints, s2, eqv_ints, asBl]
  obtain ⟨h2, eh2⟩ : ∃ h2, h2 = h1 ++ [O.lst []] := ⟨_, rfl⟩
  rw [← eh2] at test h1a h1b
  have st2 : Step n m h1 h2 := by rw [eh2]; exact .app
  cases cells with
  | nil =>
    refine ⟨h2, [], hz, h1a, h1b, st2, .inl ⟨t, ?_⟩⟩
    exact sIf_f test
  | cons c0 cs =>
    obtain ⟨last, el⟩ : ∃ last, ((c0 :: cs).map D.int)[((c0 :: cs).map D.int).length - 1]? = some (.int last) := by
      refine ⟨((c0 :: cs)[(c0 :: cs).length - 1]'(by simp)), ?_⟩
      rw [List.length_map, List.getElem?_map, List.getElem?_eq_getElem (by simp)]
      rfl
    obtain ⟨h3, eh3⟩ : ∃ h3, h3 = h2.set m (.lst ((c0 :: cs).map D.int).dropLast) := ⟨_, rfl⟩
    have lm2 : m < h2.length := (List.getElem?_eq_some_iff.mp h1b).1
    have h3n : h3[n]? = some (.lst [.ref m, .int t, .int c]) := by rw [eh3, List.getElem?_set_ne hmn]; exact h1a
    have h3m : h3[m]? = some (.lst ((c0 :: cs).dropLast.map D.int)) := by rw [eh3, List.getElem?_set_self lm2, List.map_dropLast]
    have st3 : Step n m h2 h3 := by rw [eh3]; exact .set2
    have pop : sSet 2 (cMeth "list" mPop (cBin opIx (cVar 0) (cC (.int 0))) aNil) [some (.ref n), some (.int lots), some (.int t), none] h2 = .nx [some (.ref n), some (.int lots), some (.int last), none] h3 := by
      refine sSet_eq (d := .int last) ((cMeth_eq (d := .ref m) (h1 := h2) (cBin_eq (x := .ref n) (y := .int 0) rfl rfl |>.trans (i0 _ h1a)) (by simp [isTy, tyD, h1b]) aNil_eq).trans ?_)
      simp only [mPop, h1b, el, eh3]
    have test2 : ∀ h4, tVal (cBin opGe (cVar 2) (cBin opPow (cC (.int 10)) (cC (.int 18)))) [some (.ref n), some (.int lots), some (.int last), none] h4 = .ok (decide ((10 : Int) ^ 18 ≤ last)) h4 := fun h4 => by
      simp [tVal, cBin, cVar, cC, opPow, opII, opGe, asBl]
    have whole : dealtIf [some (.ref n), some (.int lots), some (.int t), none] h1 = _ := sIf_t test
    have whole2 := whole.trans (sSeq_nx pop)
    have st := st2.trans st3
    by_cases big : (10 : Int) ^ 18 ≤ last
    · have t2 := test2 h3
      rw [decide_eq_true big] at t2
      have whole3 := whole2.trans (sIf_t t2)
      obtain ⟨h4, eh4⟩ : ∃ h4, h4 = h3.set m (.lst ((c0 :: cs).dropLast.map D.int ++ [.int (last.fdiv lots)])) := ⟨_, rfl⟩
      have lm3 : m < h3.length := (List.getElem?_eq_some_iff.mp h3m).1
      have h4n : h4[n]? = some (.lst [.ref m, .int t, .int c]) := by rw [eh4, List.getElem?_set_ne hmn]; exact h3n
      have h4m : h4[m]? = some (.lst (((c0 :: cs).dropLast ++ [last.fdiv lots]).map D.int)) := by rw [eh4, List.getElem?_set_self lm3, List.map_append]; rfl
      have fd : opFdiv (.int last) (.int lots) h3 = .ok (.int (last.fdiv lots)) h3 := by
        have h1 : lots ≠ 0 := by omega
        have h2 : lots.natAbs < 1073741824 := by omega
        simp [opFdiv, opII, h1, h2]
      have lz : ((c0 :: cs).dropLast.map D.int).length < sizeLine := by
        rw [List.length_map, List.length_dropLast, sizeLine_eq]
        omega
      have app : sExpr (cMeth "list" mAppend (cBin opIx (cVar 0) (cC (.int 0))) (aCons (cBin opFdiv (cVar 2) (cVar 1)) aNil)) [some (.ref n), some (.int lots), some (.int last), none] h3 = .nx [some (.ref n), some (.int lots), some (.int last), none] h4 := by
        refine sExpr_eq (d := .non) ((cMeth_eq (d := .ref m) (h1 := h3) (h2 := h3) (ds := [.int (last.fdiv lots)]) (cBin_eq (x := .ref n) (y := .int 0) rfl rfl |>.trans (i0 _ h3n)) (by simp [isTy, tyD, h3m]) (aCons_eq ((cBin_eq (x := .int last) (y := .int lots) rfl rfl).trans fd) aNil_eq)).trans ?_)
        simp only [mAppend, h3m, eh4]
        rw [if_pos lz]
      have b := And.intro (Int.fmod_nonneg_of_pos last hl) (Int.fmod_lt_of_pos last hl)
      refine ⟨h4, (c0 :: cs).dropLast ++ [last.fdiv lots], ?_, h4n, h4m, st.trans (by rw [eh4]; exact .set2), .inr ⟨last.fmod lots, b.1, b.2, ?_⟩⟩
      · simp at hz ⊢
        omega
      · exact whole3.trans ((sSeq_nx app).trans (sRet_eq ((cBin_eq (x := .int last) (y := .int lots) rfl rfl).trans (mod_ok hl))))
    · have t2 := test2 h3
      rw [decide_eq_false big] at t2
      refine ⟨h3, (c0 :: cs).dropLast, ?_, h3n, h3m, st, .inl ⟨last, whole2.trans (sIf_f t2)⟩⟩
      simp at hz ⊢
      omega
theorem dealt_ok {h : AH} {n m : Nat} {c lots : Int} (H : Hand h n m c) (hc : 0 ≤ c) (hc2 : c < 1000000) (hl : 0 < lots) (hl2 : lots < 1000000) :
    ∃ (r : Int) (h' : AH), fDealt [.ref n, .int lots] h = .ok (.int r) h' ∧ 0 ≤ r ∧ r < lots ∧ Hand h' n m (c + 1) ∧ Step n m h h' := by
  obtain ⟨hmn, cells, t, hz, hn, hm⟩ := H
  have ln : n < h.length := (List.getElem?_eq_some_iff.mp hn).1
  obtain ⟨h1, eh1⟩ : ∃ h1, h1 = h.set n (.lst [.ref m, .int t, .int (c + 1)]) := ⟨_, rfl⟩
  have hn1 : h1[n]? = some (.lst [.ref m, .int t, .int (c + 1)]) := by rw [eh1]; simp [ln]
  have hm1 : h1[m]? = some (.lst (cells.map D.int)) := by rw [eh1, List.getElem?_set_ne (Ne.symm hmn)]; exact hm
  have st1 : Step n m h h1 := by rw [eh1]; exact .set1
  have z0 : sPut (cBin opAdd (cBin opIx (cVar 0) (cC (.int 2))) (cC (.int 1))) (cVar 0) (cC (.int 2)) [some (.ref n), some (.int lots), none, none] h = .nx [some (.ref n), some (.int lots), none, none] h1 := by
    simp [sPut, cBin, cVar, cC, opIx, seqD, atI, ixN, opAdd, putL, hn, eh1]
  have z1 : sSet 2 (cBin opIx (cVar 0) (cC (.int 1))) [some (.ref n), some (.int lots), none, none] h1 = .nx [some (.ref n), some (.int lots), some (.int t), none] h1 := by
    simp [sSet, cBin, cVar, cC, opIx, seqD, atI, ixN, hn1]
  obtain ⟨h2, cells2, hz2, g1, g2, st2, ⟨cell, e⟩ | ⟨r, r1, r2, e⟩⟩ := dealtIf_ok hmn hn1 hm1 hl hl2 hz
  · obtain ⟨r, e3, r1, r2⟩ := dealtTail_ok (cell := cell) (x := none) g1 (by omega) (by omega) hl hl2
    exact ⟨r, h2, runB_ret rfl ((sSeq_nx z0).trans ((sSeq_nx z1).trans ((sSeq_nx e).trans e3))), r1, r2, ⟨hmn, cells2, t, hz2, g1, g2⟩, st1.trans st2⟩
  · exact ⟨r, h2, runB_ret rfl ((sSeq_nx z0).trans ((sSeq_nx z1).trans (sSeq_ret e))), r1, r2, ⟨hmn, cells2, t, hz2, g1, g2⟩, st1.trans st2⟩
theorem Hand.get {h h' : AH} {n m : Nat} {c : Int} (H : Hand h n m c) (e1 : h'[n]? = h[n]?) (e2 : h'[m]? = h[m]?) : Hand h' n m c := by
  obtain ⟨a, cells, t, z, h1, h2⟩ := H
  exact ⟨a, cells, t, z, e1.trans h1, e2.trans h2⟩
theorem Hand.lt {h : AH} {n m : Nat} {c : Int} (H : Hand h n m c) : n < h.length ∧ m < h.length := by
  obtain ⟨a, cells, t, z, h1, h2⟩ := H
  exact ⟨(List.getElem?_eq_some_iff.mp h1).1, (List.getElem?_eq_some_iff.mp h2).1⟩
theorem Hand.app {h os : AH} {n m : Nat} {c : Int} (H : Hand h n m c) : Hand (h ++ os) n m c :=
  H.get (by rw [List.getElem?_append_left H.lt.1]) (by rw [List.getElem?_append_left H.lt.2])
theorem Hand.set {h : AH} {n m k : Nat} {c : Int} {o : O} (H : Hand h n m c) (h1 : k ≠ n) (h2 : k ≠ m) : Hand (h.set k o) n m c :=
  H.get (by rw [List.getElem?_set_ne h1]) (by rw [List.getElem?_set_ne h2])
/-! begun -/
def begunTurn : SF := (sSet 3 (cBin opMod (cBin opAdd (cBin opAdd (cBin opMul (cVar 3) (cC (.int 48271))) (cBin opMod (cVar 1) (cC (.int 2147483563)))) (cC (.int 17))) (cC (.int 2147483629))))
def fBegun : FN := runB 1 4 (sSeq (sPar2 2 3 (cCall fList (aCons (cCut (cVar 0) oNone (oSome (cC (.int 63)))) aNil)) (cC (.int 50021)))
    (sSeq (sFor (iAny (cVar 2)) (gN 1) begunTurn)
    (sRet (cLst (aCons (cRev (cVar 2)) (aCons (cVar 3) (aCons (cC (.int 0)) aNil)))))))
theorem begun_ok {ns : List Int} (hl : ns.length ≤ 63) : ∃ (n m : Nat) (h' : AH), fBegun [.rol (ns.map D.int)] [] = .ok (.ref n) h' ∧ Hand h' n m 0 := by
  have cut : cCut (cVar 0) oNone (oSome (cC (.int 63))) [some (.rol (ns.map D.int)), none, none, none] [] = .ok (.ref 0) [.lst (ns.map D.int)] := by
    refine (cCut_eq (d := .rol (ns.map D.int)) (l := none) (u := some 63) rfl rfl rfl).trans ?_
    have e : cutL (ns.map D.int) none (some 63) = ns.map D.int := by
      unfold cutL
      rw [show HT.sIx (ns.map D.int).length 0 none = 0 from rfl, show HT.sIx (ns.map D.int).length (ns.map D.int).length (some 63) = min 63 (ns.map D.int).length from HT.sIx_nat _ _ 63, List.length_map, Nat.min_eq_right hl, List.drop_zero, Nat.sub_zero, List.take_of_length_le (by rw [List.length_map]; exact Nat.le_refl _)]
    show Res.ok (D.ref 0) [O.lst (cutL (ns.map D.int) none (some 63))] = _
    rw [e]
  have lst : cCall fList (aCons (cCut (cVar 0) oNone (oSome (cC (.int 63)))) aNil) [some (.rol (ns.map D.int)), none, none, none] [] = .ok (.ref 1) [.lst (ns.map D.int), .lst (ns.map D.int)] := cCall_eq (aCons_eq cut aNil_eq)
  have it : iAny (cVar 2) [some (.rol (ns.map D.int)), none, some (.ref 1), some (.int 50021)] [.lst (ns.map D.int), .lst (ns.map D.int)] = .ok (.live 1 (ns.map D.int).length) [.lst (ns.map D.int), .lst (ns.map D.int)] := rfl
  obtain ⟨ε', h', e1, ⟨y, t, rfl⟩, rfl⟩ := sFor_inv (B := begunTurn) (g := gN 1) it (fun _ ε h => (∃ y t, ε = [some (.rol (ns.map D.int)), y, some (.ref 1), some (.int t)]) ∧ h = [.lst (ns.map D.int), .lst (ns.map D.int)]) ns.length (by simp [AIt.len]) ⟨⟨none, 50021, rfl⟩, rfl⟩
    (by
      rintro i ε h hi ⟨⟨y, t, rfl⟩, rfl⟩
      refine ⟨.int ns[i], [_, some (.int ns[i]), _, _], [_, _, _, some (.int ((t * 48271 + (ns[i]).fmod 2147483563 + 17).fmod 2147483629))], _, ?_, rfl, .inl (sSet_eq ?_), ⟨⟨_, _, rfl⟩, rfl⟩⟩
      · simp [AIt.item, hi]
      · have m1 : ∀ (a : Int) (h : AH), opMul (.int a) (.int 48271) h = .ok (.int (a * 48271)) h := fun a h => by simp [opMul, sm_l (show (0 : Int) ≤ 48271 by decide) (by decide)]
        exact (cBin_eq ((cBin_eq ((cBin_eq ((cBin_eq rfl rfl).trans (m1 _ _)) ((cBin_eq rfl rfl).trans (mod_ok (by decide)))).trans rfl) rfl).trans rfl) rfl).trans (mod_ok (by decide)))
    (by
      rintro ε h ⟨_, rfl⟩
      simp [AIt.fin])
  refine ⟨3, 2, [.lst (ns.map D.int), .lst (ns.map D.int), .lst (ns.map D.int).reverse, .lst [.ref 2, .int t, .int 0]], runB_ret rfl ((sSeq_nx (sPar2_eq lst rfl)).trans ((sSeq_nx e1).trans (sRet_eq (cLst_eq (ds := [.ref 2, .int t, .int 0]) (h1 := [.lst (ns.map D.int), .lst (ns.map D.int), .lst (ns.map D.int).reverse]) (aCons_eq (x := .ref 2) (h1 := [.lst (ns.map D.int), .lst (ns.map D.int), .lst (ns.map D.int).reverse]) rfl (aCons_eq (x := .int t) rfl (aCons_eq rfl aNil_eq))) ?_)))), by decide, ns.reverse, t, by rw [List.length_reverse]; omega, rfl, ?_⟩
  · rw [sizeLine_eq]
    exact Nat.le_of_ble_eq_true rfl
  · rw [List.map_reverse]
    rfl
/-! pick -/
def fPick : FN := runB 2 2 (sRet (cBin opIx (cVar 1) (cFn fDealt (aCons (cVar 0) (aCons (cCall fLen (aCons (cVar 1) aNil)) aNil)))))
theorem at_of {ds : List D} {r : Int} (h1 : 0 ≤ r) (h2 : r < ds.length) : ∃ d, d ∈ ds ∧ atI ds r = some d := by
  have hl : r.toNat < ds.length := by omega
  refine ⟨ds[r.toNat], List.getElem_mem hl, ?_⟩
  unfold atI ixN
  rw [if_pos h1, if_pos h2]
  exact List.getElem?_eq_getElem hl
theorem pick_ok {h : AH} {n m s : Nat} {c : Int} {ds : List D} (H : Hand h n m c) (hc : 0 ≤ c) (hc2 : c < 1000000) (hs : h[s]? = some (.lst ds)) (hsn : s ≠ n) (hsm : s ≠ m) (h0 : ds ≠ []) (hz : ds.length < 1000000) :
    ∃ (d : D) (h' : AH), fPick [.ref n, .ref s] h = .ok d h' ∧ d ∈ ds ∧ Hand h' n m (c + 1) ∧ Step n m h h' := by
  have hp : 0 < ds.length := List.length_pos_iff.mpr h0
  obtain ⟨r, h', e, r1, r2, H', st⟩ := dealt_ok (lots := ds.length) H hc hc2 (by omega) (by omega)
  have hs' : h'[s]? = some (.lst ds) := (st.keep s hsn hsm (List.getElem?_eq_some_iff.mp hs).1).trans hs
  obtain ⟨d, hd, ed⟩ := at_of r1 r2
  refine ⟨d, h', runB_ret rfl (sRet_eq ((cBin_eq (x := .ref s) (y := .int r) (h1 := h) (h2 := h') rfl (cFn_eq (aCons_eq (x := .ref n) (h1 := h) rfl (aCons_eq (x := .int ds.length) (h1 := h) (h2 := h) ?_ aNil_eq)) |>.trans e)).trans ?_)), hd, H', st⟩
  · refine (cCall_eq (aCons_eq (x := .ref s) (h1 := h) rfl aNil_eq)).trans ?_
    simp only [fLen, hs]
  · simp only [opIx, seqD, hs', ed]
end Mi

namespace Mi
open L2 PySem PySem.Spec PyProof.Rows

/-! ### texts of few plain signs -/
def Asc (n : Nat) (x : Str) : Prop := x.length ≤ n ∧ ∀ c ∈ x.cps.toList, c < 128
theorem len_list (x : Str) : x.length = x.cps.toList.length := by simp [Str.length]
theorem Asc.mono {n m : Nat} {x : Str} (a : Asc n x) (h : n ≤ m) : Asc m x := ⟨Nat.le_trans a.1 h, a.2⟩
theorem Asc.app {n m : Nat} {x y : Str} (a : Asc n x) (b : Asc m y) : Asc (n + m) (x ++ y) := by
  have e : (x ++ y).cps.toList = x.cps.toList ++ y.cps.toList := by
    show (x.cps ++ y.cps).toList = _
    simp
  refine ⟨?_, fun c hc => ?_⟩
  · rw [len_list, e, List.length_append, ← len_list, ← len_list]
    exact Nat.add_le_add a.1 b.1
  · rw [e] at hc
    rcases List.mem_append.mp hc with q | q
    · exact a.2 c q
    · exact b.2 c q
theorem asc_nil : Asc 0 (⟨#[]⟩ : Str) := ⟨Nat.le_refl _, fun c hc => by simp at hc⟩
theorem asc_one {c : Nat} (h : c < 128) : Asc 1 (⟨#[c]⟩ : Str) := ⟨Nat.le_refl _, fun d hd => by simp at hd; omega⟩
theorem Asc.sub {n : Nat} {x : Str} {l : List Nat} (a : Asc n x) (s : l.Sublist x.cps.toList) : Asc n ⟨l.toArray⟩ := by
  refine ⟨?_, fun c hc => a.2 c (s.subset (by simpa using hc))⟩
  rw [len_list]
  have := s.length_le
  rw [← len_list] at this
  exact Nat.le_trans (by simpa using this) a.1
theorem Asc.cut {n : Nat} {x : Str} (a : Asc n x) (lo hi : Option Int) : Asc n (cutS x lo hi) :=
  a.sub ((List.take_sublist _ _).trans (List.drop_sublist _ _))
theorem asc_join : ∀ ys : List Str, (∀ y ∈ ys, Asc 1 y) → Asc ys.length (Str.join (⟨#[]⟩ : Str) ys)
  | [], _ => asc_nil
  | [y], h => h y List.mem_cons_self
  | y :: z :: r, h => by
    have ih := asc_join (z :: r) fun w hw => h w (List.mem_cons_of_mem _ hw)
    have q := ((h y List.mem_cons_self).app asc_nil).app ih
    refine q.mono ?_
    simp only [List.length_cons]
    omega
theorem Asc.ok {n : Nat} {x : Str} (a : Asc n x) : PyData.strOk x = true := by
  unfold PyData.strOk
  rw [← Array.all_toList]
  refine List.all_eq_true.mpr fun c hc => ?_
  have := a.2 c hc
  simp only [decide_eq_true_eq]
  omega
/-- the text of what is data -/
theorem reprD_of {h : AH} {d : D} {p : PyData} (e : pd 60 h d = some p) (h1 : p.showable = true) (h2 : PyData.layable0 p = true) (h3 : p.intsShort 13 = true) : ∃ s, reprD d h = some s := by
  have z := shown_le13 h2 h3
  have q : p.showable = true ∧ p.shown.length ≤ sizeLine := ⟨h1, by rw [sizeLine_eq]; omega⟩
  refine ⟨p.shown, ?_⟩
  unfold reprD
  rw [e]
  simp only
  rw [if_pos q]
theorem reprD_str {h : AH} {x : Str} {n : Nat} (a : Asc n x) (hn : n ≤ 100000) : ∃ s, reprD (.str x) h = some s := by
  refine reprD_of (p := .str x) rfl (by simp [PyData.showable]) ?_ (by simp [PyData.intsShort])
  have : x.cps.size ≤ n := a.1
  have z : x.cps.size ≤ 2 ^ 20 := by omega
  simp only [PyData.layable0, PyData.canLay0, a.ok, PyData.depth, PyData.weight, Bool.true_and, Bool.and_eq_true, decide_eq_true_eq]
  exact ⟨rfl, decide_eq_true z⟩

/-! ### what is behind stays as it is -/
theorem getElem_pre {h h' : AH} {n : Nat} {o : O} (p : h <+: h') (e : h[n]? = some o) : h'[n]? = some o := by
  obtain ⟨r, rfl⟩ := p
  rw [List.getElem?_append_left (List.getElem?_eq_some_iff.mp e).1]
  exact e
theorem omap_imp {α β : Type} {f g : α → Option β} (i : ∀ x y, f x = some y → g x = some y) : ∀ {xs : List α} {ys : List β}, omap f xs = some ys → omap g xs = some ys
  | [], _, e => e
  | x :: xs, ys, e => by
    unfold omap at e ⊢
    cases q1 : f x with
    | none => rw [q1] at e; cases e
    | some y =>
      cases q2 : omap f xs with
      | none => rw [q1, q2] at e; cases e
      | some zs =>
        rw [q1, q2] at e
        rw [i _ _ q1, omap_imp i q2]
        exact e
theorem pd_pre {h h' : AH} (p : h <+: h') : ∀ (n : Nat) (d : D) (q : PyData), pd n h d = some q → pd n h' d = some q := by
  intro n
  induction n with
  | zero =>
    intro d q e
    cases d <;> simp only [pd] at e ⊢ <;> first | exact e | cases e
  | succ n ih =>
    intro d q e
    cases d with
    | tup xs =>
      simp only [pd, Option.map_eq_some_iff] at e ⊢
      obtain ⟨ps, z, rfl⟩ := e
      exact ⟨ps, omap_imp ih z, rfl⟩
    | rol xs =>
      simp only [pd, Option.map_eq_some_iff] at e ⊢
      obtain ⟨ps, z, rfl⟩ := e
      exact ⟨ps, omap_imp ih z, rfl⟩
    | ref r =>
      simp only [pd] at e ⊢
      split at e <;> first | (cases e; done) | skip
      rename_i xs q1
      rw [getElem_pre p q1]
      obtain ⟨ps, z, rfl⟩ := Option.map_eq_some_iff.mp e
      exact Option.map_eq_some_iff.mpr ⟨ps, omap_imp ih z, rfl⟩
    | _ => simp only [pd] at e ⊢ <;> first | exact e | cases e
def pd0 : D → Option PyData
  | .non => some .none
  | .bl b => some (.bool b)
  | .int i => some (.int i)
  | .str x => some (.str x)
  | _ => none
theorem pd_zero {h : AH} {d : D} : pd 0 h d = pd0 d := by cases d <;> rfl
theorem reprD_pre {h h' : AH} (p : h <+: h') {d : D} {s : Str} (e : reprD d h = some s) : reprD d h' = some s := by
  unfold reprD at e ⊢
  cases q : pd 60 h d with
  | some x =>
    rw [q] at e
    rw [pd_pre p _ _ _ q]
    exact e
  | none =>
    rw [q] at e
    simp only at e
    cases d with
    | ref n =>
      simp only [pdDict] at e
      cases q2 : h[n]? with
      | none => rw [q2] at e; cases e
      | some o =>
        rw [q2] at e
        cases o with
        | dic kvs =>
          have e0 : (pd 60 h' (.ref n)) = none := by simp only [pd, getElem_pre p q2]
          have same : pdDict h' (.ref n) = pdDict h (.ref n) := by
            unfold pdDict
            simp only [getElem_pre p q2, q2, pd_zero]
          rw [e0, same]
          unfold pdDict
          simp only [q2]
          exact e
        | _ => cases e
    | _ => cases e
theorem tyD_pre {h h' : AH} (p : h <+: h') {d : D} {t : String} (e : tyD d h = some t) : tyD d h' = some t := by
  cases d with
  | ref n =>
    simp only [tyD] at e ⊢
    cases q2 : h[n]? with
    | none => rw [q2] at e; cases e
    | some o =>
      rw [getElem_pre p q2]
      rw [q2] at e
      exact e
  | _ => exact e
end Mi

namespace Mi
open L2 PySem PySem.Spec PyProof.Rows

/-- [y for d in ds if b]: nothing is changed by y, b -/
theorem cComp_filter {iF : IF} {g : TF'} {t : TF} {F : EF} {own : List Nat} {ε : AEnv} {h h1 : AH} {ds : List D} (hi : iF ε h = .ok (.fix ds) h1) (hs : ds.length < sizeLine) (e : D → AEnv) (b : D → Bool) (y : D → D)
    (hg : ∀ d ∈ ds, ∀ h, g d (wipeA ε own) h = some (e d)) (ht : ∀ d ∈ ds, ∀ h, t (e d) h = .ok (b d) h) (hF : ∀ d ∈ ds, ∀ h, F (e d) h = .ok (y d) h) : cComp iF g t F own ε h = .ok (.ref h1.length) (h1 ++ [.lst ((ds.filter b).map y)]) := by
  have tk : ∀ i (hi : i < ds.length), ds.take (i + 1) = ds.take i ++ [ds[i]] := fun i hi => by rw [List.take_succ, List.getElem?_eq_getElem hi]; rfl
  obtain ⟨acc, h', e1, rfl, rfl⟩ := cComp_inv (it := .fix ds) (g := g) (t := t) (F := F) (own := own) hi (fun i acc h2 => acc = ((ds.take i).filter b).map y ∧ h2 = h1 ++ [.lst acc]) ds.length rfl hs
    (by rintro i acc h2 ⟨_, rfl⟩; simp)
    (by
      rintro i acc h2 ⟨rfl, _⟩
      rw [List.length_map]
      exact Nat.le_trans (List.length_filter_le _ _) (by rw [List.length_take]; exact Nat.min_le_left _ _))
    ⟨by simp, rfl⟩
    (by
      rintro i acc h2 hlt ⟨rfl, rfl⟩
      have hm : ds[i] ∈ ds := List.getElem_mem hlt
      refine ⟨ds[i], e ds[i], b ds[i], _, by simp [AIt.item, hlt], hg _ hm _, ht _ hm _, ?_⟩
      cases q : b ds[i] with
      | false => exact .inl ⟨rfl, by rw [tk i hlt, List.filter_append]; simp [q], rfl⟩
      | true => exact .inr ⟨rfl, y ds[i], _, hF _ hm _, by simp, by rw [tk i hlt, List.filter_append]; simp [q], by simp⟩)
    (by rintro acc h2 _; rfl)
  rw [e1, List.take_length]

/-! ### rows of texts -/
theorem strs_shaped {ys : List Str} (hy : ∀ y ∈ ys, PyData.strOk y = true) : SeqAt.shaped (.list (ys.map PyData.str)) = true := by
  have h1 : ∀ ys : List Str, (∀ y ∈ ys, PyData.strOk y = true) → PyData.canLayAll0 (ys.map PyData.str) = true := fun ys => by
    induction ys with
    | nil => intro _; simp [PyData.canLayAll0]
    | cons c cs ih =>
      intro hy
      simp [PyData.canLayAll0, PyData.canLay0, hy c List.mem_cons_self, ih fun z hz => hy z (List.mem_cons_of_mem _ hz)]
  have h2 : ∀ cs : List Str, PyData.depthAll (cs.map PyData.str) = 0 := fun cs => by
    induction cs with
    | nil => simp [PyData.depthAll]
    | cons c cs ih => simp [PyData.depthAll, PyData.depth, ih]
  simp [SeqAt.shaped, PyData.canLay0, PyData.depth, h1 ys hy, h2]
theorem pd_strs (h : AH) (k : Nat) : ∀ ys : List Str, omap (pd k h) (ys.map D.str) = some (ys.map PyData.str)
  | [] => rfl
  | c :: cs => by
    simp only [List.map_cons]
    unfold omap
    rw [pd_strs h k cs]
    cases k <;> rfl
theorem pd_lst {h : AH} {n k : Nat} {ds : List D} {ps : List PyData} (e : h[n]? = some (.lst ds)) (q : omap (pd k h) ds = some ps) : pd (k + 1) h (.ref n) = some (.list ps) := by
  simp only [pd, e, q, Option.map_some]
theorem eqv_strs (ys : List Str) : PyData.eqv (.list (ys.map PyData.str)) (.list []) = ys.isEmpty := by
  cases ys with
  | nil => simp [PyData.eqv, PyData.eqvAll]
  | cons c cs => simp [PyData.eqv, PyData.eqvAll]
/-- a row of texts == [] -/
theorem opEq_strs {h : AH} {n m : Nat} {ys : List Str} (hn : h[n]? = some (.lst (ys.map D.str))) (hm : h[m]? = some (.lst [])) (hy : ∀ y ∈ ys, PyData.strOk y = true) : opEq (.ref n) (.ref m) h = .ok (.bl ys.isEmpty) h := by
  have p1 := pd_lst hn (pd_strs h 65 ys)
  have p2 : pd 66 h (.ref m) = some (.list []) := pd_lst hm rfl
  have s2 : SeqAt.shaped (.list []) = true := shaped_ints []
  simp only [opEq, scalEq, p1, p2, strs_shaped hy, s2, and_self, if_true, eqv_strs]
theorem get_last {h : AH} {o : O} : (h ++ [o])[h.length]? = some o := by simp
theorem get_old {h : AH} {o : O} {n : Nat} {u : O} (e : h[n]? = some u) : (h ++ [o])[n]? = some u := by
  rw [List.getElem?_append_left (List.getElem?_eq_some_iff.mp e).1]
  exact e
end Mi

namespace Mi
open L2 PySem PySem.Spec PyProof.Rows GxR

/-! ### all(test for x in text), the test of names of the module, too -/
/-- the test: the sign c stands at x; what the text has written stands -/
def EltQ (X : Cx) (scope : Scope) (x : Str) (elt : Expr) (pb : Nat → Bool) : Prop :=
  ∀ (cenv : Env) (A' : Around) (E' : Value → Shared → Prop) (c : Nat) (t : Tok) (s : Shared) (m : Str → Option Value), L2.Mod X.K X.mg X.base → cenv.scope = scope → cenv.globals = mainGlobals → cenv.builtins = builtinsNs → (∀ b o, X.base.get? b = some o → s.heap.get? b = some o) → A'.handled = none →
    s.heap.Ns cenv.locals m → m x = some (.str ⟨#[c]⟩ t) → wpAny (model X.prog X.w) A' (eval elt cenv) (fun y s' => y = .bool (pb c) ∧ Keeps s s') E' s
section
variable {X : Cx} {pins : List (Addr × Obj)} {σ : L2.St} {H : Hp} {s : Shared} {W : WX} {cls ts : List Addr}
theorem gen_strQ {c P : Addr} {elt iter : Expr} {x : Str} {px gpos : Pos} {scope : Scope} {pb : Nat → Bool} {te : TE} {k : Nat} {Qv : Value → Shared → Prop} {R : Str → Hp → Prop} (hr : Room k X.A) (TB : TabB X.base X.mg c P) (hcode : X.env.code = .ref c) (S : GenS X.env scope x) (hi : PE X iter te) (hel : EltQ X scope x elt pb)
    (hs : ∀ v, genFold iter X.env v = pure v) (I : Inv X pins σ H s) (h : te σ H fun v H1 => ∃ a : Str, v = .str a ∧ TabG H1 P ∧ R a H1) (hQ : ∀ a H1 g s5, R a H1 → Ready X pins σ H1 P a pb g s5 → Qv (.ref g) s5) :
    wpAny (model X.prog X.w) X.A (eval (.GeneratorExp elt [⟨.Name x px, iter, [], 0⟩] scope gpos) X.env) Qv X.xe s := by
  refine wpAny_GeneratorExp_walksQ hr.hd S.co (closure_ok S.free) S.cell S.dot S.loc S.kind (by have := hr.dp; omega) (thn (hi.run pins s σ H _ I h) ?_) hs
  rintro xv s1 ⟨_, H1, I1, r1, a, rfl, ⟨ps, hP, ht⟩, q1⟩
  obtain ⟨t, rfl⟩ := (show ∃ t, xv = Value.str a t from r1)
  refine wpAny_pyIter_str fun o St Wk hst => ⟨I1.nolimit.push o, ?_⟩
  have atP : s1.heap.get? P = some (tblO ps) := I1.hok P _ hP
  have ltP := Heap.lt_size atP
  have up2 : ∀ b u, s1.heap.get? b = some u → (s1.heap.push o).get? b = some u := fun b u e => Heap.get?_push_of_some _ e
  have cd := TB.code.keeps fun b u e => up2 b u (I1.bk b u e)
  have go : ∀ (code : Value) (h3 : Heap) (tk : Nat) (qs more : Array Value), qs = ps ++ more → Heap.ExtBut P (s1.heap.push o) h3 → (s1.heap.push o).objs.size ≤ h3.objs.size → h3.get? P = some (tblO qs) → TriplesOk qs.toList →
      wpAny (model X.prog X.w) X.A (builtinsFor X.env.globals X.env.builtins) (fun bi s₄ => ∃ Ia fp wr n₀ Pf St₀ pz F, Value.ref s1.heap.objs.size = .ref Ia ∧ (∀ A' : Around, A'.handled = none → Walks X.prog X.w A' Ia fp wr n₀ Pf St₀) ∧ St₀ 0 s₄.heap ∧ (∀ b ∈ fp, b < s₄.heap.objs.size) ∧ s₄.heap.NoLimit ∧ cStatics ∉ wr ∧
        (∀ href : Heap, (∀ b o, s₄.heap.get? b = some o → href.get? b = some o) → QuietGen X.prog X.w (genEnv scope (cloFrom X.env.cells scope.names []) s₄.heap.objs.size code bi X.env) x [] elt (List.range s₄.heap.objs.size) wr Pf pz F href) ∧
        ∀ a h₅ tk gs, gs.bare = true → s₄.heap.objs.size < a → h₅.objs.size = a + 1 → (∀ b o, s₄.heap.get? b = some o → h₅.get? b = some o) →
          WalksS X.prog X.w X.A.in4 a (a :: s₄.heap.objs.size :: List.range s₄.heap.objs.size) (s₄.heap.objs.size :: wr) (GenOnlyQ s₄.gens.size) (passing pz n₀ 0).length (fun j y => ∃ i, (passing pz n₀ 0)[j]? = some i ∧ F i y) (GenAt X.prog X.w X.A.in4 a s₄.gens.size s₄.heap.objs.size (List.range s₄.heap.objs.size) wr pz n₀ F) →
          GenAt X.prog X.w X.A.in4 a s₄.gens.size s₄.heap.objs.size (List.range s₄.heap.objs.size) wr pz n₀ F 0 { s₄ with gens := s₄.gens.push gs, toks := tk, heap := h₅ } → Qv (.ref a) { s₄ with gens := s₄.gens.push gs, toks := tk, heap := h₅ }) X.xe { s1 with heap := h3, toks := tk } := by
    rintro code h3 tk qs more eq hx hz hP3 ht3
    obtain ⟨bm, ob, e1, e2, e3, e4, e5, e6, e7, e8⟩ := TB.bm
    have sz2 : (s1.heap.push o).objs.size = s1.heap.objs.size + 1 := Heap.size_push ..
    have k3 : ∀ b u, b ≠ P → s1.heap.get? b = some u → h3.get? b = some u := fun b u hb e => hx b u hb (up2 b u e)
    have noC : cStatics ≠ P ∧ cStatics < s1.heap.objs.size := by
      obtain ⟨_, hns, _⟩ := I1.nolimit
      refine ⟨fun e => ?_, hns.lt⟩
      obtain ⟨o', es, ep, ho, hd, _⟩ := hns
      rw [e, atP] at ho
      cases ho
      cases hd
    -- what the text has written is none of the table, none of the iterator
    have basN : ∀ b u, X.base.get? b = some u → b ≠ P ∧ b < s1.heap.objs.size := fun b u e => by
      refine ⟨fun z => ?_, Heap.lt_size (I1.bk b u e)⟩
      have q := (I1.bs b u e).2
      rw [z, hP] at q
      cases q
    refine wpAny_builtinsFor (m := X.mg) (by rw [I1.ok.glob]; exact ((I1.mod.glob.keeps I1.bk).push o).extBut hx TB.gP) e1 e2 (k3 _ _ e4 (I1.bk _ _ e5)) e6 e7 e8 ?_
    refine ⟨s1.heap.objs.size, [s1.heap.objs.size], [s1.heap.objs.size], a.cps.size, SignAt a, St, (fun _ => true), (fun i y => ∃ cc, a.cps[i]? = some cc ∧ y = .bool (pb cc)), rfl, Wk, ?_, fun b hb => ?_, (I1.nolimit.push o).extBut hx noC.1, fun z => ?_, fun href hh => ⟨fun A' E' i v s₂ m₂ _ _ _ _ _ => ?_, fun A' E' i v s₂ m₂ hA hv _ hn hm hk => ?_⟩, ?_⟩
    · refine (Wk X.A hr.hd).frame _ _ _ hst fun b hb u e => hx b u (fun z => ?_) e
      rw [List.mem_singleton] at hb
      exact Nat.ne_of_lt ltP (z.symm.trans hb)
    · rw [List.mem_singleton.mp hb]
      show s1.heap.objs.size < h3.objs.size
      omega
    · exact Nat.ne_of_lt noC.2 (List.mem_singleton.mp z)
    · rw [List.forIn_nil]
      exact wpAny_pure ⟨rfl, keeps_refl _⟩
    · obtain ⟨cc, u, hcc, rfl⟩ := hv
      refine wpAny_mono (hel _ A' E' cc u s₂ m₂ I1.mod rfl (by show X.env.globals = _; exact I1.ok.glob) rfl (fun b o' e => ?_) hA hn hm) (fun y s3 r => ⟨⟨cc, hcc, r.1⟩, r.2⟩) fun _ _ e => e
      obtain ⟨n1, n2⟩ := basN b o' e
      have e9 := k3 b o' n1 (I1.bk b o' e)
      refine hk b (List.mem_range.mpr (Heap.lt_size e9)) (fun z => ?_) o' (hh b o' e9)
      exact Nat.ne_of_lt n2 (List.mem_singleton.mp z)
    · intro g h5 tk5 gs hgb hag hsz5 hk5 W5 hat
      simp only [GxR.passing_true, List.length_range] at W5
      refine hQ a H1 g _ q1 ⟨_, _, _, _, _, W5.in4_1, hat, ?_, fun s' hm => ?_⟩
      · rintro j y sj Qj Ej ⟨i, hij, cc, hcc, rfl⟩ hQj
        obtain ⟨hj, ej⟩ := List.getElem?_eq_some_iff.mp hij
        rw [List.getElem_range] at ej
        subst ej
        have hQ2 : Qj (trF pb a.cps.toList j) sj := hQj
        rw [trF_some (b := cc) (by rw [Array.getElem?_toList]; exact hcc)] at hQ2
        exact wpAny_truthy_bool hQ2
      · have nwr : ∀ b u, s1.heap.get? b = some u → b ∉ h3.objs.size :: [s1.heap.objs.size] := fun b u e hb => by
          have hl := Heap.lt_size e
          have z3 : s1.heap.objs.size < h3.objs.size := by omega
          rcases List.mem_cons.mp hb with z | z
          · rw [z] at hl
            exact Nat.lt_asymm z3 hl
          · rw [List.mem_singleton.mp z] at hl
            exact Nat.lt_irrefl _ hl
        have J := inv_tab (more := more) (h' := s'.heap) (g' := s'.gens) (d' := s'.drawn) (t' := s'.toks) I1 hP (fun b u hb e => hm.heap b u (nwr b u e) (hk5 b u (k3 b u hb e)))
          (by rw [← eq]; exact hm.heap P _ (nwr P _ atP) (hk5 P _ hP3)) (AllBare.movedS (I1.bare.push hgb) hm)
        rw [sh_eta s1 s' hm.os] at J
        exact ⟨upd H1 P (.tbl (ps ++ more)), ⟨⟨ps ++ more, upd_same, by rw [← eq]; exact ht3⟩, fun b hb => upd_ne hb⟩, J⟩
  cases hf : codeAmong gpos ps.toList with
  | some cv => exact wpAny_genexprCode_hit hcode (cd.code (up2 _ _ atP) ht) hf (go cv (s1.heap.push o) s1.toks ps #[] (by simp) (Heap.ExtBut.refl _ _) (Nat.le_refl _) (up2 _ _ atP) ht)
  | none =>
    refine wpAny_genexprCodeX hcode (cd.code (up2 _ _ atP) ht) (cd.tab (up2 _ _ atP)) hf fun c' h' tk hx hge hlt hco _ htab _ => ?_
    obtain ⟨_, _, _, _, _, _, _, _, _, _, _, _, _, _, _, _, _, _, _, htr, _⟩ := hco
    exact go _ h' tk _ _ rfl hx (Nat.le_trans hge (Nat.le_of_lt hlt)) htab.2 htr
theorem e_allQ {c P : Addr} {elt iter : Expr} {x : Str} {px p pos gpos : Pos} {scope : Scope} {pb : Nat → Bool} {F : EF} {k : Nat} (hr : Room k X.A) (hg : Gl X "all") (hm : X.mg "all" = none) (TB : TabB X.base X.mg c P) (hcode : X.env.code = .ref c) (hP : P ∈ ts)
    (S : GenS X.env scope x) (hi : E' X cls ts W iter F) (hel : EltQ X scope x elt pb) (hs : ∀ v, genFold iter X.env v = pure v)
    (he : starEach [.GeneratorExp elt [⟨.Name x px, iter, [], 0⟩] scope gpos] X.env = [(false, eval (.GeneratorExp elt [⟨.Name x px, iter, [], 0⟩] scope gpos) X.env)] := by rfl) :
    E' X cls ts W (.Call (.Name "all" p) [.GeneratorExp elt [⟨.Name x px, iter, [], 0⟩] scope gpos] [] pos) (cAllS pb F) := by
  refine ⟨fun pins s σ H Q I ⟨ρ, ε, h, hH, hE, q⟩ => ?_⟩
  have q1 : tE X.K cls ts W F σ H fun v H1 => ∃ a : Str, v = .str a ∧ TabG H1 P ∧ ∀ H2, Tabbed P H1 H2 → Q (.bl (a.cps.toList.all pb)) H2 := tG_bind hH hE q fun ρ1 H1 v h1 d _ e1 hH1 rv hE1 p1 => by
    cases rv <;> first | exact p1.elim | skip
    refine ⟨_, rfl, (hH1.tab P hP).2, fun H2 t => ?_⟩
    obtain ⟨e2, hH2⟩ := tabbed_ext hH1 hP t
    exact p1 _ _ _ e2 hH2 (.bl _)
  have he' : starEach [.GeneratorExp elt [⟨.Name x px, iter, [], 0⟩] scope gpos] X.env = (false, eval (.GeneratorExp elt [⟨.Name x px, iter, [], 0⟩] scope gpos) X.env) :: starEach [] X.env := he
  refine wpAny_Call_Name_kw (ld_blt I hg hm (by with_unfolding_all rfl : bootBuiltins "all" = some (.builtin "all")) (PyProof.Rows.callWith_builtin1 ?_ he' (by rfl)))
  rw [he']
  show wpAny _ _ (spliced ((false, eval (.GeneratorExp elt [⟨.Name x px, iter, [], 0⟩] scope gpos) X.env) :: [])) _ _ s
  refine Calls.spliced_cons (gen_strQ hr TB hcode S hi hel hs I q1 fun a H1 g s5 hR hG => ?_)
  obtain ⟨fp, wr, G, Fw, St, Ws, hst, htr, hI⟩ := hG
  refine Calls.spliced_nil (call_all_walkS (Ws.self 0 _ _ _ hst ⟨g, fp, wr, G, _, Fw, St, _, rfl, Ws, hst, htr, fun s' hmv => ?_⟩))
  obtain ⟨H2, hT, J⟩ := hI s' hmv
  refine ⟨.bl _, H2, J, rfl, ?_⟩
  rw [all_signs a pb]
  exact hR H2 hT
end
end Mi

namespace Mi
open L2 PySem PySem.Spec PyProof.Rows GxR

/-! ### tests of a sign, step by step -/
structure QC (X : Cx) (scope : Scope) (x : Str) (cenv : Env) (A' : Around) (c : Nat) (t : Tok) (m : Str → Option Value) (s : Shared) : Prop where
  md : L2.Mod X.K X.mg X.base
  sc : cenv.scope = scope
  gl : cenv.globals = mainGlobals
  bl : cenv.builtins = builtinsNs
  bs : ∀ b o, X.base.get? b = some o → s.heap.get? b = some o
  hd : A'.handled = none
  ns : s.heap.Ns cenv.locals m
  at_ : m x = some (.str ⟨#[c]⟩ t)
theorem keeps_trans {a b c : Shared} (h : Keeps a b) (k : Keeps b c) : Keeps a c := by
  obtain ⟨h1, t1, rfl, k1⟩ := h
  obtain ⟨h2, t2, rfl, k2⟩ := k
  exact ⟨h2, t2, rfl, fun d o e => k2 d o (k1 d o e)⟩
theorem QC.on {X : Cx} {scope : Scope} {x : Str} {cenv : Env} {A' : Around} {c : Nat} {t : Tok} {m : Str → Option Value} {s s' : Shared} (q : QC X scope x cenv A' c t m s) (k : Keeps s s') : QC X scope x cenv A' c t m s' := by
  obtain ⟨h1, t1, rfl, k1⟩ := k
  exact ⟨q.md, q.sc, q.gl, q.bl, fun b o e => k1 b o (q.bs b o e), q.hd, q.ns.keeps k1, q.at_⟩
def QEv (X : Cx) (scope : Scope) (x : Str) (e : Expr) (f : Nat → V) : Prop := ∀ (cenv : Env) (A' : Around) (E' : Value → Shared → Prop) (c : Nat) (t : Tok) (m : Str → Option Value) (s : Shared), QC X scope x cenv A' c t m s →
  wpAny (model X.prog X.w) A' (eval e cenv) (fun y s' => RelV (f c) y ∧ Keeps s s') E' s
theorem elt_of {X : Cx} {scope : Scope} {x : Str} {e : Expr} {pb : Nat → Bool} (h : QEv X scope x e fun c => .bl (pb c)) : EltQ X scope x e pb := fun cenv A' E' c t s m h0 h1 h2 h3 h4 h5 h6 h7 =>
  wpAny_mono (h cenv A' E' c t m s ⟨h0, h1, h2, h3, h4, h5, h6, h7⟩) (fun _ _ r => ⟨r.1, r.2⟩) fun _ _ z => z
section
variable {X : Cx} {scope : Scope} {x : Str} {a b d e : Expr} {fa fb fd : Nat → V} {pos p1 p2 p3 : Pos}
theorem q_str {z : Str} {j : Nat} : QEv X scope x (.Constant (.str z) j pos) fun _ => .str z := fun _ _ _ _ _ _ _ _ => Calls.Constant_str ⟨⟨_, rfl⟩, keeps_tok _ _⟩
theorem q_int {z : Int} {j : Nat} : QEv X scope x (.Constant (.int z) j pos) fun _ => .int z := fun _ _ _ _ _ _ _ _ => wpAny_Constant_int ⟨⟨_, rfl⟩, keeps_tok _ _⟩
theorem q_sign (hk : scope.kind = .function) (hl : scope.names.lookup x = some .local) (hd : (x == ("__debug__" : Str)) = false := by decide) : QEv X scope x (.Name x pos) fun c => .str ⟨#[c]⟩ := fun cenv A' E' c t m s q =>
  wpAny_Name (wpAny_loadName_local (by rw [q.sc]; exact hk) (show cenv.scope.names.lookup x = some .local by rw [q.sc]; exact hl) q.ns q.at_ ⟨⟨_, rfl⟩, keeps_refl _⟩) hd
theorem q_glob {y : Str} {v : V} (hk : scope.kind = .function) (hl : scope.names.lookup y = some .globalImplicit) (hm : ∃ u, X.mg y = some u ∧ RelV v u) (hd : (y == ("__debug__" : Str)) = false := by decide) : QEv X scope x (.Name y pos) fun _ => v := fun cenv A' E' c t m s q => by
  obtain ⟨u, hu, r⟩ := hm
  exact Calls.Name_function_global (by rw [q.sc]; exact hk) (show cenv.scope.names.lookup y = some .globalImplicit by rw [q.sc]; exact hl) (Calls.loadGlobal_global (by rw [q.gl]; exact q.md.glob.keeps q.bs) hu ⟨r, keeps_refl _⟩) hd
theorem q_ord (hk : scope.kind = .function) (hl : scope.names.lookup ("ord" : Str) = some .globalImplicit) (hm : X.mg "ord" = none) (ha : QEv X scope x a fun c => .str ⟨#[c]⟩)
    (he : ∀ cenv : Env, starEach [a] cenv = [(false, eval a cenv)] := by intro _; rfl) : QEv X scope x (.Call (.Name "ord" p1) [a] [] pos) fun c => .int (c : Nat) := fun cenv A' E' c t m s q => by
  obtain ⟨mb, h1, h2⟩ := q.md.blt
  refine wpAny_Call_Name_kw (Calls.Name_function_global (by rw [q.sc]; exact hk) (show cenv.scope.names.lookup ("ord" : Str) = some .globalImplicit by rw [q.sc]; exact hl)
    (Calls.loadGlobal_builtin (by rw [q.gl]; exact q.md.glob.keeps q.bs) hm (by rw [q.bl]; exact h1.keeps q.bs) ((h2 _ (by decide)).trans boot_ord) ?_) (by decide))
  have he' : starEach [a] cenv = (false, eval a cenv) :: starEach [] cenv := he cenv
  refine PyProof.Rows.callWith_builtin1 ?_ he' (by rfl)
  rw [he']
  show wpAny _ _ (spliced ((false, eval a cenv) :: [])) _ _ s
  refine Calls.spliced_cons (wpAny_mono (ha cenv A' E' c t m s q) (fun y s1 r => ?_) fun _ _ z => z)
  obtain ⟨⟨u, rfl⟩, k⟩ := r
  refine Calls.spliced_nil (PySem.P.ord_of_char ⟨⟨_, rfl⟩, keeps_trans k (keeps_tok _ _)⟩)
/-- a <= x <= b of texts -/
theorem q_between {z1 z2 : Str} {j1 j2 : Nat} (hk : scope.kind = .function) (hl : scope.names.lookup x = some .local) (hd : (x == ("__debug__" : Str)) = false := by decide) (hm : lastMarks [.LtE, .LtE] [.Name x p1, .Constant (.str z2) j2 p2] = false := by with_unfolding_all rfl) :
    QEv X scope x (.Compare (.Constant (.str z1) j1 p3) [.LtE, .LtE] [.Name x p1, .Constant (.str z2) j2 p2] pos) fun c => .bl (between z1 z2 c) := fun cenv A' E' c t m s q =>
  wpAny_mono (elt_between (prog := X.prog) (w := X.w) hk hl hd hm cenv A' E' c t s m q.sc q.ns q.at_) (fun _ _ r => ⟨r.1, r.2⟩) fun _ _ z => z
/-- a not in (G, H), ints of the module -/
theorem q_notin2 {y z : Str} {i j : Int} {k : Nat} {fi : Nat → Int} (ha : QEv X scope x a fun c => .int (fi c)) (hy : QEv X scope x (.Name y p1) fun _ => .int i) (hz : QEv X scope x (.Name z p2) fun _ => .int j) (hm : behindInMarks .NotIn (.Tuple [.Name y p1, .Name z p2] k p3) = false := by with_unfolding_all rfl)
    (he : ∀ cenv : Env, starEach [.Name y p1, .Name z p2] cenv = [(false, eval (.Name y p1) cenv), (false, eval (.Name z p2) cenv)] := by intro _; rfl) :
    QEv X scope x (.Compare a [.NotIn] [.Tuple [.Name y p1, .Name z p2] k p3] pos) fun c => .bl (!([i, j].any (· == fi c))) := fun cenv A' E' c t m s q => by
  refine wpAny_Compare1 (wpAny_mono (ha cenv A' E' c t m s q) (fun va s1 r => ?_) fun _ _ z => z)
  obtain ⟨⟨t1, rfl⟩, k1⟩ := r
  refine wpAny_Tuple_spliced ?_
  rw [he cenv]
  show wpAny _ _ (spliced ((false, eval (.Name y p1) cenv) :: (false, eval (.Name z p2) cenv) :: [])) _ _ s1
  refine Calls.spliced_cons (wpAny_mono (hy cenv A' E' c t m s1 (q.on k1)) (fun vy s2 r => ?_) fun _ _ z => z)
  obtain ⟨⟨t2, rfl⟩, k2⟩ := r
  refine Calls.spliced_cons (wpAny_mono (hz cenv A' E' c t m s2 ((q.on k1).on k2)) (fun vz s3 r => ?_) fun _ _ z => z)
  obtain ⟨⟨t3, rfl⟩, k3⟩ := r
  refine Calls.spliced_nil ⟨by rw [sizeLine_eq]; exact Nat.le_of_ble_eq_true rfl, ?_⟩
  refine notin_tuple_ints (ns := [i, j]) ⟨_, Heap.get?_push_size _ rfl, rfl, 0, rfl⟩ (.cons _ _ (.cons _ _ .nil)) ⟨rfl, keeps_trans k1 (keeps_trans k2 (keeps_trans k3 ⟨_, _, rfl, fun b o e => Heap.get?_push_of_some _ e⟩))⟩
theorem q_one {op : BoolOp} (ha : QEv X scope x a fa) : QEv X scope x (.BoolOp op [a] pos) fa := fun cenv A' E' c t m s q => BoolOp_one (ha cenv A' E' c t m s q)
theorem q_and {rest : List Expr} {ba bb : Nat → Bool} (ha : QEv X scope x a fun c => .bl (ba c)) (hb : QEv X scope x (.BoolOp .And (b :: rest) pos) fun c => .bl (bb c)) : QEv X scope x (.BoolOp .And (a :: b :: rest) pos) fun c => .bl (ba c && bb c) := fun cenv A' E' c t m s q => by
  refine BoolOp_and (wpAny_mono (ha cenv A' E' c t m s q) (fun va s1 r => ?_) fun _ _ z => z)
  obtain ⟨rv, k1⟩ := r
  obtain rfl : va = Value.bool (ba c) := rv
  refine wpAny_truthy_bool ?_
  cases e : ba c with
  | false => exact ite_ff ⟨by show Value.bool false = Value.bool (ba c && bb c); rw [e]; rfl, k1⟩
  | true => exact ite_tt (wpAny_mono (hb cenv A' E' c t m s1 (q.on k1)) (fun vb s2 r => ⟨by have z : vb = Value.bool (bb c) := r.1; show vb = Value.bool (ba c && bb c); rw [z, e]; rfl, keeps_trans k1 r.2⟩) fun _ _ z => z)
end
end Mi

namespace Mi
open L2 PySem PySem.Spec PyProof.Rows

/-! ### name op= e -/
def sAug (i : Nat) (f : Op2) (F : EF) : SF := fun ε h => match ε[i]? with
  | some (some x) => (F ε h).st ε fun y h1 => (f x y h1).st ε fun z h2 => .nx (ε.set i (some z)) h2
  | _ => .stuck
def opIAdd : Op2 := opII (fun _ _ => true) (· + ·)
theorem iop_addM {X : Cx} : OpR X (inplaceOp .Add) (rI (fun _ _ => True) fun i j => .int (i + j)) := opI fun _ _ _ _ _ _ _ _ q => iadd_int q
theorem opIAdd_ok {K : PySem.W.Frag} {cls ts : List Addr} : OpS K cls ts (rI (fun _ _ => True) fun i j => .int (i + j)) opIAdd := opII_ok fun _ _ _ => trivial
section
variable {X : Cx} {W : WX} {cls ts : List Addr} {e : Expr} {es : List Expr} {F : EF} {A : AF} {pos p : Pos} {x : Str}
theorem s_aug {i : Nat} {op : Operator} {r : R2} {f : Op2} {pos' : Pos} (hN : X.N.Nodup) (hi : X.N[i]? = some x) (hx : Loc X.env.scope x) (ho : OpR X (inplaceOp op) r) (os : OpS X.K cls ts r f) (he : E' X cls ts W e F)
    (hf : X.fn x = true ∨ X.env.scope.names.lookup x = some .local := by first | exact .inl rfl | exact .inr rfl | assumption) : S' X cls ts W (.AugAssign (.Name x pos') op e pos) (sAug i f F) := by
  refine ⟨fun pins s σ H E I ⟨ρ, ε, h, hH, hE, q⟩ => (ps_aug (ti := r) hN hi hx he ho hf).run pins s σ H E I ?_⟩
  unfold sAug at q
  split at q <;> first | exact q.elim | skip
  rename_i d ed
  obtain ⟨v, ev, rv⟩ := hE.2 i d ed
  refine ⟨v, ev, tS_bind hH hE q fun ρ1 H1 y h1 dy _ e1 hH1 ry hE1 p1 => ?_⟩
  have p1' : PostS X.K cls ts W ρ1 H1 ((f d dy h1).st ε fun z h2 => .nx (ε.set i (some z)) h2) E := p1
  refine os (fun c dd H' => W c dd σ H') ρ1 H1 h1 v y d dy _ hH1 (rv.mono e1) ry ?_
  cases z : f d dy h1 with
  | stuck => rw [z] at p1'; exact p1'
  | exc k h' => rw [z] at p1'; exact fun ρ' H' c dd e2 hH2 rx => p1' ρ' H' σ c dd e2 hH2 (hE1.mono e2) rx
  | ok w h2 => rw [z] at p1'; exact fun ρ' H' u e2 hH2 ru => p1' ρ' H' _ e2 hH2 ((hE1.mono e2).set ru)

/-! ### a call of what a name holds -/
def cCallV (i : Nat) (Fs : List (Addr × FN)) (A : AF) : EF := fun ε h => match ε[i]? with
  | some (some (.own a)) => match Fs.lookup a with
    | some c => (A ε h).bind c
    | none => .stuck
  | _ => .stuck
/-- the def at f, whatever its name -/
structure CaA (P : Program) (w : World) (K : PySem.W.Frag) (mg : Str → Option Value) (base : Heap) (cls ts : List Addr) (k : Nat) (f : Addr) (c : FN) : Prop where
  ex : ∃ fd ps, FnG P w K mg base cls ts k f fd ps c ∧ PySem.W.keepIn K (.ref f) = true ∧ Binds K fd ps []
theorem e_callV {i k : Nat} {Fs : List (Addr × FN)} (hF : ∀ f c, Fs.lookup f = some c → CaA X.prog X.w X.K X.mg X.base cls ts k f c) (hgu : X.A.guards = some []) (hr : Room k X.A) (tk : Takes X W) (hN : X.N[i]? = some x) (ha : A' X cls ts W (e :: es) A)
    (hv : Vis X.env.scope x := by first | exact Or.inl rfl | exact Or.inr (Or.inl rfl) | exact Or.inr (Or.inr rfl)) (hdb : (x == ("__debug__" : Str)) = false := by decide) (hcd : (x == ("__classdict__" : Str)) = false := by decide)
    (he : starEach (e :: es) X.env = (false, eval e X.env) :: starEach es X.env := by rfl) (hpl : (backTo pos (starEach es X.env)).any (·.1) = false := by rfl) : E' X cls ts W (.Call (.Name x p) (e :: es) [] pos) (cCallV i Fs A) := by
  refine ⟨fun pins s σ H Q I ⟨ρ, ε, h, hH, hE, q⟩ => ?_⟩
  unfold cCallV at q
  split at q <;> first | exact q.elim | skip
  rename_i a ea
  split at q <;> first | exact q.elim | skip
  rename_i c ec
  obtain ⟨v, ev, rv⟩ := hE.2 i _ ea
  cases rv
  obtain ⟨fd, ps, Fg, hk, hb⟩ := (hF a c ec).ex
  have q1 : tA X.K cls ts W A σ H (Rdy X.K cls ts c (fun u dd H' => W u dd σ H') Q) := tG_bind hH hE q fun ρ1 H1 vs h1 ds _ e1 hH1 rv hE1 p1 => ⟨ρ1, h1, ds, hH1, rv, p1⟩
  refine wpAny_Call_Name_kw (thn ((pe_var (pos := p) hN hv hdb hcd).run pins s σ H (fun v H1 => v = .ref a ∧ H1 = H) I ⟨.ref a, ev, rfl, rfl⟩) fun u s1 ⟨v, H1, I1, r1, z1, z2⟩ => ?_)
  subst z1 z2
  cases r1
  refine PySem.W.callWith_K (h₀ := X.base) I.ok.mod.kin hk (thn (ha.run pos pins s1 σ _ _ I1 q1) fun us s2 ⟨vs, H2, I2, r, ρ1, h1, ds, hH1, rv, p1⟩ => ⟨I2.kIn, ?_⟩) he hpl
  exact run_g Fg hgu hr tk (fun hl => by have z := hb s2 us I2.kIn (by rw [List.append_nil]; exact hl); rw [List.append_nil] at z; exact z) I2 r hH1 rv p1
/-- a def as a value -/
theorem e_fun {f : Addr} (hg : Gl X x) (hm : X.mg x = some (.ref f)) (hd : (x == ("__debug__" : Str)) = false := by decide) : E' X cls ts W (.Name x pos) (cC (.own f)) := e_glob hg hm (v := .ref f) rfl (fun _ _ _ => .own f) hd
end

/-! ### sum, max, abs, ord; extend -/
def asInt : D → Option Int
  | .int i => some i
  | _ => none
section
variable {K : PySem.W.Frag} {cls ts ρ : List Addr} {H : Hp} {h : AH}
theorem ints_of : ∀ {xs : List V} {ds : List D} {ns : List Int}, RVs K ρ H xs ds → omap asInt ds = some ns → xs = ns.map V.int
  | _, _, _, .nil, e => by cases e; rfl
  | _, _, _, .cons r rs, e => by
    unfold omap at e
    split at e <;> first | (cases e; done) | skip
    rename_i y ys q1 q2
    cases e
    cases r <;> cases q1
    rw [ints_of rs q2] <;> rfl
def fSum : OpN
  | [.ref n], h => match h[n]? with
    | some (.lst ds) => match omap asInt ds with
      | some ns => .ok (.int ns.sum) h
      | none => .stuck
    | _ => .stuck
  | _, _ => .stuck
theorem sum_ok : CallS K cls ts (rSum K) fSum := by
  intro W ρ H h xs ds Q r rs p
  unfold fSum at p
  split at p <;> first | exact p.elim | skip
  obtain ⟨v, rfl, rv⟩ := rs.one
  cases rv with
  | ref q1 =>
    split at p <;> first | exact p.elim | skip
    rename_i e1
    split at p <;> first | exact p.elim | skip
    rename_i ns e2
    obtain ⟨us, k1, r1⟩ := r.lst q1 e1
    obtain rfl := ints_of r1 e2
    exact ⟨_, ns, rfl, SqL.of k1, post_val r (.int _) p⟩
def fAbs : OpN
  | [.int i], h => .ok (.int (if i < 0 then -i else i)) h
  | _, _ => .stuck
theorem abs_ok : CallS K cls ts (fun xs H Q => ∃ i, xs = [.int i] ∧ Q (.int (if i < 0 then -i else i)) H) fAbs := by
  intro W ρ H h xs ds Q r rs p
  unfold fAbs at p
  split at p <;> first | exact p.elim | skip
  obtain ⟨v, rfl, rv⟩ := rs.one
  cases rv
  exact ⟨_, rfl, post_val r (.int _) p⟩
def fOrd : OpN
  | [.str x], h => if x.length = 1 then .ok (.int (x.cps.getD 0 0 : Nat)) h else .stuck
  | _, _ => .stuck
theorem ord_ok1 : CallS K cls ts (fun xs H Q => ∃ x, xs = [.str x] ∧ x.length = 1 ∧ Q (.int (x.cps.getD 0 0 : Nat)) H) fOrd := by
  intro W ρ H h xs ds Q r rs p
  unfold fOrd at p
  split at p <;> first | exact p.elim | skip
  obtain ⟨v, rfl, rv⟩ := rs.one
  cases rv
  split at p <;> first | exact p.elim | skip
  rename_i c
  exact ⟨_, rfl, c, post_val r (.int _) p⟩
def mExtend : OpM
  | .ref n, [.ref k], h => match h[n]?, h[k]? with
    | some (.lst xs), some (.lst ys) => if xs.length + ys.length ≤ sizeLine then .ok .non (h.set n (.lst (xs ++ ys))) else .stuck
    | _, _ => .stuck
  | _, _, _ => .stuck
theorem extend_ok : MtS K cls ts "list" rExtend mExtend := by
  intro W ρ H h x dx xs ds Q r rx rs p
  unfold mExtend at p
  split at p <;> first | exact p.elim | skip
  split at p <;> first | exact p.elim | skip
  rename_i e1 e2
  split at p <;> first | exact p.elim | skip
  rename_i c
  obtain ⟨v, rfl, rv⟩ := rs.one
  cases rx with
  | ref q1 =>
    cases rv with
    | ref q2 =>
      obtain ⟨us, k1, r1⟩ := r.lst q1 e1
      obtain ⟨ws, k2, r2⟩ := r.lst q2 e2
      exact ⟨_, _, _, _, rfl, rfl, k1, k2, by rw [r1.length, r2.length]; exact c, post_put (us := us) r q1 (r1.append r2) .non p⟩
end
end Mi

namespace Mi
open L2 PySem PySem.Spec PyProof.Rows

/-! ### == of unlike kinds, of unlike lengths -/
theorem dict_eq_str (l : Addr) (es : Array DictEntry) (n : Nat) (dd : Option Addr) (sl : Array (Option Value)) (b : Str) (u : Tok) :
    Meets (Builtin.«dict.__eq__» ⟨[.ref l, .str b u], []⟩) (fun _ R s => s.heap.get? l = some { cls := .type "dict", dict := dd, data := .dict es n, slots := sl } ∧ R (.ok (.ret .notImplemented)) s) :=
  .of_wp fun prog w A R s h => by obtain ⟨hp, g, d, tk, os⟩ := s; obtain ⟨hl, h⟩ := h; have f1 := F.sub_str_dict; wp_walk using wpAny_loadPart' hl; exact ⟨_, rfl, h⟩
theorem str_eq_dict (b : Str) (u : Tok) (l : Addr) (es : Array DictEntry) (n : Nat) (dd : Option Addr) (sl : Array (Option Value)) :
    Meets (Builtin.«str.__eq__» ⟨[.str b u, .ref l], []⟩) (fun _ R s => s.heap.get? l = some { cls := .type "dict", dict := dd, data := .dict es n, slots := sl } ∧ R (.ok (.ret .notImplemented)) s) :=
  .of_wp fun prog w A R s h => by obtain ⟨hp, g, d, tk, os⟩ := s; obtain ⟨hl, h⟩ := h; wp_walk using wpAny_loadPart' hl, wpAny_load hl; exact ⟨_, rfl, h⟩
theorem rc_dict_str {A : Around} {s : Shared} {l : Addr} {es : Array DictEntry} {n : Nat} {dd : Option Addr} {sl : Array (Option Value)} (b : Str) (u : Tok) (ho : s.heap.get? l = some { cls := .type "dict", dict := dd, data := .dict es n, slots := sl }) (hu : A.units < cLine) : SeqAt.RcAt A s (.ref l) (.str b u) false := fun prog w E Q h =>
  SeqAt.rc_eq_decline_or (k := false) ⟨_, ho, rfl⟩ (typeIs_str s b u) (by decide) F.sub_str_dict F.slot_dict_eq F.slot_str_eq_refl
    (fun _ hq => call_meets F.slot_dict_eq ⟨_, ho, rfl⟩ F.entry_dict_eq (F.args_dict_eq_2 _ _) (dict_eq_str l es n dd sl b u) ⟨ho, hq⟩)
    (fun _ hq => call_meets F.slot_str_eq_refl (typeIs_str s b u) F.entry_str_eq (F.args_str_eq_2 _ _) (str_eq_dict b u l es n dd sl) ⟨ho, hq⟩) (fun _ hq => wpAny_of_eq (rfl : isSame (.ref l) (.str b u) = pure false) hq) (.inr hu) h
/-- a list, a tuple, a dict stands at x -/
def Box (K : PySem.W.Frag) (H : Hp) (x : V) : Prop := ∃ a, x = .ref a ∧ ((∃ xs, SqL K H a xs) ∨ (∃ xs, SqT K H a xs) ∨ ∃ kvs, H a = some (.dK kvs))
/-- what is compared is none of it: a box and a text; two rows of unlike lengths, two of none -/
def rEqX (K : PySem.W.Frag) : R2 := fun x y H Q => (∃ z, y = .str z ∧ Box K H x ∧ Q (.bl false) H) ∨ (∃ a b xs ys, x = .ref a ∧ y = .ref b ∧ SqL K H a xs ∧ SqL K H b ys ∧ xs.length ≠ ys.length ∧ Q (.bl false) H) ∨
  ∃ a b xs ys, x = .ref a ∧ y = .ref b ∧ SqT K H a xs ∧ SqT K H b ys ∧ ((xs ≠ [] ∧ ys = [] ∧ Q (.bl false) H) ∨ (xs = [] ∧ ys = [] ∧ Q (.bl true) H))
theorem op_eqX {X : Cx} (hu : X.A.units + 64 < cLine) : OpR X (compareOp .Eq) (rEqX X.K) := by
  intro pins s σ H x y v u Q I rx ry h
  have hu0 : X.A.units < cLine := by omega
  have fin : ∀ {k : Bool}, Q (.bl k) H → SeqAt.RcAt X.A s v u k → wpAny (model X.prog X.w) X.A (compareOp .Eq v u) (EP X pins σ Q) X.xe s := fun {k} q r => r X.prog X.w _ _ ⟨.bl k, H, I, rfl, q⟩
  rcases h with ⟨z, rfl, ⟨a, rfl, hb⟩, q⟩ | ⟨a, b, xs, ys, rfl, rfl, ha, hb, ne, q⟩ | ⟨a, b, xs, ys, rfl, rfl, ha, hb, q⟩
  · obtain ⟨t, rfl⟩ := ry
    obtain rfl : v = Value.ref a := rx
    refine fin q ?_
    rcases hb with ⟨xs, hb⟩ | ⟨xs, hb⟩ | ⟨kvs, hb⟩
    · obtain ⟨us, _, p1, _⟩ := I.list hb
      exact SeqAt.RcAt.list_str z t p1.isList hu0
    · obtain ⟨us, _, p1, _⟩ := I.tuple hb
      exact SeqAt.RcAt.tuple_str z t p1 hu0
    · obtain ⟨_, _, vs, _, o, es, ep, ho, ex, hd, _⟩ := dk_of I.hok hb
      obtain ⟨oc, od, odt, osl⟩ := o
      obtain ⟨rfl, _⟩ := ex
      subst hd
      exact rc_dict_str z t ho hu0
  · obtain rfl : v = Value.ref a := rx
    obtain rfl : u = Value.ref b := ry
    obtain ⟨us, r1, p1, _⟩ := I.list ha
    obtain ⟨ws, r2, p2, _⟩ := I.list hb
    refine fin q (SeqAt.RcAt.lists_lengths p1.isList p2.isList ?_ hu0)
    rw [bne_iff_ne, List.size_toArray, List.size_toArray, ← r1.length, ← r2.length]
    exact ne
  · obtain rfl : v = Value.ref a := rx
    obtain rfl : u = Value.ref b := ry
    obtain ⟨us, r1, p1, _⟩ := I.tuple ha
    obtain ⟨ws, r2, p2, _⟩ := I.tuple hb
    have go : ys = [] → SeqAt.RcAt X.A s (.ref a) (.ref b) (us.length == ws.length) := fun e => by
      subst e
      cases r2
      have z := SeqAt.RcAt.tuples (A := X.A) (e := fun _ => true) p1 p2 hu0 (fun j h1 h2 => absurd h2 (by simp))
      simpa using z
    rcases q with ⟨n1, e, q⟩ | ⟨n1, e, q⟩
    · refine fin q ?_
      have z := go e
      subst e
      cases r2
      cases r1 with
      | nil => exact absurd rfl n1
      | cons _ _ => exact z
    · refine fin q ?_
      have z := go e
      subst e n1
      cases r1
      cases r2
      exact z
end Mi

namespace Mi
open L2 PySem PySem.Spec PyProof.Rows

/-! ### ==, in: boxes, too -/
def isBox (x : D) (h : AH) : Bool :=
  match x with
  | .tup _ => true
  | .rol _ => true
  | .ref n => match h[n]? with
    | some (.lst _) => true
    | some (.dic _) => true
    | _ => false
  | _ => false
def lstD (x : D) (h : AH) : Option (List D) :=
  match x with
  | .rol xs => some xs
  | .ref n => match h[n]? with
    | some (.lst xs) => some xs
    | _ => none
  | _ => none
def eqX (x y : D) (h : AH) : Option Bool :=
  match y with
  | .str _ => if isBox x h = true then some false else none
  | .tup [] => match x with
    | .tup xs => some xs.isEmpty
    | _ => none
  | _ => match lstD x h, lstD y h with
    | some xs, some ys => if xs.length ≠ ys.length then some false else none
    | _, _ => none
def opEq2 : Op2 := fun x y h => match eqX x y h with
  | some b => .ok (.bl b) h
  | none => opEq x y h
theorem box_of {K : PySem.W.Frag} {cls ts ρ : List Addr} {H : Hp} {h : AH} {v : V} {d : D} (r : RH K cls ts ρ H h) (rv : RV K ρ H v d) (e : isBox d h = true) : Box K H v := by
  cases rv with
  | tup h1 r1 => exact ⟨_, rfl, .inr (.inl ⟨_, h1⟩)⟩
  | rol h1 r1 => exact ⟨_, rfl, .inl ⟨_, h1.sq⟩⟩
  | ref q1 =>
    simp only [isBox] at e
    split at e <;> first | (cases e; done) | skip
    · rename_i xs e1
      obtain ⟨us, k1, _⟩ := r.lst q1 e1
      exact ⟨_, rfl, .inl ⟨_, SqL.of k1⟩⟩
    · rename_i xs e1
      obtain ⟨us, k1, _⟩ := r.dic q1 e1
      exact ⟨_, rfl, .inr (.inr ⟨_, k1⟩)⟩
  | _ => cases e
theorem lst_of {K : PySem.W.Frag} {cls ts ρ : List Addr} {H : Hp} {h : AH} {v : V} {d : D} {ds : List D} (r : RH K cls ts ρ H h) (rv : RV K ρ H v d) (e : lstD d h = some ds) : ∃ a xs, v = .ref a ∧ SqL K H a xs ∧ xs.length = ds.length := by
  cases rv with
  | rol h1 r1 => cases e; exact ⟨_, _, rfl, h1.sq, r1.length⟩
  | ref q1 =>
    simp only [lstD] at e
    split at e <;> cases e
    rename_i e1
    obtain ⟨us, k1, r1⟩ := r.lst q1 e1
    exact ⟨_, _, rfl, SqL.of k1, r1.length⟩
  | _ => cases e
theorem op_eq2 {X : Cx} (hu : X.A.units + 64 < cLine) : OpR X (compareOp .Eq) (fun x y H Q => rEqX X.K x y H Q ∨ rEqM X.K x y H Q) := (op_eqX hu).or (op_eqM hu)
theorem opEq2_ok {K : PySem.W.Frag} {cls ts : List Addr} : OpS K cls ts (fun x y H Q => rEqX K x y H Q ∨ rEqM K x y H Q) opEq2 := by
  intro W ρ H h x y dx dy Q r rx ry p
  unfold opEq2 at p
  split at p
  · rename_i b e
    refine .inl ?_
    unfold eqX at e
    split at e
    · split at e <;> cases e
      rename_i c
      cases ry
      exact .inl ⟨_, rfl, box_of r rx c, post_val r (.bl _) p⟩
    · split at e <;> cases e
      cases ry with
      | tup h2 r2 =>
        cases r2
        cases rx with
        | tup h1 r1 =>
          refine .inr (.inr ⟨_, _, _, _, rfl, rfl, h1, h2, ?_⟩)
          cases r1 with
          | nil => exact .inr ⟨rfl, rfl, post_val r (.bl _) p⟩
          | cons a b => exact .inl ⟨List.cons_ne_nil _ _, rfl, post_val r (.bl _) p⟩
    · split at e <;> first | (cases e; done) | skip
      rename_i xs ys e1 e2
      split at e <;> cases e
      rename_i c
      obtain ⟨a, us, rfl, h1, l1⟩ := lst_of r rx e1
      obtain ⟨b, ws, rfl, h2, l2⟩ := lst_of r ry e2
      exact .inr (.inl ⟨_, _, _, _, rfl, rfl, h1, h2, by rw [l1, l2]; exact c, post_val r (.bl _) p⟩)
  · exact .inr (opEq_ok _ _ _ _ _ _ _ _ _ r rx ry p)
/-- a box in a tuple of texts -/
theorem str_eq_box {X : Cx} {pins : List (Addr × Obj)} {σ : L2.St} {H : Hp} {s : Shared} {A : Around} {x : V} {u : Value} (I : L2.Inv X pins σ H s) (hb : Box X.K H x) (r : RelV x u) (hu : A.units < cLine) (b : Str) (t : Tok) : SeqAt.EqAt A s (.str b t) u false := by
  obtain ⟨a, rfl, hb⟩ := hb
  obtain rfl : u = Value.ref a := r
  rcases hb with ⟨xs, hb⟩ | ⟨xs, hb⟩ | ⟨kvs, hb⟩
  · obtain ⟨us, _, p1, _⟩ := I.list hb
    exact SeqAt.EqAt.str_list b t p1.isList hu
  · obtain ⟨us, _, p1, _⟩ := I.tuple hb
    exact SeqAt.EqAt.str_tuple b t p1 hu
  · obtain ⟨_, _, vs, _, o, es, ep, ho, ex, hd, _⟩ := dk_of I.hok hb
    obtain ⟨oc, od, odt, osl⟩ := o
    obtain ⟨rfl, _⟩ := ex
    subst hd
    intro prog w E Q h
    unfold eqBool
    refine wpAny_holding (wpAny_ite_split (fun hab => absurd (eq_of_beq hab) nofun) fun _ => wpAny_bind ?_)
    exact SeqAt.rc_eq_decline_or (k := false) (typeIs_str s b t) ⟨_, ho, rfl⟩ (by decide) F.sub_dict_str F.slot_str_eq F.slot_dict_eq_refl
      (fun _ hq => call_meets F.slot_str_eq (typeIs_str s b t) F.entry_str_eq (F.args_str_eq_2 _ _) (str_eq_dict b t a es ep od osl) ⟨ho, hq⟩)
      (fun _ hq => call_meets F.slot_dict_eq_refl ⟨_, ho, rfl⟩ F.entry_dict_eq (F.args_dict_eq_2 _ _) (dict_eq_str a es ep od osl b t) ⟨ho, hq⟩) (fun _ hq => wpAny_of_eq (rfl : isSame (.str b t) (.ref a) = pure false) hq) (.inr hu) (wpAny_truthy_bool h)
theorem vals_mem_str {zs : List Str} : ∀ {us : List Value}, Vals (zs.map V.str) us → ∀ u ∈ us, ∃ z t, u = Value.str z t := by
  induction zs with
  | nil => intro us r u hu; cases r; cases hu
  | cons z zs ih =>
    intro us r u hu
    cases r with
    | cons a b =>
      rcases List.mem_cons.mp hu with rfl | hu
      · obtain ⟨t, rfl⟩ := a
        exact ⟨z, t, rfl⟩
      · exact ih b u hu
def rInX (K : PySem.W.Frag) (n : Bool) : R2 := fun x y H Q => ∃ (p : Addr) (zs : List Str), y = .ref p ∧ SqT K H p (zs.map V.str) ∧ Box K H x ∧ Q (.bl n) H
theorem any_false {α : Type} (xs : Array α) : (xs.any fun _ => false) = false := by
  rw [← Array.any_toList]
  simp
theorem op_inX {X : Cx} (hu : X.A.units + 65 < cLine) : OpR X (compareOp .In) (rInX X.K false) := by
  rintro pins s σ H x y v u Q I rx ry ⟨p, zs, rfl, hs, hb, q⟩
  obtain rfl : u = Value.ref p := ry
  obtain ⟨us, r1, p1, _⟩ := I.tuple hs
  refine SeqAt.in_tupleAt (fun _ => false) p1 (fun w hw => ?_) ⟨.bl false, H, I, ?_, q⟩
  · obtain ⟨z, t, rfl⟩ := vals_mem_str r1 w (by simpa using hw)
    exact str_eq_box I hb rx (by show X.A.units + 1 < cLine; omega) z t
  · rw [any_false]
    rfl
theorem op_notInX {X : Cx} (hu : X.A.units + 65 < cLine) : OpR X (compareOp .NotIn) (rInX X.K true) := by
  rintro pins s σ H x y v u Q I rx ry ⟨p, zs, rfl, hs, hb, q⟩
  obtain rfl : u = Value.ref p := ry
  obtain ⟨us, r1, p1, _⟩ := I.tuple hs
  refine SeqAt.notIn_tupleAt (fun _ => false) p1 (fun w hw => ?_) ⟨.bl true, H, I, ?_, q⟩
  · obtain ⟨z, t, rfl⟩ := vals_mem_str r1 w (by simpa using hw)
    exact str_eq_box I hb rx (by show X.A.units + 1 < cLine; omega) z t
  · rw [any_false]
    rfl
def inX (x y : D) (h : AH) : Bool := match y with
  | .tup ys => isBox x h && (omap asStr ys).isSome
  | _ => false
def opIn2 : Op2 := fun x y h => if inX x y h = true then .ok (.bl false) h else opIn x y h
def opNotIn2 : Op2 := fun x y h => if inX x y h = true then .ok (.bl true) h else opNotIn x y h
section
variable {K : PySem.W.Frag} {cls ts ρ : List Addr} {H : Hp} {h : AH}
theorem inX_ok {n : Bool} {x y : V} {dx dy : D} {Q : VK} (r : RH K cls ts ρ H h) (rx : RV K ρ H x dx) (ry : RV K ρ H y dy) (e : inX dx dy h = true) (q : Q (.bl n) H) : rInX K n x y H Q := by
  unfold inX at e
  split at e <;> first | (cases e; done) | skip
  cases ry with
  | tup h2 r2 =>
    rw [Bool.and_eq_true] at e
    obtain ⟨zs, ez⟩ := Option.isSome_iff_exists.mp e.2
    rw [strs_of r2 ez] at h2
    exact ⟨_, zs, rfl, h2, box_of r rx e.1, q⟩
theorem opIn2_ok : OpS K cls ts (fun x y H Q => rInX K false x y H Q ∨ rInM K x y H Q) opIn2 := by
  intro W ρ H h x y dx dy Q r rx ry p
  unfold opIn2 at p
  split at p
  · rename_i c
    exact .inl (inX_ok r rx ry c (post_val r (.bl _) p))
  · exact .inr (opIn_ok _ _ _ _ _ _ _ _ _ r rx ry p)
theorem opNotIn2_ok : OpS K cls ts (fun x y H Q => rInX K true x y H Q ∨ rNotInM K x y H Q) opNotIn2 := by
  intro W ρ H h x y dx dy Q r rx ry p
  unfold opNotIn2 at p
  split at p
  · rename_i c
    exact .inl (inX_ok r rx ry c (post_val r (.bl _) p))
  · exact .inr (opNotIn_ok _ _ _ _ _ _ _ _ _ r rx ry p)
end
theorem op_in2 {X : Cx} (hu : X.A.units + 65 < cLine) : OpR X (compareOp .In) (fun x y H Q => rInX X.K false x y H Q ∨ rInM X.K x y H Q) := (op_inX hu).or (op_inM hu)
theorem op_notIn2 {X : Cx} (hu : X.A.units + 65 < cLine) : OpR X (compareOp .NotIn) (fun x y H Q => rInX X.K true x y H Q ∨ rNotInM X.K x y H Q) := (op_notInX hu).or (op_notInM hu)
end Mi

namespace Mi
open L2 PySem PySem.Spec PyProof.Rows

/-! ### the text of anything: dicts within rows, too -/
def pdx : Nat → AH → D → Option PyData
  | _, _, .non => some .none
  | _, _, .bl b => some (.bool b)
  | _, _, .int i => some (.int i)
  | _, _, .str x => some (.str x)
  | 0, _, _ => none
  | n + 1, h, .tup xs => (omap (pdx n h) xs).map .tuple
  | n + 1, h, .ref r => match h[r]? with
    | some (.lst xs) => (omap (pdx n h) xs).map .list
    | some (.dic kvs) => (omap (pdx n h) (kvs.map (·.2))).map fun ps => .dict ((kvs.map fun kv => keyP kv.1).zip ps)
    | _ => none
  | _, _, _ => none
theorem omap_length {α β : Type} {f : α → Option β} : ∀ {xs : List α} {ys : List β}, omap f xs = some ys → ys.length = xs.length
  | [], _, e => by cases e; rfl
  | x :: xs, ys, e => by
    unfold omap at e
    split at e <;> cases e
    rename_i q1 q2
    rw [List.length_cons, List.length_cons, omap_length q2]
theorem depthKv_zip {n : Nat} : ∀ {ks : List Key} {ps : List PyData}, ks.length = ps.length → PyData.depthAll ps ≤ n → PyData.depthKv ((ks.map keyP).zip ps) ≤ n
  | [], [], _, _ => by simp [PyData.depthKv]
  | k :: ks, p :: ps, e, h => by
    simp only [PyData.depthAll] at h
    have ih := depthKv_zip (ks := ks) (ps := ps) (by simpa using e) (Nat.le_trans (Nat.le_max_right _ _) h)
    have h1 := Nat.le_trans (Nat.le_max_left _ _) h
    cases k <;> simp only [List.map_cons, List.zip_cons_cons, PyData.depthKv, keyP, PyData.depth] <;> omega
theorem pdx_depth {h : AH} : ∀ (n : Nat) (d : D) (p : PyData), pdx n h d = some p → p.depth ≤ n := by
  intro n
  induction n with
  | zero =>
    intro d p e
    cases d <;> simp only [pdx] at e <;> cases e <;> exact Nat.zero_le _
  | succ n ih =>
    intro d p e
    cases d with
    | tup xs =>
      simp only [pdx, Option.map_eq_some_iff] at e
      obtain ⟨ps, q, rfl⟩ := e
      simp only [PyData.depth]
      exact Nat.succ_le_succ (pd_depth ih q)
    | ref r =>
      simp only [pdx] at e
      split at e <;> first | (cases e; done) | skip
      · obtain ⟨ps, q, rfl⟩ := Option.map_eq_some_iff.mp e
        simp only [PyData.depth]
        exact Nat.succ_le_succ (pd_depth ih q)
      · rename_i kvs _
        obtain ⟨ps, q, rfl⟩ := Option.map_eq_some_iff.mp e
        simp only [PyData.depth]
        have l := omap_length q
        rw [show (kvs.map fun kv => keyP kv.1) = (kvs.map (·.1)).map keyP from by rw [List.map_map]; rfl]
        exact Nat.succ_le_succ (depthKv_zip (by rw [l, List.length_map, List.length_map]) (pd_depth ih q))
    | _ => first | (cases e; done) | (cases e; exact Nat.zero_le _)
section
variable {X : Cx} {pins : List (Addr × Obj)} {σ : L2.St} {H : Hp} {s : Shared} {cls ts ρ : List Addr} {h : AH}
theorem readsAll_x {f : D → Option PyData} (ih : ∀ v u d p, RV X.K ρ H v d → RelV v u → f d = some p → ∃ as, Reads s.heap u p as ∧ sysModules ∉ as) : ∀ {xs : List V} {us : List Value} {ds : List D} {ps : List PyData}, RVs X.K ρ H xs ds → Vals xs us → omap f ds = some ps →
    ∃ as, ReadsAll s.heap us ps as ∧ sysModules ∉ as
  | _, _, _, _, .nil, r, e => by
    cases e
    cases r
    exact ⟨[], .nil, List.not_mem_nil⟩
  | _, _, _, _, .cons a b, r, e => by
    unfold omap at e
    split at e <;> first | (cases e; done) | skip
    rename_i y ys q1 q2
    cases e
    cases r with
    | cons r1 r2 =>
      obtain ⟨as, k1, n1⟩ := ih _ _ _ _ a r1 q1
      obtain ⟨bs, k2, n2⟩ := readsAll_x ih b r2 q2
      exact ⟨_, .cons k1 k2, fun m => (List.mem_append.mp m).elim n1 n2⟩
theorem keys_x {P : Program} {w : World} {hh : Heap} : ∀ {es : List DictEntry} {vs : List (Key × Value)} {xs : List (Key × V)} {kvs : List (Key × D)}, PySem.Pairs (mixKind P w) es vs → KV xs vs → RKs X.K ρ H xs kvs →
    ReadsAll hh (es.map (·.key)) (kvs.map fun kv => keyP kv.1) [] ∧ Vals (xs.map (·.2)) (es.map (·.val)) ∧ RVs X.K ρ H (xs.map (·.2)) (kvs.map (·.2))
  | _, _, _, _, .nil, a, b => by
    cases a
    cases b
    exact ⟨.nil, .nil, .nil⟩
  | _, _, _, _, .cons (e := en) (kv := kv) k1 k2 rest, a, b => by
    cases a with
    | cons a1 a2 =>
      cases b with
      | cons b1 b2 =>
        obtain ⟨i1, i2, i3⟩ := keys_x (hh := hh) rest a2 b2
        refine ⟨.cons (as := []) ?_ i1, .cons ?_ i2, .cons b1.2 i3⟩
        · show Reads hh en.key (keyP _) []
          rw [← b1.1, a1.1]
          rcases keyIs_shape k1 with ⟨i, t, ek, ev⟩ | ⟨x, t, ek, ev⟩
          · rw [ek, ev]; exact .int _ _
          · rw [ek, ev]; exact .str _ _
        · show RelV _ en.val
          rw [k2]
          exact a1.2
theorem reads_x (I : L2.Inv X pins σ H s) (r : RH X.K cls ts ρ H h) : ∀ (n : Nat) (v : V) (u : Value) (d : D) (p : PyData), RV X.K ρ H v d → RelV v u → pdx n h d = some p → ∃ as, Reads s.heap u p as ∧ sysModules ∉ as := by
  obtain ⟨_, φ, sm⟩ := r.sm
  have ne : ∀ {a : Addr} {o : HO}, H a = some o → (∀ ψ, o ≠ .ext ψ) → sysModules ≠ a := fun {a o} e n z => by
    rw [← z, sm] at e
    cases e
    exact n _ rfl
  intro n
  induction n with
  | zero =>
    intro v u d p rv ru e
    exact ⟨[], reads_scalar (h := h) rv ru (by cases d <;> simp only [pdx] at e <;> first | (cases e; done) | exact e), List.not_mem_nil⟩
  | succ n ih =>
    intro v u d p rv ru e
    cases rv with
    | tup h1 r1 =>
      simp only [pdx, Option.map_eq_some_iff] at e
      obtain ⟨ps, q, rfl⟩ := e
      cases ru
      obtain ⟨its, rt, ⟨o, ho, hc, k, hd⟩, _⟩ := I.tuple h1
      obtain ⟨as, ra, na⟩ := readsAll_x ih r1 rt q
      exact ⟨_, .tuple ho hc hd ra, na⟩
    | ref q1 =>
      simp only [pdx] at e
      split at e <;> first | (cases e; done) | skip
      · rename_i xs e1
        obtain ⟨ps, q, rfl⟩ := Option.map_eq_some_iff.mp e
        obtain ⟨us, k1, r1⟩ := r.lst q1 e1
        cases ru
        obtain ⟨its, rt, ⟨o, k, ho, hc, _, hd⟩, _⟩ := I.list (SqL.of k1)
        obtain ⟨as, ra, na⟩ := readsAll_x ih r1 rt q
        exact ⟨_, .list ho hc hd ra, fun m => (List.mem_cons.mp m).elim (ne k1 fun _ z => by cases z) na⟩
      · rename_i kvs e1
        obtain ⟨ps, q, rfl⟩ := Option.map_eq_some_iff.mp e
        obtain ⟨us, k1, r1⟩ := r.dic q1 e1
        cases ru
        obtain ⟨_, nS, vs, kv, o, es, ep, ho, ex, hd, hk, hp, _⟩ := I.hok _ _ k1
        obtain ⟨i1, i2, i3⟩ := keys_x (hh := s.heap) hp kv r1
        obtain ⟨bs, rb, nb⟩ := readsAll_x ih i3 i2 q
        have l : ps.length = (kvs.map fun kv => keyP kv.1).length := by rw [omap_length q, List.length_map, List.length_map]
        refine ⟨_, .dict (as := []) (bs := bs) ho ex.1 hd (by rw [List.map_fst_zip (by omega)]; exact i1) (by rw [List.map_snd_zip (by omega)]; exact rb), fun m => ?_⟩
        rcases List.mem_cons.mp m with z | z
        · exact ne k1 (fun _ z => by cases z) z
        · exact nb z
    | non => exact ⟨[], reads_scalar (K := X.K) (ρ := ρ) (H := H) (h := h) .non ru e, List.not_mem_nil⟩
    | bl b => exact ⟨[], reads_scalar (K := X.K) (ρ := ρ) (H := H) (h := h) (.bl b) ru e, List.not_mem_nil⟩
    | int i => exact ⟨[], reads_scalar (K := X.K) (ρ := ρ) (H := H) (h := h) (.int i) ru e, List.not_mem_nil⟩
    | str x => exact ⟨[], reads_scalar (K := X.K) (ρ := ρ) (H := H) (h := h) (.str x) ru e, List.not_mem_nil⟩
    | _ => cases e
end
def reprX (d : D) (h : AH) : Option Str :=
  match pdx 60 h d with
  | some p => if p.showable = true ∧ p.shown.length ≤ sizeLine then some p.shown else none
  | none => none
def fRepr2 : OpN
  | [d], h => match reprX d h with
    | some x => .ok (.str x) h
    | none => .stuck
  | _, _ => .stuck
def rReprX (K : PySem.W.Frag) : List V → Hp → VK → Prop := fun xs H Q => ∃ (cls ts ρ : List Addr) (h : AH) (v : V) (d : D) (x : Str), xs = [v] ∧ RH K cls ts ρ H h ∧ RV K ρ H v d ∧ reprX d h = some x ∧ Q (.str x) H
theorem call_reprX {X : Cx} (hg : X.A.guards = some []) (hu : X.A.units + 64 < cLine) : CallR X (.builtin "repr") (rReprX X.K) := by
  rintro pins s σ H xs us Q I rs ⟨cls, ts, ρ, hh, v, d, x, rfl, rH, rv, e, q⟩
  obtain ⟨w, rfl, ru⟩ := vals1 rs
  unfold reprX at e
  split at e <;> first | (cases e; done) | skip
  rename_i p ep
  split at e <;> cases e
  rename_i c
  have fin : ∀ h' u tk, (∀ b o, s.heap.get? b = some o → h'.get? b = some o) → EP X pins σ Q (.str p.shown u) { s with heap := h', toks := tk } := fun h' u tk hk => ⟨.str p.shown, H, I.kept hk, ⟨_, rfl⟩, q⟩
  cases hv : v with
  | ref a =>
    subst hv
    obtain ⟨as, rd, na⟩ := reads_x I rH 60 _ _ _ _ rv ru ep
    obtain rfl : w = Value.ref a := ru
    exact repr_of_reads' rd c.1 (fun _ => na) hg (by have := pdx_depth _ _ _ ep; omega) (fun _ _ e => e) (fun h' u tk hk => fin h' u tk hk) c.2
  | _ =>
    subst hv
    have e0 : pd 0 hh d = some p := by cases rv <;> simpa [pd, pdx] using ep
    exact repr_scalar rv ru e0 c.1 c.2 fun t k => fin s.heap t k fun _ _ e => e
theorem repr_ok2 {K : PySem.W.Frag} {cls ts : List Addr} : CallS K cls ts (rReprX K) fRepr2 := by
  intro W ρ H h xs ds Q r rs p
  unfold fRepr2 at p
  split at p <;> first | exact p.elim | skip
  obtain ⟨v, rfl, rv⟩ := rs.one
  split at p <;> first | exact p.elim | skip
  rename_i d _ x e
  exact ⟨cls, ts, ρ, h, v, d, x, rfl, r, rv, e, post_val r (.str _) p⟩
end Mi

namespace Mi
open L2 PySem PySem.Spec PyProof.Rows

/-! ### what a name may hold -/
theorem Ca.at {P : Program} {w : World} {K : PySem.W.Frag} {mg : Str → Option Value} {base : Heap} {cls ts : List Addr} {j k : Nat} {x : Str} {st : Stmt} {ps : List Str} {c : FN} {a : Addr} (C : Ca P w K mg base cls ts j x st ps c) (b : Bd x st ps) (m : mg x = some (.ref a)) (h : j ≤ k) : CaA P w K mg base cls ts k a c := by
  obtain ⟨f, cdv, fd, D, F⟩ := C.ex
  have e := D.mg.symm.trans m
  cases e
  exact ⟨fd, ps, F.mono h, D.kp.1, D.binds b⟩
theorem held_of {P : Program} {w : World} {K : PySem.W.Frag} {mg : Str → Option Value} {base : Heap} {cls ts : List Addr} {j1 j2 k : Nat} {x1 x2 : Str} {st1 st2 : Stmt} {ps1 ps2 : List Str} {c1 c2 : FN} {a1 a2 : Addr} (C1 : Ca P w K mg base cls ts j1 x1 st1 ps1 c1) (b1 : Bd x1 st1 ps1) (m1 : mg x1 = some (.ref a1))
    (C2 : Ca P w K mg base cls ts j2 x2 st2 ps2 c2) (b2 : Bd x2 st2 ps2) (m2 : mg x2 = some (.ref a2)) (h1 : j1 ≤ k) (h2 : j2 ≤ k) (f : Addr) (c : FN) (q : [(a1, c1), (a2, c2)].lookup f = some c) : CaA P w K mg base cls ts k f c := by
  simp only [List.lookup] at q
  split at q
  · rename_i e
    cases q
    rw [eq_of_beq e]
    exact C1.at b1 m1 h1
  · split at q
    · rename_i e
      cases q
      rw [eq_of_beq e]
      exact C2.at b2 m2 h2
    · cases q
/-- a generator expression's scope without captured names, with names of the module -/
def genC2 (scope : Scope) (x : Str) : Bool := (match scope.kind with | .function => true | _ => false) && !scope.isCoroutine && (scope.names.all fun y => match y.2 with | .local => true | .globalImplicit => true | _ => false) &&
  (match scope.names.lookup (".0" : Str) with | some .local => true | _ => false) && (match scope.names.lookup x with | some .local => true | _ => false)
theorem genS_by2 {env : Env} {scope : Scope} {x : Str} (h : genC2 scope x = true) : GxR.GenS env scope x := by
  simp only [genC2, Bool.and_eq_true, List.all_eq_true] at h
  obtain ⟨⟨⟨⟨h1, h2⟩, h3⟩, h4⟩, h5⟩ := h
  refine ⟨?_, by simpa using h2, fun y hy e => ?_, ?_, ?_, fun y hy e => ?_⟩
  · split at h1 <;> first | assumption | cases h1
  · have := h3 y hy
    rw [e] at this
    cases this
  · split at h4 <;> first | assumption | cases h4
  · split at h5 <;> first | assumption | cases h5
  · have := h3 y hy
    rw [e] at this
    cases this
/-! ### max(.., default = e) of a list of ints -/
def cMaxD (F G : EF) : EF := fun ε h => (F ε h).bind fun d h1 => (G ε h1).bind fun e h2 => match d with
  | .ref n => match h2[n]? with
    | some (.lst ds) => match omap asInt ds with
      | some [] => .ok e h2
      | some (i :: is) => .ok (.int (is.foldl max i)) h2
      | none => .stuck
    | _ => .stuck
  | _ => .stuck
end Mi

namespace Mi
open L2 PySem PySem.Spec PyProof.Rows

/-! ### max(.., default = e): the loop -/
def bestOf : List Int → Option Int
  | [] => none
  | i :: is => some (is.foldl max i)
theorem bestOf_snoc (xs : List Int) (x : Int) : bestOf (xs ++ [x]) = some (match bestOf xs with | some b => max b x | none => x) := by
  cases xs with
  | nil => rfl
  | cons i is => simp [bestOf, List.foldl_append]
/-- what the loop's list holds -/
def Holds2 (b : Option Int) (vs : Array Value) : Prop := match b with
  | none => vs = #[]
  | some i => ∃ t, vs = #[.int i t, .int i t]
theorem max_loopD {prog : Program} {w : World} {A : Around} {R : Result → Shared → Prop} {I l S : Addr} {items : Array Value} {ns : List Int} {d : Value} {s0 : Shared} (hh : A.handled = none) (hlI : l ≠ I) (hSI : S ≠ I) (hSl : S ≠ l) (hi : IntsAre items.toList ns)
    (hR : ∀ v h' tk, (match bestOf ns with | some i => ∃ t, v = .int i t | none => v = d) → (∀ b o, b ≠ I → b ≠ S → s0.heap.get? b = some o → h'.get? b = some o) → R (.ok (.ret v)) { s0 with heap := h', toks := tk }) :
    ∀ (k j : Nat) (hp : Heap) (tk c : Nat) (vs : Array Value), items.size - j = k → j ≤ items.size → hp.IsListIter I l j → hp.IsList l items → hp.get? S = some { cls := .type "list", dict := none, data := .seq vs c, slots := #[] } → Holds2 (bestOf (ns.take j)) vs →
      (∀ b o, b ≠ I → b ≠ S → s0.heap.get? b = some o → hp.get? b = some o) → codeAny (model prog w) A (.builtin "max.loop" ⟨[.ref I, .none, .ref S], [("default", d)]⟩) R { s0 with heap := hp, toks := tk } := by
  have Wk := Walks.list (prog := prog) (w := w) (A := A.in1) hh I l hlI items
  have nm : (toString "max" ++ toString ".loop" : String) = "max.loop" := by decide
  have ln : ns.length = items.size := by rw [← hi.length]; simp
  intro k
  induction k with
  | zero =>
    intro j hp tk c vs hk hj st sl hS hb kp
    have ej : j = items.size := by omega
    subst ej
    rw [← ln, List.take_length] at hb
    refine codeAny_builtin F.entry_max_loop ?_
    rw [Around.under_plainId F.plain_max_loop _]
    show wpAny _ A.in1 (seqItems? (.ref S) >>= _) _ _ _
    refine wpAny_bind (wpAny_seqItems hS rfl ?_)
    show wpAny _ A.in1 (tryCatch (pyNext (.ref I)) _ >>= _) _ _ _
    refine wpAny_bind (wpAny_tryCatch (Wk.done _ _ _ ⟨st, sl⟩ fun h' tk' kk => ?_))
    have hS' := kk S _ (by simpa using hSI) hS
    have kp' : ∀ b o, b ≠ I → b ≠ S → s0.heap.get? b = some o → h'.get? b = some o := fun b o n1 n2 e => kk b o (by simpa using n1) (kp b o n1 n2 e)
    cases q : bestOf ns with
    | none =>
      rw [q] at hb
      cases (show vs = #[] from hb)
      refine wpAny_bind (wpAny_rule (wpAny_pure ?_))
      exact hR d h' tk' (by rw [q]) kp'
    | some i =>
      rw [q] at hb
      obtain ⟨t, rfl⟩ := (show ∃ t, vs = #[.int i t, .int i t] from hb)
      show wpAny _ A.in1 (updateSeq S (fun _ => #[]) >>= _) _ _ _
      refine wpAny_bind (wpAny_updateSeq hS' rfl (wpAny_bind (wpAny_letGo (wpAny_pure ?_))))
      exact hR (.int i t) _ tk' (by rw [q]; exact ⟨t, rfl⟩) fun b o n1 n2 e => (Heap.get?_update_other _ _ (Ne.symm n2)).trans (kp' b o n1 n2 e)
  | succ k ih =>
    intro j hp tk c vs hk hj st sl hS hb kp
    have lt : j < items.size := by omega
    have ltn : j < ns.length := by omega
    refine codeAny_builtin F.entry_max_loop ?_
    rw [Around.under_plainId F.plain_max_loop _]
    show wpAny _ A.in1 (seqItems? (.ref S) >>= _) _ _ _
    refine wpAny_bind (wpAny_seqItems hS rfl ?_)
    show wpAny _ A.in1 (tryCatch (pyNext (.ref I)) _ >>= _) _ _ _
    refine wpAny_bind (wpAny_tryCatch (Wk.item j _ _ _ lt ⟨st, sl⟩ fun v h' tk' hv st' kk => ?_))
    have hS' := kk S _ (by simpa using hSI) hS
    have kp' : ∀ b o, b ≠ I → b ≠ S → s0.heap.get? b = some o → h'.get? b = some o := fun b o n1 n2 e => kk b o (by simpa using n1) (kp b o n1 n2 e)
    obtain ⟨x, t, rfl, ex⟩ := hi.at j v (by rw [Array.getElem?_toList]; exact hv)
    have tk1 : ns.take (j + 1) = ns.take j ++ [x] := by rw [List.take_succ, ex]; rfl
    have kI : ∀ (f : Obj → Obj) (o : Obj), h'.get? I = some o → (h'.update S f).get? I = some o := fun f o e => (Heap.get?_update_other _ _ hSI).trans e
    have kl : ∀ (f : Obj → Obj) (o : Obj), h'.get? l = some o → (h'.update S f).get? l = some o := fun f o e => (Heap.get?_update_other _ _ hSl).trans e
    have put_ : ∀ (w2 : Array Value) (tk2 : Nat), Holds2 (bestOf (ns.take (j + 1))) w2 → codeAny (model prog w) A (.builtin "max.loop" ⟨[.ref I, .none, .ref S], [("default", d)]⟩) R { s0 with heap := h'.update S (Obj.mapSeq fun _ => w2), toks := tk2 } := fun w2 tk2 hw =>
      ih (j + 1) _ tk2 _ w2 (by omega) (by omega) (st'.1.at (kI _)) (st'.2.at (kl _)) (Heap.get?_update_self _ hS' rfl) hw fun b o n1 n2 e => (Heap.get?_update_other _ _ (Ne.symm n2)).trans (kp' b o n1 n2 e)
    rw [tk1, bestOf_snoc] at put_
    cases q : bestOf (ns.take j) with
    | none =>
      rw [q] at hb put_
      cases (show vs = #[] from hb)
      show wpAny _ A.in1 (updateSeq S (fun _ => #[.int x t, .int x t]) >>= _) _ _ _
      refine wpAny_bind (wpAny_updateSeq hS' rfl ?_)
      rw [nm]
      exact wpAny_pure ⟨plainId_quiet F.plain_max_loop _, put_ #[.int x t, .int x t] tk' ⟨t, rfl⟩⟩
    | some i =>
      rw [q] at hb put_
      obtain ⟨u, rfl⟩ := (show ∃ t, vs = #[.int i t, .int i t] from hb)
      show wpAny _ A.in1 (tryCatch (holding [.int x t, .int x t] (richCompare .Gt (.int x t) (.int i u) >>= _)) _ >>= _) _ _ _
      refine wpAny_bind (wpAny_tryCatch (wpAny_holding (wpAny_bind (CmpOf.ints_gt (P := fun m v => ∃ t, v = .int (if m = 0 then x else i) t) (fun m => if m = 0 then x else i) (fun _ _ e => e) 0 1 (.int x t) (.int i u) _ _ _ ⟨t, rfl⟩ ⟨u, rfl⟩ ?_))))
      refine wpAny_bind (wpAny_holding (wpAny_truthy_bool (wpAny_bind (wpAny_letGo (wpAny_pure ?_)))))
      show wpAny _ A.in1 (if decide (x > i) = true then _ else _) _ _ _
      by_cases c1 : x > i
      · rw [decide_eq_true c1, if_pos rfl]
        refine wpAny_bind (wpAny_updateSeq hS' rfl (wpAny_bind (wpAny_letGo ?_)))
        rw [nm]
        exact wpAny_pure ⟨plainId_quiet F.plain_max_loop _, put_ #[.int x t, .int x t] tk' ⟨t, by simp only; rw [Int.max_eq_right (by omega)]⟩⟩
      · rw [decide_eq_false c1, if_neg Bool.false_ne_true]
        refine wpAny_bind (wpAny_letGo ?_)
        rw [nm]
        refine wpAny_pure ⟨plainId_quiet F.plain_max_loop _, ih (j + 1) _ tk' c _ (by omega) (by omega) st'.1 st'.2 hS' ?_ kp'⟩
        rw [tk1, bestOf_snoc, q]
        exact ⟨u, by simp only; rw [Int.max_eq_left (by omega)]⟩
/-- a built-in function, with named arguments, that may go on by a loop -/
theorem callB_kw {prog : Program} {w : World} {A : Around} {E Q : Value → Shared → Prop} {s : Shared} {id : String} {b : Builtin} {args : List Value} {kw : List (Str × Value)} (hk : builtinKind id = none) (hp : plainId id = true) (hb : entryFor table id = some b) (ha : argsOk id ⟨args, kw⟩)
    (hc : wpAny (model prog w) A.in1 (b ⟨args, kw⟩) (fun fin s' => match fin with
      | .done f => (match (Except.ok f : Result) with | .ok (.ret v) => Q v s' | .ok _ => False | .error e => E e s')
      | .again c => c.quiet = true ∧ codeAny (model prog w) A c (fun r s' => match r with | .ok (.ret v) => Q v s' | .ok _ => False | .error e => E e s') s') E s) : wpAny (model prog w) A (call (.builtin id) args kw) Q E s := by
  refine wpAny_call (codeAny_call_builtin hp hb ?_)
  simp only [checkBuiltinCall, hk]
  cases e : Manifest.signature? id with
  | none => exact wpAny_pure hc
  | some sig =>
    have e2 : Bind.checkArgs id sig ⟨args, kw⟩ = pure () := by simpa only [argsOk, e] using ha
    simp only [e2]
    exact wpAny_pure hc
theorem args_max_d (x d : Value) : argsOk "max" ⟨[x], [("default", d)]⟩ := by
  unfold argsOk
  kernel_rfl
theorem max_default {prog : Program} {w : World} {A : Around} {E Qe : Value → Shared → Prop} {l : Addr} {items : Array Value} {ns : List Int} {d : Value} {s : Shared} (hh : A.handled = none) (hl : s.heap.IsList l items) (hi : IntsAre items.toList ns)
    (h : ∀ v h' tk, (match bestOf ns with | some i => ∃ t, v = .int i t | none => v = d) → (∀ b o, s.heap.get? b = some o → h'.get? b = some o) → Qe v { s with heap := h', toks := tk }) : wpAny (model prog w) A (call (.builtin "max") [.ref l] [("default", d)]) Qe E s := by
  have nm : (toString "max" ++ toString ".loop" : String) = "max.loop" := by decide
  have lt : l < s.heap.objs.size := by
    obtain ⟨_, e, _⟩ := hl
    exact Heap.lt_size e
  refine callB_kw F.kind_max F.plain_max F.entry_max (args_max_d _ _) ?_
  show wpAny _ A.in1 (Builtin.Builtins.bindParams "max" ["key", "default"] 0 ⟨[], [("default", d)]⟩ >>= _) _ _ s
  refine wpAny_bind (wpAny_of_eq (show Builtin.Builtins.bindParams "max" ["key", "default"] 0 ⟨[], [("default", d)]⟩ = pure [none, some d] from rfl) ?_)
  refine wpAny_bind (wpAny_pure (wpAny_bind ?_))
  refine wpAny_pyIter_list hl (wpAny_bind (wpAny_newObj_type ?_))
  rw [nm]
  have k1 : ∀ b o, s.heap.get? b = some o → ((s.heap.push { cls := .type "list_iterator", data := .fields #[.ref l, .int 0 0] }).push { cls := .type "list", data := .seq #[] 0 }).get? b = some o := fun b o e => Heap.get?_push_of_some _ (Heap.get?_push_of_some _ e)
  have sz : (s.heap.push { cls := .type "list_iterator", data := .fields #[.ref l, .int 0 0] }).objs.size = s.heap.objs.size + 1 := Heap.size_push ..
  refine wpAny_pure ⟨plainId_quiet F.plain_max_loop _, ?_⟩
  refine max_loopD (s0 := s) (I := s.heap.objs.size) (l := l) (S := (s.heap.push { cls := .type "list_iterator", data := .fields #[.ref l, .int 0 0] }).objs.size) (items := items) (ns := ns) hh (Nat.ne_of_lt lt) (by rw [sz]; exact Nat.succ_ne_self _) (by rw [sz]; exact Nat.ne_of_gt (Nat.lt_succ_of_lt lt)) hi (fun v h' tk hv kp => ?_) items.size 0 _ s.toks 0 #[] rfl (Nat.zero_le _) ⟨_, Heap.get?_push_of_some _ (Heap.get?_push_size _ rfl), rfl, rfl⟩ ((hl.push _).push _) (Heap.get?_push_size _ rfl) rfl fun b o _ _ e => k1 b o e
  refine h v h' tk hv fun b o e => kp b o ?_ ?_ e
  · exact Nat.ne_of_lt (Heap.lt_size e)
  · rw [sz]
    exact Nat.ne_of_lt (Nat.lt_succ_of_lt (Heap.lt_size e))
theorem boot_max' : bootBuiltins "max" = some (.builtin "max") := by decide +kernel
theorem e_maxD {X : Cx} {W : WX} {cls ts : List Addr} {a d : Expr} {F G : EF} {p pos kp : Pos} (hc : X.calm = true) (hg : Gl X "max") (hm : X.mg "max" = none) (ha : E' X cls ts W a F) (hd : E' X cls ts W d G) (he : starEach [a] X.env = (false, eval a X.env) :: starEach [] X.env := by rfl) :
    E' X cls ts W (.Call (.Name "max" p) [a] [⟨some "default", d, kp⟩] pos) (cMaxD F G) := by
  refine ⟨fun pins s σ H Q I ⟨ρ, ε, h, hH, hE, q⟩ => ?_⟩
  have q1 : tA X.K cls ts W (aCons F aNil) σ H fun vs H1 => tA X.K cls ts W (aCons G aNil) σ H1 fun zs H2 => ∃ (l : Addr) (ns : List Int) (z : V), vs = [.ref l] ∧ zs = [z] ∧ SqL X.K H2 l (ns.map V.int) ∧ Q (match bestOf ns with | some i => .int i | none => z) H2 := by
    refine tG_bind (rel2 := relD X.K) (F := aCons F aNil) (G := fun ds h1 => (aCons G aNil ε h1).bind fun es h2 => match ds, es with
      | [.ref n], [e] => match h2[n]? with
        | some (.lst xs) => match omap asInt xs with
          | some [] => .ok e h2
          | some (i :: is) => .ok (.int (is.foldl max i)) h2
          | none => .stuck
        | _ => .stuck
      | _, _ => .stuck) hH hE (Q := Q) ?_ fun ρ1 H1 vs h1 ds _ e1 hH1 rv hE1 p1 => ?_
    · unfold cMaxD at q
      cases e1 : F ε h with
      | stuck => rw [e1] at q; exact q.elim
      | exc x h1 => rw [e1] at q; simpa [aCons, e1] using q
      | ok dv h1 =>
        rw [e1] at q
        simp only [Res.bind_ok] at q
        cases e2 : G ε h1 with
        | stuck => rw [e2] at q; exact q.elim
        | exc x h2 => rw [e2] at q; simpa [aCons, e1, e2, aNil] using q
        | ok ev h2 =>
          rw [e2] at q
          simp only [Res.bind_ok] at q
          simp only [aCons, e1, e2, aNil, Res.bind_ok]
          cases dv <;> exact q
    · refine tG_bind hH1 hE1 p1 fun ρ2 H2 zs h2 es _ e2 hH2 rz hE2 p2 => ?_
      split at p2 <;> first | exact p2.elim | skip
      obtain ⟨z, rfl, rz1⟩ := rz.one
      obtain ⟨v, rfl, rv1⟩ := rv.one
      have rv2 := rv1.mono e2
      cases rv2 with
      | ref q1 =>
        split at p2 <;> first | exact p2.elim | skip
        rename_i xs ex
        obtain ⟨us, k1, r1⟩ := hH2.lst q1 ex
        split at p2 <;> first | exact p2.elim | skip
        · rename_i ei
          obtain rfl := ints_of r1 ei
          exact ⟨_, [], z, rfl, rfl, SqL.of k1, post_val hH2 rz1 p2⟩
        · rename_i i is ei
          obtain rfl := ints_of r1 ei
          exact ⟨_, i :: is, z, rfl, rfl, SqL.of k1, post_val hH2 (.int _) p2⟩
  refine wpAny_Call_Name_kw (ld_blt I hg hm boot_max' (callWith_kw (thn ((a_cons ha a_nil he).run pos pins s σ H _ I q1) fun us s1 ⟨vs, H1, I1, r1, y⟩ => ?_) (by rw [he]; rfl) (by rw [he]; rfl)))
  refine thn ((k_cons hd k_nil).run pos pins s1 σ H1 _ I1 y) fun ws s2 ⟨zs, H2, I2, r2, l, ns, z, ev, ez, hs, q2⟩ => ?_
  subst ev ez
  obtain ⟨u, rfl, ru⟩ := vals1 r1
  obtain ⟨w, rfl, rw'⟩ := vals1 r2
  obtain rfl : u = Value.ref l := ru
  obtain ⟨its, rt, pl, _⟩ := I2.list hs
  show wpAny _ _ (call (.builtin "max") [.ref l] [("default", w)]) _ _ s2
  refine max_default (I2.ok.hd hc) pl.isList (ns := ns) (by simpa using rt.ints) fun v h' tk hv hk => ?_
  cases e : bestOf ns with
  | none =>
    rw [e] at hv q2
    cases (show v = w from hv)
    exact ⟨z, H2, I2.kept hk, rw', q2⟩
  | some i =>
    rw [e] at hv q2
    exact ⟨.int i, H2, I2.kept hk, hv, q2⟩
end Mi

/-! Mi27: exceptions of own classes: what the built-in class beneath says; they are made. -/
namespace Mi
open L2 PySem PySem.Spec PyProof.Rows
abbrev keTail : List Value := [.type "KeyError", .type "LookupError", .type "Exception", .type "BaseException", .type "object"]
abbrev ieTail : List Value := [.type "IndexError", .type "LookupError", .type "Exception", .type "BaseException", .type "object"]
abbrev veTail' : List Value := [.type "ValueError", .type "Exception", .type "BaseException", .type "object"]
theorem ke_store : StoreFacts "KeyError" keTail "object.__setattr__" "object" where
  mro := by kernel_rfl
  slot := .of (owner := "object") (n := "__setattr__") (by rw [typeLookup_type, builtinLookup_eq_fast]; kernel_rfl) (by decide +kernel) (by decide +kernel) (by decide +kernel)
    (by first | exact .inl (by decide +kernel) | exact .inr (by decide +kernel)) (by rw [isSubtype_type]; kernel_rfl)
  entry := PySem.F.entry_object_sa
  kind := by decide +kernel
  split := by decide +kernel
  hasOwner := by decide +kernel
  args := fun a b c => by unfold argsOk; kernel_rfl
  passes := fun self => by kernel_rfl
/-- what making one needs of the classes behind its own one: N makes it -/
structure Beh (N newId : String) (bm : List Value) : Prop where
  F : ∃ initId bmB, ExcBaseFacts N newId initId bmB
  hB : bm.contains (.type N) = true
  hA : bm.contains (.type "AttributeError") = false
  hN : bm.contains (.type "NameError") = false
end Mi
namespace PySem
namespace BehX
open Builtin Builtin.ObjectAttr
section
variable {prog : Program} {w : World} {A : Around} {E : Value → Shared → Prop} {R : Result → Shared → Prop} {h : Heap} {g : Array GenState} {d : Drawn} {t : Nat} {os : OsState}
variable {nm q : Str} {C D : Addr} {bs bm : List Value} {hdct : Bool} {sn : List Str} {sub : List Value} {ab : Bool} {col : Option Bool} {dd : Option Addr} {k0 k1 k2 k3 k5 : Option Value} {N newId : String}
theorem chk {M : Model} (Z : Mi.Beh N newId bm) {rest : List Value} {kw : List (Str × Value)} {Q : Unit → Shared → Prop} (hC : h.get? C = some (excClassObj nm q C D bs bm hdct sn sub ab col dd k0 k1 k2 k3 k5 newId)) (hq : Q () ⟨h, g, d, t, os⟩) : wpAny M A (checkBuiltinCall newId ⟨.ref C :: rest, kw⟩) Q E ⟨h, g, d, t, os⟩ := by
  obtain ⟨ini, bmB, F⟩ := Z.F
  have c1 : (Value.ref C :: bm).contains (.type N) = true := by rw [List.contains_cons, Z.hB, Bool.or_true]
  have c2 := F.noStar
  simp only [checkBuiltinCall, F.newKind, F.newSplit, F.newRow]
  repeat (first | refine wpAny_loadPart_at hC ?_ | (refine wpAny_isSubtype_exc hC ?_; rw [c1]) | refine wpAny_staticBase_exc hC ?_ | refine wpAny_madeBy_exc hC ?_ | simp only [bne_self_eq_false, Bool.false_eq_true, if_false] | wp_step)
  first | exact hq | (refine wpAny_pure ?_; exact hq) | skip
theorem new (Z : Mi.Beh N newId bm) {rest : List Value} {kw : List (Str × Value)} (hC : h.get? C = some (excClassObj nm q C D bs bm hdct sn sub ab col dd k0 k1 k2 k3 k5 newId))
    (hq : R (.ok (.ret (.ref (h.objs.size + 1)))) ⟨(h.push (W.kdv_tup rest)).push (HandSPX.excO C h.objs.size), g, d, t, os⟩) (hz : rest.length ≤ sizeLine) : codeAny (model prog w) A (.builtin newId ⟨.ref C :: rest, kw⟩) R ⟨h, g, d, t, os⟩ := by
  obtain ⟨ini, bmB, F⟩ := Z.F
  have c0 := F.ends
  have c1 : (Value.ref C :: bm).contains (.type N) = true := by rw [List.contains_cons, Z.hB, Bool.or_true]
  have c2 : (Value.ref C :: bm).contains (.type "AttributeError") = false := by rw [List.contains_cons, Z.hA]; rfl
  have c3 : (Value.ref C :: bm).contains (.type "NameError") = false := by rw [List.contains_cons, Z.hN]; rfl
  refine codeAny_builtinAt F.entry ?_
  unfold Builtin.«BaseException.__new__»
  refine wpAt_bind ?_
  show wpAt _ _ _ (stack >>= _) _ _ _
  refine wpAt_bind (wpAt_stack fun p below => wpAt_of_wpAny ?_)
  wp_walk
  refine wpAt_of_wpAny ?_
  rw [F.owner]
  repeat (first | with_reducible refine wpAny_madeHere_exc F.canon hC ?_ | with_reducible refine wpAny_loadPart_at hC ?_ | (with_reducible refine wpAny_isSubtype_exc hC ?_; first | rw [c1] | rw [c2] | rw [c3]) | wp_step)
  show R _ _
  rw [Heap.size_push]
  exact hq
theorem typ (Z : Mi.Beh N newId bm) {rest : List Value} {kw : List (Str × Value)} {fI : Addr} {Q : Fin → Shared → Prop}
    (hC : h.get? C = some (excClassObj nm q C D bs bm hdct sn sub ab col dd k0 k1 k2 k3 k5 newId))
    (hi : W.Looks (model prog w) h (typeLookup (.ref C) "__init__") (some (.ref fI))) (hb : ∀ self, W.Looks (model prog w) h (bindSpecial (.ref fI) self) (.ref fI, [self])) (hz : rest.length ≤ sizeLine)
    (hq : codeAny (model prog w) A (.call (.ref fI) ⟨.ref (h.objs.size + 1) :: rest, kw⟩)
      (fun r s' => match r with | .ok (.ret v) => v = .none ∧ Q (.done (.ret (.ref (h.objs.size + 1)))) s' | .ok _ => False | .error e => E e s')
      ⟨(h.push (W.kdv_tup rest)).push (HandSPX.excO C h.objs.size), g, d, t, os⟩) :
    wpAny (model prog w) A (Builtin.«type.__call__» ⟨.ref C :: rest, kw⟩) Q E ⟨h, g, d, t, os⟩ := by
  obtain ⟨ini, bmB, F⟩ := Z.F
  repeat (first | with_reducible refine wpAny_loadPart_at hC ?_ | with_reducible refine wpAny_madeBy_exc hC ?_ | wp_step)
  refine codeAny_call_builtin_code (Code.quiet_builtin _ F.quiet) (chk Z hC ?_)
  refine new Z hC ?_ hz
  show wpAny _ _ _ _ _ _
  have k : ∀ b o, h.get? b = some o → ((h.push (W.kdv_tup rest)).push (HandSPX.excO C h.objs.size)).get? b = some o := fun b o e => Heap.get?_push_of_some _ (Heap.get?_push_of_some _ e)
  have hC₁ := k _ _ hC
  have hg : ((h.push (W.kdv_tup rest)).push (HandSPX.excO C h.objs.size)).get? (h.objs.size + 1) = some (HandSPX.excO C h.objs.size) := by heap_get
  have c1 : (Value.ref C :: bm).contains (.ref C) = true := by simp
  have i1 := hi.keeps k
  have b1 := (hb (.ref (h.objs.size + 1))).keeps k
  unfold isInstance
  repeat (first | with_reducible refine wpAny_loadPart_at hg ?_ | (with_reducible refine wpAny_isSubtype_exc hC₁ ?_; rw [c1]) | wp_step)
  show wpAny _ _ (typeLookup (.ref C) _) _ _ _
  refine i1.at ?_
  refine wpAny_holding (wpAny_bind (b1.at ?_))
  refine wpAny_bind (wpAny_call (codeAny_mono hq fun r s' z => ?_))
  rcases r with e | (v | _ | _ | _) <;> first | exact z | exact z.elim | skip
  obtain ⟨rfl, z⟩ := z
  first
    | exact wpAny_pure (wpAny_pure z)
    | (wp_walk; exact z)
theorem tck {M : Model} {rest : List Value} {kw : List (Str × Value)} {Q : Unit → Shared → Prop} (hC : h.get? C = some (excClassObj nm q C D bs bm hdct sn sub ab col dd k0 k1 k2 k3 k5 newId)) (hq : Q () ⟨h, g, d, t, os⟩) : wpAny M A (checkBuiltinCall "type.__call__" ⟨.ref C :: rest, kw⟩) Q E ⟨h, g, d, t, os⟩ := by
  have f3 := tc_sub
  have hT : (⟨h, g, d, t, os⟩ : Shared).TypeIs (.ref C) "type" := ⟨_, hC, rfl⟩
  simp only [checkBuiltinCall, tc_kind, tc_split]
  repeat (any_goals (first | assumption | with_reducible refine wpAny_loadPart_at hC ?_ | with_reducible refine wpAny_onRaise ?_ | with_reducible refine wpAny_map ?_ | wp_step))
/-- C called, its __init__ a def: what is wanted of the def's call, at the new object -/
theorem call (Z : Mi.Beh N newId bm) {rest : List Value} {kw : List (Str × Value)} {fI : Addr}
    (hC : h.get? C = some (excClassObj nm q C D bs bm hdct sn sub ab col dd k0 k1 k2 k3 k5 newId))
    (hi : W.Looks (model prog w) h (typeLookup (.ref C) "__init__") (some (.ref fI))) (hb : ∀ self, W.Looks (model prog w) h (bindSpecial (.ref fI) self) (.ref fI, [self])) (hz : rest.length ≤ sizeLine)
    (hq : codeAny (model prog w) (A.under (.builtin "type.__call__" ⟨.ref C :: rest, kw⟩)) (.call (.ref fI) ⟨.ref (h.objs.size + 1) :: rest, kw⟩) (W.InitBack (h.objs.size + 1) R)
      ⟨(h.push (W.kdv_tup rest)).push (HandSPX.excO C h.objs.size), g, d, t, os⟩) :
    codeAny (model prog w) A (.call (.ref C) ⟨rest, kw⟩) R ⟨h, g, d, t, os⟩ := by
  have f1 := tc_lookup
  have f2 := tc_bind (.ref C)
  have hTy : (⟨h, g, d, t, os⟩ : Shared).TypeIs (.ref C) "type" := ⟨_, hC, rfl⟩
  refine codeAny_of_tree ?_
  show wpAny _ _ (callAny (.ref C) _) _ _ _
  repeat (any_goals (first | assumption | with_reducible refine wpAny_loadPart_at hC ?_ | wp_step))
  refine ⟨rfl, ?_⟩
  refine codeAny_call_builtin_at (Code.quiet_builtin _ (by decide +kernel)) entry_typeCall (tck hC (typ Z hC hi hb hz ?_))
  refine codeAny_mono hq fun r s' z => ?_
  rcases r with e | (v | _ | _ | _) <;> exact z
end
end BehX
end PySem

namespace PySem
namespace BehX
open Builtin Builtin.ObjectAttr
section
variable {prog : Program} {w : World} {A : Around} {E : Value → Shared → Prop} {hp : Heap} {g : Array GenState} {d : Drawn} {t : Nat} {os : OsState} {K : W.Frag} {name : Str} {tk : Tok} {v : Value} {x C dx : Addr} {fv : Array Value} {cd : ClassData} {b : Bool} {Q : Fin → Shared → Prop}
/-- the first field of an exception: its dict is made -/
theorem own_new (X : K.In hp) (hx : hp.get? x = some { cls := .ref C, data := .fields fv }) (hcd : W.clsIn K C = some cd) (hh : cd.hasDict = true)
    (hq : ∀ h' tk' dx, (∀ b o, b ≠ x → hp.get? b = some o → h'.get? b = some o) → hp.objs.size ≤ dx → dx ≠ x → h'.get? x = some { cls := .ref C, dict := some dx, data := .fields fv } →
      h'.Ns1 dx (fun y => if y = name then some v else none) → Q (.done (.ret .none)) ⟨h', g, d, tk', os⟩) : wpAny (model prog w) A (storeInOwnDict (.ref x) (.ref C) (.str name tk) name v b) Q E ⟨hp, g, d, t, os⟩ := by
  have hxs : x ≠ hp.objs.size := Nat.ne_of_lt (Heap.lt_size hx)
  have hcls : W.Looks (model prog w) hp (classData C) cd := W.looks_clsIn X hcd
  obtain ⟨nm, bs, mro, ns, qn, hd, sn, sb, ab, col, del⟩ := cd
  dsimp only at hh
  subst hh
  unfold storeInOwnDict ownDictForStores
  repeat (first | with_reducible refine HandSPX.store_in_new ?_ ?_ | with_reducible refine wpAny_loadPart_at hx ?_ | with_reducible refine hcls.at ?_ | wp_step)
  · exact ⟨_, #[], _, (Heap.get?_update_ne _ _ _ _ hxs.symm).trans (Heap.get?_push_at rfl rfl), rfl, fun e he => absurd he (by simp), fun _ => rfl⟩
  · intro h' tk' hn' hs
    have hx₁ : (hp.push { cls := .type "dict", data := .dict #[] }).get? x = some { cls := .ref C, data := .fields fv } := Heap.get?_push_of_some _ hx
    refine hq h' tk' hp.objs.size (fun b o hb ho => ?_) (Nat.le_refl _) hxs.symm ?_ hn'
    · exact (hs.2 b (Nat.ne_of_lt (Heap.lt_size ho))).trans ((Heap.get?_update_ne _ _ _ _ hb).trans (Heap.get?_push_of_some _ ho))
    · exact (hs.2 x hxs).trans (Heap.get?_update_self _ hx₁ rfl)
/-- a further field -/
theorem own_old {m0 : Str → Option Value} {nl : List Str} (X : K.In hp) (hx : hp.get? x = some { cls := .ref C, dict := some dx, data := .fields fv }) (hns : hp.Ns1 dx m0) (hw : Within m0 nl) (hz : nl.length ≤ 1000) (hcd : W.clsIn K C = some cd) (hh : cd.hasDict = true)
    (hq : ∀ h' tk', (∀ b o, b ≠ dx → hp.get? b = some o → h'.get? b = some o) → h'.Ns1 dx (fun y => if y = name then some v else m0 y) → Q (.done (.ret .none)) ⟨h', g, d, tk', os⟩) :
    wpAny (model prog w) A (storeInOwnDict (.ref x) (.ref C) (.str name tk) name v b) Q E ⟨hp, g, d, t, os⟩ := by
  obtain ⟨oD, esD, epD, hoD, hdD, _⟩ := hns.count hw
  have hcls : W.Looks (model prog w) hp (classData C) cd := W.looks_clsIn X hcd
  obtain ⟨nm, bs, mro, ns, qn, hd, sn, sb, ab, col, del⟩ := cd
  dsimp only at hh
  subst hh
  unfold storeInOwnDict ownDictForStores
  repeat (first | with_reducible refine OEX.store_in_old hns hw hz ?_ | with_reducible refine wpAny_loadPart_at hx ?_ | with_reducible refine hcls.at ?_ | wp_step)
  intro h' tk' hn' hs
  exact hq h' tk' (fun b o hb ho => (hs.2 b hb).trans ho) hn'
end
end BehX
end PySem
namespace Mi
open L2 PySem PySem.Spec PyProof.Rows
/-- what the written part says of an own exception class with an __init__ -/
structure XCls (K : PySem.W.Frag) (C : Addr) : Prop where
  cls : ∃ N newId B bmB nm q D bs bm sn sub ab col dd k0 k1 k2 k3 k5, K.lookup C = some (excClassObj nm q C D bs bm true sn sub ab col dd k0 k1 k2 k3 k5 newId) ∧ Beh N newId bm ∧ PySem.W.excTail bmB bm = true ∧ StoreFacts B bmB "object.__setattr__" "object"
  sa : PySem.W.findIn K (.ref C) "__setattr__" = some (some (.builtin "object.__setattr__"))
  exC : PySem.W.subIn K (.ref C) (.type "BaseException") = some true
  tyC : PySem.W.typeIn K (.ref C) = some (.type "type")
  kC : PySem.W.keepIn K (.ref C) = true
  ga : PySem.W.findIn K (.ref C) "__getattribute__" = some (some (.builtin "BaseException.__getattribute__"))
  gg : PySem.W.findIn K (.ref C) "__getattr__" = some none
theorem XCls.data {K : PySem.W.Frag} {C : Addr} (T : XCls K C) : ∃ cd B bmB, PySem.W.clsIn K C = some cd ∧ cd.hasDict = true ∧ PySem.W.excOver K C bmB = true ∧ StoreFacts B bmB "object.__setattr__" "object" := by
  obtain ⟨N, newId, B, bmB, nm, q, D, bs, bm, sn, sub, ab, col, dd, k0, k1, k2, k3, k5, hC, Z, ht, st⟩ := T.cls
  have hcl : PySem.W.clsIn K C = some { name := nm, bases := bs, mro := .ref C :: bm, ns := D, qualname := q, hasDict := true, slotNames := sn, subclasses := sub, abstract := ab, collection := col, hasDel := false } := by
    unfold PySem.W.clsIn
    rw [hC] <;> rfl
  refine ⟨_, B, bmB, hcl, rfl, ?_, st⟩
  unfold PySem.W.excOver
  rw [hcl]
  simp [ht]
section
variable {X : Cx} {pins : List (Addr × Obj)} {σ : L2.St} {H : Hp} {s : Shared} {a C dx : Addr} {f : Str} {y : V} {u : Value} {fs : List (Str × V)} {Q : Unit → Shared → Prop} {E : Value → Shared → Prop} {A : Around}
theorem xst_new (T : XCls X.K C) (I : Inv X pins σ H s) (e : H a = some (exo a C none)) (hno : PySem.W.takerIn X.K C f = some none) (ry : RelV y u)
    (h : ∀ dx s', H dx = none → dx ≠ a → Inv X pins σ (upd (upd H dx (exd dx [(f, y)])) a (exo a C (some dx))) s' → Q () s') : wpAny (model X.prog X.w) A (setAttr (.ref a) f u) Q E s := by
  obtain ⟨cd, B, bmB, hcl, hdd, hov, SF⟩ := T.data
  obtain ⟨t1, ho⟩ := exo_at I.hok e
  obtain ⟨hp, g, d, t, os⟩ := s
  refine PySem.W.set_plain I.kIn (od := none) ⟨ho, rfl, rfl, trivial⟩ T.sa (PySem.W.osa_openX (od := none) SF I.kIn ⟨ho, rfl, rfl, trivial⟩ hov hno fun b => ?_)
  refine PySem.BehX.own_new I.kIn ho hcl hdd (fun h' tk' dx k dn dne hx hn => ?_)
  have hnd : H dx = none := I.hok.fresh dn
  have nd : ∀ {b : Addr} {o : Obj}, hp.get? b = some o → b ≠ dx := fun {b o} q => Nat.ne_of_lt (Nat.lt_of_lt_of_le (Heap.lt_size q) dn)
  have na : ∀ {b : Addr}, H b = none → b ≠ a := fun {b} n z => by
    rw [z, e] at n
    cases n
  refine h dx _ hnd dne (I.un (t' := tk') (H' := upd (upd H dx (exd dx [(f, y)])) a (exo a C (some dx))) (h' := h') ?_ fun b o q => ?_)
  · exact {
      keep := fun b o q n _ _ => k b o (na n) q
      slot := fun b o q n _ _ => ⟨o.slots, k b o (na n) q⟩
      free := fun b o q n _ => by rw [upd_ne (na n), upd_ne (nd q)]; exact n
      there := fun b o q _ => by
        by_cases hb : b = a
        · exact ⟨_, by rw [hb]; exact hx⟩
        · exact ⟨o, k b o hb q⟩
      tups := fun b xs q => by rw [upd_ne (at_ne e q exo_tup), upd_ne (ne_of_none q hnd)]; exact q
      frzs := fun b o v q => by rw [upd_ne (at_ne e q exo_frz), upd_ne (ne_of_none q hnd)]; exact q
      tbls := fun b ps q => ⟨#[], by rw [upd_ne (at_ne e q exo_tbl), upd_ne (ne_of_none q hnd), q]; simp⟩ }
  by_cases hb : b = a
  · subst hb
    rw [upd_same] at q
    cases q
    exact exo_ok hx
  · rw [upd_ne hb] at q
    by_cases hd : b = dx
    · subst hd
      rw [upd_same] at q
      cases q
      exact exd_ok hn (relO_put (fs := []) ry fun g => True.intro)
    · rw [upd_ne hd] at q
      exact (I.hok b o q).stay (fun c v hc z => k c v (by
          rcases hc with hc | hc
          · rw [hc]; exact hb
          · exact at_ne e hc exo_own) z)
        (fun c hc => by rw [upd_ne (at_ne e hc exo_own), upd_ne (ne_of_none hc hnd)]; exact hc) (fun c xs hc => by rw [upd_ne (at_ne e hc exo_tup), upd_ne (ne_of_none hc hnd)]; exact hc)
theorem xst_old (T : XCls X.K C) (I : Inv X pins σ H s) (e : H a = some (exo a C (some dx))) (ed : H dx = some (exd dx fs)) (hl : fs.length ≤ 900) (hno : PySem.W.takerIn X.K C f = some none) (ry : RelV y u)
    (h : ∀ s', Inv X pins σ (upd H dx (exd dx ((f, y) :: fs))) s' → Q () s') : wpAny (model X.prog X.w) A (setAttr (.ref a) f u) Q E s := by
  obtain ⟨cd, B, bmB, hcl, hdd, hov, SF⟩ := T.data
  obtain ⟨t1, ho⟩ := exo_at I.hok e
  obtain ⟨mA, hns, rel⟩ := exd_at I.hok ed
  have hw := within_of rel
  obtain ⟨hp, g, d, t, os⟩ := s
  obtain ⟨oD, _, _, hoD, _, _⟩ := hns.count hw
  refine PySem.W.set_plain I.kIn (od := some oD) ⟨ho, rfl, rfl, hoD⟩ T.sa (PySem.W.osa_openX (od := some oD) SF I.kIn ⟨ho, rfl, rfl, hoD⟩ hov hno fun b => ?_)
  refine PySem.BehX.own_old I.kIn ho hns hw (by rw [List.length_map]; omega) hcl hdd (fun h' tk' k hn => ?_)
  have hd : ∃ o, h'.get? dx = some o := by
    obtain ⟨o, _, _, e', _⟩ := hn
    exact ⟨o, e'⟩
  exact h _ (I.write (t' := tk') (x := dx) (e := dx) (o := exd dx ((f, y) :: fs)) (by rw [ed]; exact True.intro) (.inl rfl) k hd (exd_ok hn (relO_put ry rel)))
end
/-- self.f = e -/
def tXst (K : PySem.W.Frag) (f : Str) (to te : TE) : TS := fun D σ H => te σ H fun y H1 => to σ H1 fun x H2 => ∃ a C : Addr, x = .ref a ∧ XCls K C ∧ PySem.W.takerIn K C f = some none ∧
  ((H2 a = some (exo a C none) ∧ ∀ dx, H2 dx = none → dx ≠ a → D.nx σ (upd (upd H2 dx (exd dx [(f, y)])) a (exo a C (some dx)))) ∨
    ∃ (dx : Addr) (fs : List (Str × V)), H2 a = some (exo a C (some dx)) ∧ H2 dx = some (exd dx fs) ∧ fs.length ≤ 900 ∧ D.nx σ (upd H2 dx (exd dx ((f, y) :: fs))))
theorem ps_xst {X : Cx} {o e : Expr} {to te : TE} {f : Str} {p' pos : Pos} (ho : PE X o to) (he : PE X e te) (hs : swapsWith e (some (.Attribute o f p')) pos.line X.env = pure false := by rfl) : PS X (.Assign [.Attribute o f p'] e pos) (tXst X.K f to te) := by
  refine ⟨fun pins s σ H D I h => ?_⟩
  refine plainObj_wpAny_Assign_Attribute (thn (he.run pins s σ H _ I h) fun v s1 ⟨y, H1, I1, r1, q1⟩ => thn (ho.run pins s1 σ H1 _ I1 q1) fun u s2 ⟨x, H2, I2, r2, a, C, ex, T, hno, q⟩ => ?_) hs
  subst ex
  obtain rfl : u = Value.ref a := r2
  rcases q with ⟨ea, q⟩ | ⟨dx, fs, ea, ed, hl, q⟩
  · exact xst_new T I2 ea hno r1 fun dx s' n ne J => ⟨σ, _, J, q dx n ne⟩
  · exact xst_old T I2 ea ed hl hno r1 fun s' J => ⟨σ, _, J, q⟩
end Mi

namespace Mi
open L2 PySem PySem.Spec PyProof.Rows
/-! ### __init__ of such a class -/
/-- its fields are what was handed in -/
def spX (C : Addr) (fns : List Str) : Sp := fun vs H Q _ => ∃ (a : Addr) (ws : List V), vs = .ref a :: ws ∧ ws.length = fns.length ∧ H a = some (exo a C none) ∧
  ∀ (d : Addr) (H' : Hp), H d = none → d ≠ a → H' a = some (exo a C (some d)) → H' d = some (exd d (fns.zip ws).reverse) → (∀ b, b ≠ a → b ≠ d → H' b = H b) → Q .non H'
theorem spX_len {C : Addr} {fns : List Str} {vs : List V} {H : Hp} {Q : VK} {E : XK} (h : spX C fns vs H Q E) : vs.length = (("self" : Str) :: fns).length := by
  obtain ⟨a, ws, rfl, l, _⟩ := h
  rw [List.length_cons, List.length_cons, l]
section
variable {K : PySem.W.Frag} {C : Addr} {f f1 f2 f3 : Str} {vs : List V} {H : Hp} {Q : VK} {E : XK}
theorem rd1 (T : XCls K C) (hf : PySem.W.takerIn K C f = some none) (h : spX C [f] vs H Q E) : tXst K f (tVar 0) (tVar 1) { nx := fun _ H' => Q .non H', rt := Q } (L2.start ["self", f] vs) H := by
  obtain ⟨a, ws, rfl, hl, ea, k⟩ := h
  match ws, hl with
  | [v], _ =>
    exact ⟨v, rfl, .ref a, rfl, a, C, rfl, T, hf, .inl ⟨ea, fun d n ne => k d _ n ne upd_same (by rw [upd_ne ne, upd_same]; rfl) fun b h1 h2 => by rw [upd_ne h1, upd_ne h2]⟩⟩
theorem rd3 (T : XCls K C) (hf1 : PySem.W.takerIn K C f1 = some none) (hf2 : PySem.W.takerIn K C f2 = some none) (hf3 : PySem.W.takerIn K C f3 = some none) (h : spX C [f1, f2, f3] vs H Q E) :
    tXst K f1 (tVar 0) (tVar 1) { nx := fun σ H => tXst K f2 (tVar 0) (tVar 2) { nx := fun σ H => tXst K f3 (tVar 0) (tVar 3) { nx := fun _ H' => Q .non H', rt := Q } σ H, rt := Q } σ H, rt := Q } (L2.start ["self", f1, f2, f3] vs) H := by
  obtain ⟨a, ws, rfl, hl, ea, k⟩ := h
  match ws, hl with
  | [v1, v2, v3], _ =>
    refine ⟨v1, rfl, .ref a, rfl, a, C, rfl, T, hf1, .inl ⟨ea, fun d n ne => ?_⟩⟩
    refine ⟨v2, rfl, .ref a, rfl, a, C, rfl, T, hf2, .inr ⟨d, [(f1, v1)], upd_same, by rw [upd_ne ne, upd_same], by simp, ?_⟩⟩
    refine ⟨v3, rfl, .ref a, rfl, a, C, rfl, T, hf3, .inr ⟨d, [(f2, v2), (f1, v1)], by rw [upd_ne (Ne.symm ne), upd_same], upd_same, by simp, ?_⟩⟩
    exact k d _ n ne (by rw [upd_ne (Ne.symm ne), upd_ne (Ne.symm ne), upd_same]) (by rw [upd_same]; rfl) fun b h1 h2 => by rw [upd_ne h2, upd_ne h2, upd_ne h1, upd_ne h2]
end
/-! ### C(..) -/
section
variable {X : Cx} {C fI : Addr} {fd : FuncData} {fns : List Str}
/-- what is known of C and its __init__ -/
structure XIni (P : Program) (w : World) (K : PySem.W.Frag) (mg : Str → Option Value) (base : Heap) (C : Addr) (fns : List Str) (fI : Addr) (fd : FuncData) : Prop where
  cls : XCls K C
  iC : PySem.W.findIn K (.ref C) "__init__" = some (some (.ref fI))
  tI : PySem.W.typeIn K (.ref fI) = some (.type "function")
  fn : FnOk P w K mg base L2.CX0 1 fI fd (("self" : Str) :: fns) (spX C fns)
/-- the made one, as it stands in the tracked heap -/
def XNew (C : Addr) (fns : List Str) (ws : List V) (H : Hp) (v : V) (H' : Hp) : Prop := ∃ a d : Addr, v = .ref a ∧ H a = none ∧ H d = none ∧ d ≠ a ∧ H' a = some (exo a C (some d)) ∧ H' d = some (exd d (fns.zip ws).reverse) ∧ ∀ b, b ≠ a → b ≠ d → H' b = H b
theorem run_x {pins : List (Addr × Obj)} {σ : L2.St} {H : Hp} {s : Shared} {us zs : List Value} {ws : List V} {kw : List (Str × Value)} (T : XIni X.prog X.w X.K X.mg X.base C fns fI fd) (hr : Room 2 X.A) (I : Inv X pins σ H s) (r : Vals ws zs) (hlw : ws.length = fns.length) (hus : us.length ≤ sizeLine)
    (hb : ∀ (s : Shared) (self : Value), X.K.In s.heap → BindsTo s fd ⟨self :: us, kw⟩ ((("self" : Str) :: fns).zip (self :: zs))) :
    wpAny (model X.prog X.w) X.A (call (.ref C) us kw) (EP X pins σ (XNew C fns ws H)) X.xe s := by
  obtain ⟨N, newId, B, bmB, nm, q, D, bs, bm, sn, sub, ab, col, dd, k0, k1, k2, k3, k5, hC, Z, _⟩ := T.cls.cls
  obtain ⟨hp, g, dr, tk, os⟩ := s
  have hsz : hp.objs.size ≤ hp.objs.size + 1 := Nat.le_succ _
  have hn : H (hp.objs.size + 1) = none := I.hok.fresh hsz
  have kk : ∀ b o, hp.get? b = some o → ((hp.push (PySem.W.kdv_tup us)).push (PySem.HandSPX.excO C hp.objs.size)).get? b = some o := fun b o e => Heap.get?_push_of_some _ (Heap.get?_push_of_some _ e)
  have hget : ((hp.push (PySem.W.kdv_tup us)).push (PySem.HandSPX.excO C hp.objs.size)).get? (hp.objs.size + 1) = some (PySem.HandSPX.excO C hp.objs.size) := by heap_get
  have I2 : Inv X pins σ (upd H (hp.objs.size + 1) (exo (hp.objs.size + 1) C none)) ⟨(hp.push (PySem.W.kdv_tup us)).push (PySem.HandSPX.excO C hp.objs.size), g, dr, tk, os⟩ :=
    I.laid (t' := tk) (a := hp.objs.size + 1) (o := exo (hp.objs.size + 1) C none) (h' := (hp.push (PySem.W.kdv_tup us)).push (PySem.HandSPX.excO C hp.objs.size)) kk hsz (exo_ok hget)
  have r2 : Vals (V.ref (hp.objs.size + 1) :: ws) (Value.ref (hp.objs.size + 1) :: zs) := .cons rfl r
  have hq : spX C fns (.ref (hp.objs.size + 1) :: ws) (upd H (hp.objs.size + 1) (exo (hp.objs.size + 1) C none)) (fun v H2 => v = .non ∧ XNew C fns ws H (.ref (hp.objs.size + 1)) H2) (fun _ _ _ => False) := by
    refine ⟨_, ws, rfl, hlw, upd_same, fun d H' nd ne ha hd ho => ⟨rfl, _, d, rfl, hn, ?_, ne, ha, hd, fun b h1 h2 => ?_⟩⟩
    · rw [upd_ne ne] at nd; exact nd
    · rw [ho b h1 h2, upd_ne h1]
  refine wpAny_call (PySem.BehX.call Z (I.kIn _ _ hC) (PySem.W.looks_findIn I.kIn T.iC) (fun self => PySem.W.bind_fn I.kIn self T.tI) hus
    (codeAny_mono (T.fn.run _ X.stack _ _ ⟨Value.ref (hp.objs.size + 1) :: us, kw⟩ (Value.ref (hp.objs.size + 1) :: zs) _ _ (fun _ _ _ => False) (hr.make C us kw) (I2.env0.make C us kw) (hb _ _ I2.kIn) r2 hq) fun r s' hq' => ?_))
  cases r with
  | error er => exact hq'.elim
  | ok fl =>
    cases fl with
    | ret u =>
      obtain ⟨v, H', I3, rv, ev, q3⟩ := I2.after hq'
      subst ev
      exact ⟨rv, ⟨V.ref (hp.objs.size + 1), H', I3, rfl, q3⟩⟩
    | next => exact False.elim hq'
    | brk => exact False.elim hq'
    | cont => exact False.elim hq'
end
end Mi

namespace Mi
open L2 PySem PySem.Spec PyProof.Rows
/-! ### what is made, in the store's words -/
section
variable {X : Cx} {pins : List (Addr × Obj)} {σ : L2.St} {H H' : Hp} {s : Shared} {C : Addr} {fns : List Str} {ws : List V} {v : V} {cls ts ρ : List Addr} {h : AH}
theorem ext_two {a d : Addr} (ha : H a = none) (hd : H d = none) (o : ∀ b, b ≠ a → b ≠ d → H' b = H b) (hH : RH X.K cls ts ρ H h) : Ext ts ρ ρ H H' ∧ RH X.K cls ts ρ H' h := by
  have k : ∀ b u, H b = some u → H' b = some u := fun b u e => by
    rw [o b (ne_of_none e ha) (ne_of_none e hd)]; exact e
  have e : Ext ts ρ ρ H H' := ⟨List.prefix_refl _, fun _ h n => absurd h n, fun b u e _ _ => k b u e, fun b _ e => k b _ e, fun b _ _ e => k b _ e, fun b e => by
    cases q : H b with
    | none => rfl
    | some u => rw [k b u q] at e; cases e⟩
  exact ⟨e, hH.keepAll e k⟩
theorem frz_ok {P : Program} {w : World} {H : Hp} {h : Heap} {a : Addr} {o : Obj} (e : h.get? a = some o) : ObjOk P w H h a (.frz o (.own a)) := ⟨e, o, e⟩
/-- an exception that nobody changes -/
theorem xnew_xo (I : Inv X pins σ H' s) (n : XNew C fns ws H v H') (hH : RH X.K cls ts ρ H h) : ∃ H3, Inv X pins σ H3 s ∧ Ext ts ρ ρ H H3 ∧ RH X.K cls ts ρ H3 h ∧ RV X.K ρ H3 v (.xo C) := by
  obtain ⟨a, d, rfl, na, nd, ne, ea, ed, o⟩ := n
  obtain ⟨t1, ho⟩ := exo_at I.hok ea
  obtain ⟨mA, ⟨od, es, ep, hod, hrest⟩, _⟩ := exd_at I.hok ed
  have I1 := I.write (t' := s.toks) (h' := s.heap) (x := d) (e := d) (o := .frz od (.own d)) (by rw [ed]; exact True.intro) (.inl rfl) (fun _ _ _ e => e) ⟨_, hod⟩ (frz_ok hod)
  have I2 := I1.write (t' := s.toks) (h' := s.heap) (x := a) (e := a) (o := .frz { cls := .ref C, dict := some d, data := .fields #[.ref t1, .none, .none, .none, .bool false, .none] } (.own a)) (by rw [upd_ne (Ne.symm ne), ea]; exact True.intro) (.inl rfl) (fun _ _ _ e => e) ⟨_, ho⟩ (frz_ok ho)
  obtain ⟨e, r⟩ := ext_two (H' := upd (upd H' d (.frz od (.own d))) a (.frz { cls := .ref C, dict := some d, data := .fields #[.ref t1, .none, .none, .none, .bool false, .none] } (.own a))) na nd (fun b h1 h2 => by rw [upd_ne h1, upd_ne h2, o b h1 h2]) hH
  refine ⟨_, I2, e, r, .xo ⟨_, _, upd_same, rfl, ⟨_, rfl⟩, .inr ⟨d, od, .own d, rfl, ?_⟩⟩⟩
  rw [upd_ne ne, upd_same]
end
theorem lookup_mem {f : Str} {v : V} : ∀ {l : List (Str × V)}, (l.map (·.1)).Nodup → (f, v) ∈ l → l.lookup f = some v
  | (g, u) :: l, hn, hm => by
    rw [lookup_put]
    rw [List.map_cons, List.nodup_cons] at hn
    rcases List.mem_cons.mp hm with e | hm
    · cases e; rw [if_pos rfl]
    · have ne : f ≠ g := fun z => hn.1 (z ▸ List.mem_map.mpr ⟨(f, v), hm, rfl⟩)
      rw [if_neg ne]
      exact lookup_mem hn.2 hm
theorem lookup_zip {f : Str} {v : V} {fns : List Str} {ws : List V} {i : Nat} (hn : fns.Nodup) (hl : ws.length = fns.length) (h1 : fns[i]? = some f) (h2 : ws[i]? = some v) : ((fns.zip ws).reverse).lookup f = some v := by
  refine lookup_mem ?_ (List.mem_reverse.mpr ?_)
  · rw [List.map_reverse, List.map_fst_zip (by omega)]
    exact List.pairwise_reverse.mpr (hn.imp Ne.symm)
  · refine List.mem_iff_getElem?.mpr ⟨i, ?_⟩
    rw [List.getElem?_zip_eq_some]
    exact ⟨h1, h2⟩
/-! ### C(e, ..), C(e, ..).f -/
def cMk (C : Addr) (n : Nat) (A : AF) : EF := fun ε h => (A ε h).bind fun ds h1 => if ds.length = n then .ok (.xo C) h1 else .stuck
def cMkF (n i : Nat) (gD : List D → List D) (A : AF) : EF := fun ε h => (A ε h).bind fun ds h1 => if (gD ds).length = n then match (gD ds)[i]? with
    | some d => .ok d h1
    | none => .stuck
  else .stuck
/-- how __init__ binds -/
def BdI (q : Str) (st : Stmt) (ps : List Str) : Prop := ∀ (kV doc pm : Value) (an : Option Addr) (cdv ct : Value) (us : List Value), us.length = ps.length → bindArgs (PySem.W.fnOf "__init__" q (defArgs st) (defBody st) (defScope st) .none kV doc pm an cdv ct) ⟨us, []⟩ = pure (ps.zip us)
def BdIK (q : Str) (st : Stmt) (ps ks : List Str) (g : List Value → List Value) : Prop := ∀ (kV doc pm : Value) (an : Option Addr) (cdv ct : Value) (self : Value) (ws : List Value), ws.length = ks.length →
  bindArgs (PySem.W.fnOf "__init__" q (defArgs st) (defBody st) (defScope st) .none kV doc pm an cdv ct) ⟨[self], ks.zip ws⟩ = pure (ps.zip (self :: g ws))
/-- C as a name of the text -/
structure Xc (P : Program) (w : World) (K : PySem.W.Frag) (mg : Str → Option Value) (base : Heap) (x q : Str) (st : Stmt) (C : Addr) (fns : List Str) : Prop where
  ex : ∃ fI fd, XIni P w K mg base C fns fI fd ∧ Fun K "__init__" q st fI fd
  mg : mg x = some (.ref C)
  nf : ∀ f ∈ fns, PySem.W.findIn K (.ref C) f = some none
section
variable {X : Cx} {W : WX} {cls ts : List Addr} {x q f : Str} {st : Stmt} {C : Addr} {fns ks : List Str} {p pos pos2 : Pos} {e : Expr} {es : List Expr} {kws : List Keyword} {A : AF}
/-- what is wanted of the arguments -/
def Rdx (X : Cx) (cls ts : List Addr) (n : Nat) (gD : List D → List D) (gV : List V → List V) (R : List Addr → Hp → AH → List V → List D → Prop) (zs : List V) (H : Hp) : Prop := ∃ ρ h ds, RH X.K cls ts ρ H h ∧ RVs X.K ρ H (gV zs) (gD ds) ∧ (gD ds).length = n ∧ R ρ H h (gV zs) (gD ds)
/-- the call, by places -/
theorem xcall {pins : List (Addr × Obj)} {s : Shared} {σ : L2.St} {H : Hp} {R : VK} {t : TA} (Z : Xc X.prog X.w X.K X.mg X.base x q st C fns) (b : BdI q st (("self" : Str) :: fns)) (hn : fns.length ≤ 900) (hr : Room 2 X.A) (hg : Gl X x) (ha : PA X (e :: es) t) (I : Inv X pins σ H s)
    (h : t σ H fun vs H1 => vs.length = fns.length ∧ ∀ v H2, XNew C fns vs H1 v H2 → R v H2)
    (hdb : (x == ("__debug__" : Str)) = false := by decide) (he : starEach (e :: es) X.env = (false, eval e X.env) :: starEach es X.env := by rfl) (hpl : (backTo pos (starEach es X.env)).any (·.1) = false := by rfl) :
    wpAny (model X.prog X.w) X.A (eval (.Call (.Name x p) (e :: es) [] pos) X.env) (EP X pins σ R) X.xe s := by
  obtain ⟨fI, fd, T, F⟩ := Z.ex
  refine wpAny_Call_Name_kw (ld_glob I hg Z.mg ?_ hdb)
  refine PySem.W.callWith_K (h₀ := X.base) I.ok.mod.kin T.cls.kC (thn (ha.run pos pins s σ H _ I h) fun us s1 ⟨vs, H1, I1, r, hl, k⟩ => ⟨I1.kIn, ?_⟩) he hpl
  have lu : us.length = fns.length := r.length.symm.trans hl
  refine wpAny_mono (run_x T hr I1 r hl (by show us.length ≤ _; rw [sizeLine_eq]; omega) fun s self hk => ?_) (fun u s2 ⟨v, H2, I2, rv, n⟩ => ⟨v, H2, I2, rv, k v H2 n⟩) fun _ _ z => z
  obtain ⟨oc, od, kV, doc, pm, an, cdv, ct, osl, rfl, _⟩ := F.ex
  exact .of_eq (b kV doc pm an cdv ct (self :: us) (by rw [List.length_cons, List.length_cons, lu]))
/-- the call, by names -/
theorem xcallK {pins : List (Addr × Obj)} {s : Shared} {σ : L2.St} {H : Hp} {R : VK} {t : TA} {gv : List Value → List Value} {gV : List V → List V} (Z : Xc X.prog X.w X.K X.mg X.base x q st C fns) (b : BdIK q st (("self" : Str) :: fns) ks gv) (hr : Room 2 X.A) (hg : Gl X x)
    (hV : ∀ (zs : List V) (ws : List Value), Vals zs ws → zs.length = ks.length → Vals (gV zs) (gv ws)) (hkw : PK X kws t) (I : Inv X pins σ H s)
    (h : t σ H fun vs H1 => vs.length = ks.length ∧ (gV vs).length = fns.length ∧ ∀ v H2, XNew C fns (gV vs) H1 v H2 → R v H2)
    (hall : (backToKw pos (keywordEach kws X.env)).all (·.1.isSome) = true := by rfl) (hks : (backToKw pos (keywordEach kws X.env)).filterMap (·.1) = ks := by rfl)
    (hdb : (x == ("__debug__" : Str)) = false := by decide) (hpl : (backToKw pos (keywordEach kws X.env)).any (·.1.isNone) = false := by rfl) :
    wpAny (model X.prog X.w) X.A (eval (.Call (.Name x p) [] kws pos) X.env) (EP X pins σ R) X.xe s := by
  obtain ⟨fI, fd, T, F⟩ := Z.ex
  refine wpAny_Call_Name_kw (ld_glob I hg Z.mg ?_ hdb)
  refine PySem.W.callWith_KW0 I.kIn T.cls.kC hall (thn (hkw.run pos pins s σ H _ I h) fun us s1 ⟨vs, H1, I1, r, hl, hl2, k⟩ => ⟨I1.kIn, ?_⟩) hpl
  rw [hks]
  have lu : us.length = ks.length := r.length.symm.trans hl
  refine wpAny_mono (run_x T hr I1 (hV _ _ r hl) hl2 (Nat.zero_le _) fun s self hk => ?_) (fun u s2 ⟨v, H2, I2, rv, n⟩ => ⟨v, H2, I2, rv, k v H2 n⟩) fun _ _ z => z
  obtain ⟨oc, od, kV, doc, pm, an, cdv, ct, osl, rfl, _⟩ := F.ex
  exact .of_eq (b kV doc pm an cdv ct self us lu)
/-- its field -/
theorem xfield {pins : List (Addr × Obj)} {s : Shared} {σ : L2.St} {H H' : Hp} {ws : List V} {v y : V} {u : Value} {i : Nat} {R : VK} {expr : Bool} (T : XCls X.K C) (hno : PySem.W.findIn X.K (.ref C) f = some none) (hnd : fns.Nodup) (hl : ws.length = fns.length) (h1 : fns[i]? = some f) (h2 : ws[i]? = some y)
    (I : Inv X pins σ H' s) (rv : RelV v u) (n : XNew C fns ws H v H') (k : R y H') : wpAny (model X.prog X.w) X.A (getAttr u f expr) (EP X pins σ R) X.xe s := by
  obtain ⟨a, d, rfl, na, nd, ne, ea, ed, o⟩ := n
  obtain rfl : u = Value.ref a := rv
  obtain ⟨t1, ho⟩ := exo_at I.hok ea
  obtain ⟨mA, hns, hr⟩ := exd_at I.hok ed
  obtain ⟨od, hod, hlk⟩ := lookIn_ns hns
  obtain ⟨z, hz, rz⟩ := RelO.some_of (v := y) (o := mA f) (by rw [← lookup_zip hnd hl h1 h2]; exact hr f)
  obtain ⟨cd, B, bmB, hcl, hdd, _, _⟩ := T.data
  have hdC : PySem.W.hasDictIn X.K C = true := by
    unfold PySem.W.hasDictIn
    rw [hcl]
    exact hdd
  have J : PySem.W.InstAt s.heap a { cls := .ref C, dict := some d, data := .fields #[.ref t1, .none, .none, .none, .bool false, .none] } C (some od) := ⟨ho, rfl, rfl, hod⟩
  exact HandSPX.exc_get I.kIn J T.ga T.gg T.exC (PySem.W.findObj_own hdC hno rfl (by rw [hlk, hz])) (handed_of rz) ⟨y, H', I.tok _, rz, k⟩
end
end Mi

namespace Mi
open L2 PySem PySem.Spec PyProof.Rows
section
variable {X : Cx} {W : WX} {cls ts : List Addr} {x q f : Str} {st : Stmt} {C : Addr} {fns ks : List Str} {p pos pos2 : Pos} {e : Expr} {es : List Expr} {kws : List Keyword} {A : AF}
theorem e_xmk (Z : Xc X.prog X.w X.K X.mg X.base x q st C fns) (b : BdI q st (("self" : Str) :: fns)) (hn : fns.length ≤ 900) (hr : Room 2 X.A) (hg : Gl X x) (ha : A' X cls ts W (e :: es) A)
    (hdb : (x == ("__debug__" : Str)) = false := by decide) (he : starEach (e :: es) X.env = (false, eval e X.env) :: starEach es X.env := by rfl) (hpl : (backTo pos (starEach es X.env)).any (·.1) = false := by rfl) :
    E' X cls ts W (.Call (.Name x p) (e :: es) [] pos) (cMk C fns.length A) := by
  refine ⟨fun pins s σ H Q I ⟨ρ, ε, h, hH, hE, q⟩ => ?_⟩
  have q1 : tA X.K cls ts W A σ H fun vs H1 => vs.length = fns.length ∧ ∃ ρ h, RH X.K cls ts ρ H1 h ∧ Post X.K cls ts (relD X.K) (fun c dd H' => W c dd σ H') ρ H1 (.ok (.xo C) h) Q := tG_bind hH hE q fun ρ1 H1 vs h1 ds _ e1 hH1 rv hE1 p1 => by
    by_cases c : ds.length = fns.length
    · rw [if_pos c] at p1
      exact ⟨by rw [rv.length]; exact c, ρ1, h1, hH1, p1⟩
    · rw [if_neg c] at p1
      exact p1.elim
  refine wpAny_mono (xcall (R := fun v H2 => ∃ H1 vs ρ h, XNew C fns vs H1 v H2 ∧ RH X.K cls ts ρ H1 h ∧ Post X.K cls ts (relD X.K) (fun c dd H' => W c dd σ H') ρ H1 (.ok (.xo C) h) Q) Z b hn hr hg ha I (tG_imp q1 fun vs H1 ⟨hl, ρ1, h1, hH1, p1⟩ => ⟨hl, fun v H2 n => ⟨H1, vs, ρ1, h1, n, hH1, p1⟩⟩) hdb he hpl) ?_ fun _ _ z => z
  rintro u s1 ⟨v, H2, I2, rv, H1, vs, ρ1, h1, n, hH1, p1⟩
  obtain ⟨H3, I3, e3, r3, rx⟩ := xnew_xo I2 n hH1
  exact ⟨v, H3, I3, rv, p1 ρ1 H3 v e3 r3 rx⟩
theorem e_xmkF {i : Nat} (Z : Xc X.prog X.w X.K X.mg X.base x q st C fns) (b : BdI q st (("self" : Str) :: fns)) (hn : fns.length ≤ 900) (hnd : fns.Nodup) (hi : fns[i]? = some f) (hr : Room 2 X.A) (hg : Gl X x) (ha : A' X cls ts W (e :: es) A)
    (hab : attributeBase (.Call (.Name x p) (e :: es) [] pos) f X.env (eval (.Call (.Name x p) (e :: es) [] pos) X.env) = eval (.Call (.Name x p) (e :: es) [] pos) X.env := by rfl)
    (hdb : (x == ("__debug__" : Str)) = false := by decide) (he : starEach (e :: es) X.env = (false, eval e X.env) :: starEach es X.env := by rfl) (hpl : (backTo pos (starEach es X.env)).any (·.1) = false := by rfl) :
    E' X cls ts W (.Attribute (.Call (.Name x p) (e :: es) [] pos) f pos2) (cMkF fns.length i (fun z => z) A) := by
  refine ⟨fun pins s σ H Q I ⟨ρ, ε, h, hH, hE, q⟩ => ?_⟩
  have q1 : tA X.K cls ts W A σ H fun vs H1 => vs.length = fns.length ∧ ∃ ρ h y d, vs[i]? = some y ∧ RH X.K cls ts ρ H1 h ∧ RV X.K ρ H1 y d ∧ Post X.K cls ts (relD X.K) (fun c dd H' => W c dd σ H') ρ H1 (.ok d h) Q := tG_bind hH hE q fun ρ1 H1 vs h1 ds _ e1 hH1 rv hE1 p1 => by
    dsimp only at p1
    by_cases c : ds.length = fns.length
    · rw [if_pos c] at p1
      cases z : ds[i]? with
      | none => rw [z] at p1; exact p1.elim
      | some d =>
        rw [z] at p1
        obtain ⟨y, hy, ry⟩ := rv.get z
        exact ⟨by rw [rv.length]; exact c, ρ1, h1, y, d, hy, hH1, ry, p1⟩
    · rw [if_neg c] at p1
      exact p1.elim
  obtain ⟨fI, fd, T, F⟩ := Z.ex
  refine attr_of hab (wpAny_mono (xcall (R := fun v H2 => ∃ H1 vs ρ h y d, vs.length = fns.length ∧ XNew C fns vs H1 v H2 ∧ vs[i]? = some y ∧ RH X.K cls ts ρ H1 h ∧ RV X.K ρ H1 y d ∧ Post X.K cls ts (relD X.K) (fun c dd H' => W c dd σ H') ρ H1 (.ok d h) Q) Z b hn hr hg ha I (tG_imp q1 fun vs H1 ⟨hl, ρ1, h1, y, d, hy, hH1, ry, p1⟩ => ⟨hl, fun v H2 n => ⟨H1, vs, ρ1, h1, y, d, hl, n, hy, hH1, ry, p1⟩⟩) hdb he hpl) ?_ fun _ _ z => z)
  rintro u s1 ⟨v, H2, I2, rv, H1, vs, ρ1, h1, y, d, hl, n, hy, hH1, ry, p1⟩
  obtain ⟨a, dd, _, na, nd, _, _, _, o⟩ := id n
  obtain ⟨e3, r3⟩ := ext_two na nd o hH1
  exact xfield T.cls (Z.nf f (List.mem_of_getElem? hi)) hnd hl hi hy I2 rv n (p1 ρ1 H2 y e3 r3 (ry.mono e3))
theorem e_xmkFK {i : Nat} {gv : List Value → List Value} {gV : List V → List V} {gD : List D → List D} (Z : Xc X.prog X.w X.K X.mg X.base x q st C fns) (b : BdIK q st (("self" : Str) :: fns) ks gv) (hnd : fns.Nodup) (hi : fns[i]? = some f) (hr : Room 2 X.A) (hg : Gl X x)
    (hV : ∀ (zs : List V) (ws : List Value), Vals zs ws → zs.length = ks.length → Vals (gV zs) (gv ws)) (hgD : ∀ (ρ : List Addr) (H : Hp) (zs : List V) (es : List D), RVs X.K ρ H zs es → zs.length = ks.length → RVs X.K ρ H (gV zs) (gD es))
    (hkw : PK X kws (tA X.K cls ts W A)) (hA : ALen A ks.length)
    (hab : attributeBase (.Call (.Name x p) [] kws pos) f X.env (eval (.Call (.Name x p) [] kws pos) X.env) = eval (.Call (.Name x p) [] kws pos) X.env := by rfl)
    (hall : (backToKw pos (keywordEach kws X.env)).all (·.1.isSome) = true := by rfl) (hks : (backToKw pos (keywordEach kws X.env)).filterMap (·.1) = ks := by rfl)
    (hdb : (x == ("__debug__" : Str)) = false := by decide) (hpl : (backToKw pos (keywordEach kws X.env)).any (·.1.isNone) = false := by rfl) :
    E' X cls ts W (.Attribute (.Call (.Name x p) [] kws pos) f pos2) (cMkF fns.length i gD A) := by
  refine ⟨fun pins s σ H Q I ⟨ρ, ε, h, hH, hE, q⟩ => ?_⟩
  have q1 : tA X.K cls ts W A σ H fun vs H1 => vs.length = ks.length ∧ (gV vs).length = fns.length ∧ ∃ ρ h y d, (gV vs)[i]? = some y ∧ RH X.K cls ts ρ H1 h ∧ RV X.K ρ H1 y d ∧ Post X.K cls ts (relD X.K) (fun c dd H' => W c dd σ H') ρ H1 (.ok d h) Q := tG_bind hH hE q fun ρ1 H1 vs h1 ds ee e1 hH1 rv hE1 p1 => by
    have hl : vs.length = ks.length := by rw [rv.length]; exact hA _ _ _ _ ee
    have rg := hgD _ _ _ _ rv hl
    by_cases c : (gD ds).length = fns.length
    · rw [if_pos c] at p1
      cases z : (gD ds)[i]? with
      | none => rw [z] at p1; exact p1.elim
      | some d =>
        rw [z] at p1
        obtain ⟨y, hy, ry⟩ := rg.get z
        exact ⟨hl, by rw [rg.length]; exact c, ρ1, h1, y, d, hy, hH1, ry, p1⟩
    · rw [if_neg c] at p1
      exact p1.elim
  obtain ⟨fI, fd, T, F⟩ := Z.ex
  refine attr_of hab (wpAny_mono (xcallK (R := fun v H2 => ∃ H1 vs ρ h y d, vs.length = fns.length ∧ XNew C fns vs H1 v H2 ∧ vs[i]? = some y ∧ RH X.K cls ts ρ H1 h ∧ RV X.K ρ H1 y d ∧ Post X.K cls ts (relD X.K) (fun c dd H' => W c dd σ H') ρ H1 (.ok d h) Q) Z b hr hg hV hkw I (tG_imp q1 fun vs H1 ⟨hl, hl2, ρ1, h1, y, d, hy, hH1, ry, p1⟩ => ⟨hl, hl2, fun v H2 n => ⟨H1, gV vs, ρ1, h1, y, d, hl2, n, hy, hH1, ry, p1⟩⟩) hall hks hdb hpl) ?_ fun _ _ z => z)
  rintro u s1 ⟨v, H2, I2, rv, H1, vs, ρ1, h1, y, d, hl, n, hy, hH1, ry, p1⟩
  obtain ⟨a, dd, _, na, nd, _, _, _, o⟩ := id n
  obtain ⟨e3, r3⟩ := ext_two na nd o hH1
  exact xfield T.cls (Z.nf f (List.mem_of_getElem? hi)) hnd hl hi hy I2 rv n (p1 ρ1 H2 y e3 r3 (ry.mono e3))
/-- C(), no own __init__ -/
def cMk0 (C : Addr) : EF := fun _ h => .ok (.xo C) h
structure Xc0 (K : PySem.W.Frag) (mg : Str → Option Value) (x : Str) (C : Addr) : Prop where
  ex : ∃ B newId initId bmB, ExcBaseFacts B newId initId bmB ∧ PySem.W.excIn K C bmB newId = true
  mg : mg x = some (.ref C)
  kC : PySem.W.keepIn K (.ref C) = true
theorem e_xmk0 (Z : Xc0 X.K X.mg x C) (hg : Gl X x) (hdb : (x == ("__debug__" : Str)) = false := by decide) : E' X cls ts W (.Call (.Name x p) [] [] pos) (cMk0 C) := by
  refine ⟨fun pins s σ H Q I ⟨ρ, ε, h, hH, hE, q⟩ => ?_⟩
  obtain ⟨B, newId, initId, bmB, F, qq⟩ := Z.ex
  refine wpAny_Call_Name_kw (ld_glob I hg Z.mg ?_ hdb)
  refine PySem.W.callWith_K0 I.kIn Z.kC ?_
  obtain ⟨bm, N, nm, qn, bs, hdct, sn, sub, ab, col, dd, k0, k1, k2, k3, k5, mN, hC, hN, hni, T⟩ := exc_obj I.kIn qq
  refine wpAny_call_exc_subT F T hC hN hni (fun h' a hm => ?_) (Nat.zero_le _)
  have hn : H a = none := I.hok.gone hm.new
  obtain ⟨t, ht, _, _⟩ := hm.there
  have J := I.laidN (t' := s.toks) (o := .frz _ (.own a)) hm.keeps hm.new hn (frz_ok ht)
  exact ⟨.ref a, _, J, rfl, q ρ _ _ (ext_other hn) (hH.other hn) (.xo ⟨_, _, upd_same, rfl, ⟨_, rfl⟩, .inl rfl⟩)⟩
end
end Mi

namespace Mi
open L2 PySem PySem.Spec PyProof.Rows
/-! ### isinstance of an exception -/
/-- what the table of classes tells is so -/
def XSub (K : PySem.W.Frag) (sub : Addr → D → Option Bool) : Prop := ∀ E c b, sub E c = some b → ExcC K E ∧ (PySem.W.clsIn K E).isSome = true ∧ ∃ cv, ((∃ C, c = .own C ∧ cv = .ref C) ∨ ∃ n, c = .ty n ∧ cv = .type n) ∧ PySem.W.kitOne K (.ref E) cv = some b
def fIsiX (sub : Addr → D → Option Bool) : OpN
  | [.xo E, c], h => match sub E c with
    | some b => .ok (.bl b) h
    | none => .stuck
  | _, _ => .stuck
def rIsX (K : PySem.W.Frag) : List V → Hp → VK → Prop := fun xs H Q => ∃ (a E : Addr) (c : V) (cv : Value) (b : Bool), xs = [.ref a, c] ∧ XoR H a E ∧ ExcC K E ∧ (PySem.W.clsIn K E).isSome = true ∧ (∀ u, RelV c u → u = cv) ∧ PySem.W.kitOne K (.ref E) cv = some b ∧ Q (.bl b) H
theorem xo_inst {X : Cx} {pins : List (Addr × Obj)} {σ : L2.St} {H : Hp} {s : Shared} {a E : Addr} (I : Inv X pins σ H s) (x : XoR H a E) : ∃ ox od, PySem.W.InstAt s.heap a ox E od := by
  obtain ⟨o, u, h1, h2, ⟨vs, h3⟩, h4⟩ := x
  have e1 := (I.hok _ _ h1).1
  rcases h4 with h4 | ⟨dx, od, ud, h4, h5⟩
  · exact ⟨o, none, e1, h2, by unfold PySem.W.notCls; rw [h3] <;> rfl, by rw [h4]; trivial⟩
  · exact ⟨o, some od, e1, h2, by unfold PySem.W.notCls; rw [h3] <;> rfl, by rw [h4]; exact (I.hok _ _ h5).1⟩
theorem call_isX {X : Cx} : CallR X (.builtin "isinstance") (rIsX X.K) := by
  intro pins s σ H xs us Q I r h
  obtain ⟨a, E, c, cv, b, rfl, x, C, hcl, hcv, e, q⟩ := h
  cases r with
  | cons rx rr =>
    cases rr with
    | cons rt rr =>
      cases rr
      cases rx
      have ec := hcv _ rt
      subst ec
      obtain ⟨ox, od, J⟩ := xo_inst I x
      exact PySem.W.kia_one (PySem.W.kitx_exc hcl C.hg C.hk C.hs C.ha C.hn C.ht C.hm) I.kIn J e (fun z => nomatch z) fun tk => ⟨.bl b, H, I.kept (t' := tk) fun _ _ z => z, rfl, q⟩
theorem isx_ok {K : PySem.W.Frag} {cls ts : List Addr} {sub : Addr → D → Option Bool} (hS : XSub K sub) : CallS K cls ts (rIsX K) (fIsiX sub) := by
  intro W ρ H h xs ds Q r rs p
  unfold fIsiX at p
  split at p <;> first | exact p.elim | skip
  obtain ⟨v, w, rfl, rv, rw'⟩ := rs.two
  split at p <;> first | exact p.elim | skip
  rename_i E c _ b e1
  obtain ⟨C, hcl, cv, hc, e⟩ := hS _ _ _ e1
  cases rv with
  | xo x =>
    refine ⟨_, E, w, cv, b, rfl, x, C, hcl, fun u ru => ?_, e, post_val r (.bl _) p⟩
    rcases hc with ⟨C', rfl, rfl⟩ | ⟨n, rfl, rfl⟩
    · cases rw'; exact ru
    · cases rw'; exact ru
/-! ### raise C(e, ..) -/
section
variable {X : Cx} {x q : Str} {st : Stmt} {C : Addr} {fns : List Str} {p pos : Pos} {e : Expr} {es : List Expr} {ta : TA}
theorem pmk_x (Z : Xc X.prog X.w X.K X.mg X.base x q st C fns) (b : BdI q st (("self" : Str) :: fns)) (hn : fns.length ≤ 900) (hr : Room 2 X.A) (hg : Gl X x) (ha : PA X (e :: es) ta)
    (hdb : (x == ("__debug__" : Str)) = false := by decide) (he : starEach (e :: es) X.env = (false, eval e X.env) :: starEach es X.env := by rfl) (hpl : (backTo pos (starEach es X.env)).any (·.1) = false := by rfl) :
    PMk X (.Call (.Name x p) (e :: es) [] pos) (fun σ H Q => ta σ H fun vs H1 => vs.length = fns.length ∧ ∀ d, H1 d = none → Q (.ref C) (some d) (upd H1 d (.xd (fns.zip vs).reverse))) := by
  intro pins s σ H Q I h
  obtain ⟨fI, fd, T, F⟩ := Z.ex
  obtain ⟨N, newId, B, bmB, nm, qn, D, bs, bm, sn, sub, ab, col, dd, k0, k1, k2, k3, k5, hC, Zb, _⟩ := T.cls.cls
  refine wpAny_Call_Name_kw (ld_glob I hg Z.mg ?_ hdb)
  refine PySem.W.callWith_K (h₀ := X.base) I.ok.mod.kin T.cls.kC (thn (ha.run pos pins s σ H _ I h) fun us s1 ⟨vs, H1, I1, r, hl, q1⟩ => ⟨I1.kIn, ?_⟩) he hpl
  show wpAny _ _ (call (.ref C) us) _ _ _
  have lu : us.length = fns.length := r.length.symm.trans hl
  obtain ⟨hp, g, dr, tk, os⟩ := s1
  have hsz : hp.objs.size ≤ hp.objs.size + 1 := Nat.le_succ _
  have hn0 : H1 (hp.objs.size + 1) = none := I1.hok.fresh hsz
  have kk : ∀ b o, hp.get? b = some o → ((hp.push (PySem.W.kdv_tup us)).push (PySem.HandSPX.excO C hp.objs.size)).get? b = some o := fun b o e => Heap.get?_push_of_some _ (Heap.get?_push_of_some _ e)
  have hget : ((hp.push (PySem.W.kdv_tup us)).push (PySem.HandSPX.excO C hp.objs.size)).get? (hp.objs.size + 1) = some (PySem.HandSPX.excO C hp.objs.size) := by heap_get
  have I2 : Inv X pins σ (upd H1 (hp.objs.size + 1) (exo (hp.objs.size + 1) C none)) ⟨(hp.push (PySem.W.kdv_tup us)).push (PySem.HandSPX.excO C hp.objs.size), g, dr, tk, os⟩ :=
    I1.laid (t' := tk) (a := hp.objs.size + 1) (o := exo (hp.objs.size + 1) C none) (h' := (hp.push (PySem.W.kdv_tup us)).push (PySem.HandSPX.excO C hp.objs.size)) kk hsz (exo_ok hget)
  have hq : spX C fns (.ref (hp.objs.size + 1) :: vs) (upd H1 (hp.objs.size + 1) (exo (hp.objs.size + 1) C none)) (fun v H2 => v = .non ∧ XNew C fns vs H1 (.ref (hp.objs.size + 1)) H2) (fun _ _ _ => False) := by
    refine ⟨_, vs, rfl, hl, upd_same, fun d H' nd ne ha hd ho => ⟨rfl, _, d, rfl, hn0, ?_, ne, ha, hd, fun b h1 h2 => ?_⟩⟩
    · rw [upd_ne ne] at nd; exact nd
    · rw [ho b h1 h2, upd_ne h1]
  have r2 : Vals (V.ref (hp.objs.size + 1) :: vs) (Value.ref (hp.objs.size + 1) :: us) := .cons rfl r
  have hb : BindsTo ⟨(hp.push (PySem.W.kdv_tup us)).push (PySem.HandSPX.excO C hp.objs.size), g, dr, tk, os⟩ fd ⟨Value.ref (hp.objs.size + 1) :: us, []⟩ ((("self" : Str) :: fns).zip (Value.ref (hp.objs.size + 1) :: us)) := by
    obtain ⟨oc, od, kV, doc, pm, an, cdv, ct, osl, rfl, _⟩ := F.ex
    exact .of_eq (b kV doc pm an cdv ct (Value.ref (hp.objs.size + 1) :: us) (by rw [List.length_cons, List.length_cons, lu]))
  refine wpAny_call (PySem.BehX.call Zb (I1.kIn _ _ hC) (PySem.W.looks_findIn I1.kIn T.iC) (fun self => PySem.W.bind_fn I1.kIn self T.tI) (by rw [sizeLine_eq]; omega)
    (codeAny_mono (T.fn.run _ X.stack _ _ ⟨Value.ref (hp.objs.size + 1) :: us, []⟩ (Value.ref (hp.objs.size + 1) :: us) _ _ (fun _ _ _ => False) (hr.make C us []) (I2.env0.make C us []) hb r2 hq) fun r s' hq' => ?_))
  cases r with
  | error er => exact hq'.elim
  | ok fl =>
    cases fl with
    | ret u =>
      obtain ⟨v, H2, os2, bare2, un2, hok2, rv, ev, a, d, ea0, na, nd, ne, ea, ed, o⟩ := hq'
      cases ea0
      subst ev
      obtain ⟨h2, g2, d2, t2, os'⟩ := s'
      have eH : upd (del H2 (hp.objs.size + 1)) d (.xd (fns.zip vs).reverse) = upd H1 d (.xd (fns.zip vs).reverse) := by
        funext c
        by_cases h1 : c = d
        · rw [h1, upd_same, upd_same]
        · rw [upd_ne h1, upd_ne h1]
          by_cases h3 : c = hp.objs.size + 1
          · rw [h3, del_same, hn0]
          · rw [del_ne h3, o c h3 h1]
      exact ⟨rv, mk_end (raises_own T.cls.exC T.cls.tyC) I1 hsz kk un2 hok2 os2 bare2 ea ed nd (by rw [eH]; exact q1 d nd)⟩
    | next => exact False.elim hq'
    | brk => exact False.elim hq'
    | cont => exact False.elim hq'
end
end Mi

namespace Mi
open L2 PySem PySem.Spec PyProof.Rows
/-! ### try: raise C(e, ..) except D as n: found.append(..) -/
def sTryX (n : Nat) (A : AF) (i k : Nat) (g : List D → D) : SF := fun ε h => (A ε h).st ε fun ds h1 => if ds.length = n ∧ i ≠ k then match ε[k]? with
    | some (some (.ref r)) => match h1[r]? with
      | some (.lst xs) => if xs.length < sizeLine then .nx (ε.set i none) (h1.set r (.lst (xs ++ [g ds]))) else .stuck
      | _ => .stuck
    | _ => .stuck
  else .stuck
theorem RE.gone {K : PySem.W.Frag} {ρ : List Addr} {H : Hp} {σ : L2.St} {ε : AEnv} (h : RE K ρ H σ ε) (i : Nat) (x : Option V) : RE K ρ H (σ.set i x) (ε.set i none) := by
  refine ⟨by rw [List.length_set, List.length_set]; exact h.1, fun j d q => ?_⟩
  by_cases hj : i = j
  · subst hj
    by_cases hl : i < ε.length
    · rw [List.getElem?_set_self hl] at q; cases q
    · rw [List.getElem?_eq_none (by rw [List.length_set]; omega)] at q; cases q
  · rw [List.getElem?_set_ne hj] at q ⊢
    exact h.2 j d q
section
variable {X : Cx} {W : WX} {cls ts : List Addr} {x y q nm : Str} {st : Stmt} {C : Addr} {c : Value} {fns : List Str} {p np pos pos1 pos2 pos' : Pos} {e : Expr} {es : List Expr} {A : AF} {b₀ : Stmt} {i k : Nat} {g : List D → D} {tsu : Addr → Value → Option Addr → TS} {GV : List V → Hp → V → Hp → Prop}
theorem s_tryX (hs : X.stack = X.env :: X.outer) (hf : X.env.frame = some X.env.locals) (hcm : X.calm = true) (hN : X.N.Nodup) (hi : X.N[i]? = some nm) (hln : X.env.kindOf nm = some .local) (hc : Names X y c) (hex : PySem.W.exmOne X.K (.ref C) c = some true)
    (Z : Xc X.prog X.w X.K X.mg X.base x q st C fns) (b : BdI q st (("self" : Str) :: fns)) (hn : fns.length ≤ 900) (hr : Room 2 X.A) (hg : Gl X x)
    (ha : ∀ (pn : List (Addr × Obj)) (xe : Value → Shared → Prop), A' (X.tr pn xe) cls ts W (e :: es) A)
    (hsu : ∀ (a : Addr) (oe : Obj) (cls' : Value) (d : Option Addr) (pn : List (Addr × Obj)), Zc cls' d oe → (∃ vs, oe.data = .fields vs) → PSs (X.suite a ((a, oe) :: pn)) [b₀] (tsu a cls' d))
    (hT : ∀ (a dd l : Addr) (σ : L2.St) (H : Hp) (D : Ends) (vs us : List V), σ[i]? = some (some (.ref a)) → σ[k]? = some (some (.ref l)) → H l = some (.lst us) → us.length < sizeLine → H dd = some (.xd (fns.zip vs).reverse) → vs.length = fns.length →
      (∀ v H', GV vs H v H' → H' l = some (.lst us) ∧ D.nx σ (upd H' l (.lst (us ++ [v])))) → tsu a (.ref C) (some dd) D σ H)
    (hR : ∀ (ρ : List Addr) (H : Hp) (h : AH) (vs : List V) (ds : List D) (v : V) (H' : Hp), RH X.K cls ts ρ H h → RVs X.K ρ H vs ds → vs.length = fns.length → GV vs H v H' → RV X.K ρ H' v (g ds) ∧ Ext ts ρ ρ H H' ∧ RH X.K cls ts ρ H' h ∧ ∀ b o, H b = some o → H' b = some o)
    (hdb : (x == ("__debug__" : Str)) = false := by decide) (he : starEach (e :: es) X.env = (false, eval e X.env) :: starEach es X.env := by rfl) (hpl : (backTo pos1 (starEach es X.env)).any (·.1) = false := by rfl) :
    S' X cls ts W (.Try [.Raise (some (.Call (.Name x p) (e :: es) [] pos1)) none pos2] [.ExceptHandler (some (.Name y np)) (some nm) [b₀] pos'] [] [] pos) (sTryX fns.length A i k g) := by
  refine ⟨fun pins s σ H D I ⟨ρ, ε, h, hH, hE, p0⟩ => ?_⟩
  refine (ps_try_as (X := X) (tb := fun W' _ σ H => tA X.K cls ts W A σ H fun vs H1 => vs.length = fns.length ∧ ∀ d, H1 d = none → W' (.ref C) (some d) σ (upd H1 d (.xd (fns.zip vs).reverse))) (ts := tsu) (Wout := fun _ _ _ _ => False) hs hf hN hi hln hc L2.takes0
    (fun W' pn xe tk _ => pss_one (ps_raise (X := X.tr pn xe) (by exact hcm) tk (pmk_x (X := X.tr pn xe) Z b hn hr hg (ha pn xe) hdb he hpl))) hsu).run pins s σ H D I ?_
  refine tS_bind hH hE p0 fun ρ1 H1 vs h1 ds _ e1 hH1 rv hE1 p1 => ?_
  by_cases c1 : ds.length = fns.length ∧ i ≠ k
  · rw [if_pos c1] at p1
    have lv : vs.length = fns.length := by rw [rv.length]; exact c1.1
    refine ⟨lv, fun d nd => ⟨true, hex, fun _ a na => ?_, fun z => nomatch z⟩⟩
    split at p1 <;> first | exact p1.elim | skip
    rename_i r er
    split at p1 <;> first | exact p1.elim | skip
    rename_i xs ex
    split at p1 <;> first | exact p1.elim | skip
    rename_i c2
    obtain ⟨vl, hvl, rvl⟩ := hE1.2 k _ er
    cases rvl with
    | @ref l _ ql =>
      obtain ⟨us, hl, ru⟩ := hH1.lst ql ex
      have lne : l ≠ d := ne_of_none hl nd
      have e2 := ext_other (ts := ts) (ρ := ρ1) (u := .xd (fns.zip vs).reverse) nd
      have hH2 : RH X.K cls ts ρ1 (upd H1 d (.xd (fns.zip vs).reverse)) h1 := hH1.other nd
      refine hT a d l _ _ _ vs us (List.getElem?_set_self ?_) (by rw [List.getElem?_set_ne c1.2]; exact hvl) (by rw [upd_ne lne]; exact hl) (by rw [ru.length]; exact c2) upd_same lv fun v H' gv => ?_
      · have hil : i < X.N.length := (List.getElem?_eq_some_iff.mp hi).1
        rw [← hE1.1]
        have := I.len
        have l2 := hE.1
        have l3 := hE1.1
        omega
      · obtain ⟨rg, e3, hH3, kp⟩ := hR ρ1 _ h1 vs ds v H' hH2 (rv.mono e2) lv gv
        have hl3 : H' l = some (.lst us) := kp l _ (by rw [upd_ne lne]; exact hl)
        refine ⟨hl3, ?_⟩
        have e4 := ext_put (u := .lst (us ++ [v])) (List.mem_of_getElem? ql) hH3
        have r4 := hH3.put (u := .lst (us ++ [v])) (o := .lst (xs ++ [g ds])) ql ⟨us ++ [v], upd_same, (((ru.mono e2).mono e3).mono e4).append (.cons (rg.mono e4) .nil)⟩
        have ee := (e2.trans e3).trans e4
        have hE4 := ((hE1.mono ee).gone i (some (.ref a)))
        refine p1 ρ1 _ _ ee r4 ?_
        have hh : ((σ.set i (some (.ref a))).set i none) = σ.set i none := by rw [List.set_set]
        show RE X.K ρ1 _ ((σ.set i (some (.ref a))).set i none) (ε.set i none)
        rw [hh]
        exact (hE1.mono ee).gone i none
  · rw [if_neg c1] at p1
    exact p1.elim
end
end Mi

namespace Mi
open L2 PySem PySem.Spec PyProof.Rows
/-! ### enumerate(a list) -/
def iEnu (F : EF) : IF := fun ε h => (F ε h).bind fun d h1 => match d with
  | .ref n => match h1[n]? with
    | some (.lst xs) => .ok (.enu n xs.length) h1
    | _ => .stuck
  | _ => .stuck
theorem rit_enu {K : PySem.W.Frag} {cls ts ρ : List Addr} {H : Hp} {a : Addr} {n len : Nat} (q1 : ρ[n]? = some a) : RIt K cls ts ρ H (Ite K a) (.enu n len) := by
  refine ⟨fun ρ' H' h' i d e r hi q => ?_, fun ρ' H' h' e r q => ?_⟩
  · simp only [AIt.item] at q
    split at q <;> first | (cases q; done) | skip
    rename_i xs e1
    split at q <;> first | (cases q; done) | skip
    obtain ⟨x, hx, rfl⟩ := Option.map_eq_some_iff.mp q
    obtain ⟨us, k1, r1⟩ := r.lst (e.get q1) e1
    obtain ⟨v, hv, rv⟩ := r1.get hx
    refine ⟨⟨us, v, SqL.of k1, hv⟩, fun y H'' z => ?_⟩
    obtain ⟨T, w, rfl, nT, rfl, k⟩ := z
    have z := k us (SqL.of k1)
    rw [hv] at z
    cases z
    have e2 := ext_other (ts := ts) (ρ := ρ') (u := .tup [.int (i : Nat), v]) nT
    exact ⟨e2, r.other nT, .tup (SqT.of upd_same) (.cons (.int _) (.cons (rv.mono e2) .nil))⟩
  · simp only [AIt.fin] at q
    split at q <;> first | (cases q; done) | skip
    rename_i xs e1
    obtain ⟨us, k1, r1⟩ := r.lst (e.get q1) e1
    refine ⟨us, SqL.of k1, ?_⟩
    rw [r1.length, of_decide_eq_true q]
    exact Nat.le_refl _
section
variable {X : Cx} {W : WX} {cls ts : List Addr} {e : Expr} {F : EF} {p pos tpos : Pos} {elts : List Expr} {kk : Nat}
theorem i_enu (hg : Gl X "enumerate") (hm : X.mg "enumerate" = none) (ha : E' X cls ts W e F) (hs : starEach [e] X.env = [(false, eval e X.env)] := by rfl) : I' X cls ts W (.Tuple elts kk tpos) (.Call (.Name "enumerate" p) [e] [] pos) (iEnu F) := by
  have hs' : starEach [e] X.env = (false, eval e X.env) :: starEach [] X.env := hs
  refine ⟨fun pins s σ H R I ⟨ρ, ε, h, hH, hE, q⟩ => (pi_enum hg hm (pa_cons ha pa_nil hs') hs).run pins s σ H R I (tG_bind hH hE q fun ρ1 H1 x h1 dx _ e1 hH1 rx hE1 p1 => ?_)⟩
  cases rx with
  | @ref a n ql =>
    simp only at p1
    split at p1 <;> first | exact p1.elim | skip
    rename_i xs ex
    obtain ⟨us, hl, ru⟩ := hH1.lst ql ex
    exact ⟨a, us, rfl, SqL.of hl, p1 ρ1 H1 _ .refl hH1 (rit_enu ql)⟩
  | _ => exact p1.elim
end
end Mi

namespace Mi
open L2 PySem PySem.Spec PyProof.Rows
/-! ### what an except suite asks of the caught one -/
def rIsS (K : PySem.W.Frag) (a : Addr) (cls : Value) (d : Option Addr) : List V → Hp → VK → Prop := fun xs H Q => ∃ (E : Addr) (c : V) (cv : Value) (b : Bool) (dd : Addr) (fs : List (Str × V)), xs = [.ref a, c] ∧ cls = .ref E ∧ d = some dd ∧ H dd = some (.xd fs) ∧ ExcC K E ∧ (PySem.W.clsIn K E).isSome = true ∧ (∀ u, RelV c u → u = cv) ∧ PySem.W.kitOne K (.ref E) cv = some b ∧ Q (.bl b) H
theorem call_isS {X : Cx} {a : Addr} {oe : Obj} {pn : List (Addr × Obj)} {cls : Value} {d : Option Addr} (hz : Zc cls d oe) (hf : ∃ vs, oe.data = .fields vs) : CallR (X.suite a ((a, oe) :: pn)) (.builtin "isinstance") (rIsS X.K a cls d) := by
  intro pins s σ H xs us Q I r h
  obtain ⟨E, c, cv, b, dd, fs, rfl, rfl, rfl, hd, C, hcl, hcv, e, q⟩ := h
  cases r with
  | cons rx rr =>
    cases rr with
    | cons rt rr =>
      cases rr
      cases rx
      have ec := hcv _ rt
      subst ec
      obtain ⟨hget, _⟩ := I.pin (a, oe) (List.mem_append_left _ List.mem_cons_self)
      obtain ⟨vs, hv⟩ := hf
      have hx : ObjOk X.prog X.w H s.heap dd (.xd fs) := I.hok dd _ hd
      obtain ⟨mA, ⟨od, es, ep, hod, _⟩, _⟩ := hx
      have J : PySem.W.InstAt s.heap a oe E (some od) := ⟨hget, hz.1, by unfold PySem.W.notCls; rw [hv] <;> rfl, by rw [hz.2]; exact hod⟩
      exact PySem.W.kia_one (PySem.W.kitx_exc hcl C.hg C.hk C.hs C.ha C.hn C.ht C.hm) I.kIn J e (fun z => nomatch z) fun tk => ⟨.bl b, H, I.kept (t' := tk) fun _ _ z => z, rfl, q⟩
section
variable {K : PySem.W.Frag} {C a dd l : Addr} {i k : Nat} {σ : L2.St} {H : Hp} {D : Ends} {v v1 v2 v3 : V} {us : List V} {f f1 f2 f3 : Str}
theorem hT_one (hi : σ[i]? = some (some (.ref a))) (hk : σ[k]? = some (some (.ref l))) (hl : H l = some (.lst us)) (hz : us.length < sizeLine) (hd : H dd = some (.xd (([f] : List Str).zip [v]).reverse)) (q : D.nx σ (upd H l (.lst (us ++ [v])))) :
    tDrop (tBM K "list" rAppend (tVar k) (tCons (tXf a (.ref C) (some dd) C f (tVar i)) tNil)) D σ H :=
  ⟨.ref l, hk, .inl ⟨rfl, us, SqL.of hl⟩, .ref a, hi, rfl, rfl, dd, _, v, rfl, hd, (by rw [show (([f] : List Str).zip [v]).reverse = [(f, v)] from rfl, lookup_put, if_pos rfl]), l, us, v, rfl, rfl, hl, hz, q⟩
theorem hT_three (hE : ExcC K C) (hcl : (PySem.W.clsIn K C).isSome = true) (he : PySem.W.kitOne K (.ref C) (.ref C) = some true) (hnd : ([f1, f2, f3] : List Str).Nodup)
    (hi : σ[i]? = some (some (.ref a))) (hk : σ[k]? = some (some (.ref l))) (hl : H l = some (.lst us)) (hz : us.length < sizeLine) (hd : H dd = some (.xd (([f1, f2, f3] : List Str).zip [v1, v2, v3]).reverse))
    (q : ∀ p, H p = none → D.nx σ (upd (upd H p (.tup [v1, v2, v3])) l (.lst (us ++ [.ref p])))) :
    tDrop (tBM K "list" rAppend (tVar k) (tCons (tIf (tB (tCB (rIsS K a (.ref C) (some dd)) (tCons (tVar i) (tCons (tC (.ref C)) tNil)))) (tTup (tCons (tXf a (.ref C) (some dd) C f1 (tVar i)) (tCons (tXf a (.ref C) (some dd) C f2 (tVar i)) (tCons (tXf a (.ref C) (some dd) C f3 (tVar i)) tNil)))) (tC (.str "odd"))) tNil)) D σ H := by
  have k1 : ((([f1, f2, f3] : List Str).zip [v1, v2, v3]).reverse).lookup f1 = some v1 := lookup_zip (i := 0) hnd rfl rfl rfl
  have k2 : ((([f1, f2, f3] : List Str).zip [v1, v2, v3]).reverse).lookup f2 = some v2 := lookup_zip (i := 1) hnd rfl rfl rfl
  have k3 : ((([f1, f2, f3] : List Str).zip [v1, v2, v3]).reverse).lookup f3 = some v3 := lookup_zip (i := 2) hnd rfl rfl rfl
  refine ⟨.ref l, hk, .inl ⟨rfl, us, SqL.of hl⟩, .ref a, hi, C, .ref C, .ref C, true, dd, _, rfl, rfl, rfl, hd, hE, hcl, fun u r => r, he, true, rfl, ?_⟩
  refine ⟨.ref a, hi, rfl, rfl, dd, _, v1, rfl, hd, k1, .ref a, hi, rfl, rfl, dd, _, v2, rfl, hd, k2, .ref a, hi, rfl, rfl, dd, _, v3, rfl, hd, k3, ?_, fun p np => ?_⟩
  · rw [sizeLine_eq]; exact Nat.le_of_ble_eq_true rfl
  · exact ⟨l, us, .ref p, rfl, rfl, by rw [upd_ne (ne_of_none hl np)]; exact hl, hz, q p np⟩
end
def GV1 (vs : List V) (H : Hp) (v : V) (H' : Hp) : Prop := vs = [v] ∧ H' = H
def GV3 (vs : List V) (H : Hp) (v : V) (H' : Hp) : Prop := ∃ p, H p = none ∧ v = .ref p ∧ H' = upd H p (.tup vs)
section
variable {K : PySem.W.Frag} {cls ts ρ : List Addr} {H H' : Hp} {h : AH} {vs : List V} {ds : List D} {v : V}
theorem hR1 (hH : RH K cls ts ρ H h) (rv : RVs K ρ H vs ds) (g : GV1 vs H v H') : RV K ρ H' v (ds.headD .non) ∧ Ext ts ρ ρ H H' ∧ RH K cls ts ρ H' h ∧ ∀ b o, H b = some o → H' b = some o := by
  obtain ⟨rfl, rfl⟩ := g
  cases rv with
  | cons r _ => exact ⟨r, .refl, hH, fun _ _ e => e⟩
theorem hR3 (hH : RH K cls ts ρ H h) (rv : RVs K ρ H vs ds) (g : GV3 vs H v H') : RV K ρ H' v (.tup ds) ∧ Ext ts ρ ρ H H' ∧ RH K cls ts ρ H' h ∧ ∀ b o, H b = some o → H' b = some o := by
  obtain ⟨p, np, rfl, rfl⟩ := g
  have e := ext_other (ts := ts) (ρ := ρ) (u := .tup vs) np
  exact ⟨.tup (SqT.of upd_same) (rv.mono e), e, hH.other np, fun b o q => by rw [upd_ne (ne_of_none q np)]; exact q⟩
end
end Mi

namespace Mi
open L2 PySem PySem.Spec PyProof.Rows
/-! ### classes in the written part -/
structure Cld (K : PySem.W.Frag) (C : Addr) (bm : List Value) (newId : String) : Prop where
  lk : ∃ nm q D bs sn sub ab col dd k0 k1 k2 k3 k5, K.lookup C = some (excClassObj nm q C D bs bm true sn sub ab col dd k0 k1 k2 k3 k5 newId)
  ga : PySem.W.findIn K (.ref C) "__getattribute__" = some (some (.builtin "BaseException.__getattribute__"))
  gg : PySem.W.findIn K (.ref C) "__getattr__" = some none
  ha : PySem.W.findIn K (.ref C) "__class__" = some (some (.builtin "object.__class__"))
  kC : PySem.W.keepIn K (.ref C) = true
section
variable {K : PySem.W.Frag} {C E : Addr} {bm bm' : List Value} {newId newId' : String}
theorem Cld.data (T : Cld K C bm newId) : ∃ cd, PySem.W.clsIn K C = some cd ∧ cd.hasDict = true ∧ cd.mro = .ref C :: bm := by
  obtain ⟨nm, q, D, bs, sn, sub, ab, col, dd, k0, k1, k2, k3, k5, h⟩ := T.lk
  exact ⟨_, by unfold PySem.W.clsIn; rw [h] <;> rfl, rfl, rfl⟩
theorem Cld.is (T : Cld K C bm newId) : (PySem.W.clsIn K C).isSome = true := by
  obtain ⟨cd, h, _⟩ := T.data
  rw [h]; rfl
theorem Cld.hd (T : Cld K C bm newId) : PySem.W.hasDictIn K C = true := by
  obtain ⟨cd, h, h2, _⟩ := T.data
  unfold PySem.W.hasDictIn
  rw [h]; exact h2
theorem Cld.mro (T : Cld K C bm newId) (v : Value) : PySem.W.mroIn K C v = some ((Value.ref C :: bm).contains v) := by
  obtain ⟨cd, h, _, h3⟩ := T.data
  unfold PySem.W.mroIn
  rw [h, Option.bind_some, h3]
  rfl
theorem Cld.sub (T : Cld K C bm newId) (v : Value) : PySem.W.subIn K (.ref C) v = some ((Value.ref C :: bm).contains v) := T.mro v
theorem Cld.ty (T : Cld K C bm newId) : PySem.W.typeIn K (.ref C) = some (.type "type") := by
  obtain ⟨nm, q, D, bs, sn, sub, ab, col, dd, k0, k1, k2, k3, k5, h⟩ := T.lk
  show (K.lookup C).map (·.cls) = _
  rw [h]; rfl
theorem Cld.subT (T : Cld K C bm newId) {n : String} (h : bm.contains (.type n) = true) : PySem.W.subIn K (.ref C) (.type n) = some true := by
  rw [T.sub, List.contains_cons, h, Bool.or_true]
theorem Cld.exc (T : Cld K C bm newId) (h1 : bm.contains (.type "BaseException") = true) (h2 : bm.contains (.type "object") = true) (hn : PySem.W.specialIn K (.builtin "object.__class__") "__get__" = some (some (.builtin "getset_descriptor.__get__"))) (ht : PySem.W.takesIn K (.builtin "object.__class__") = some true) : ExcC K C :=
  ⟨T.ga, T.gg, T.subT h1, T.hd, T.ha, hn, ht, T.subT h2⟩
theorem Cld.xf (T : Cld K C bm newId) (h1 : bm.contains (.type "BaseException") = true) : XfC K C := ⟨T.ga, T.gg, T.subT h1, T.hd⟩
theorem Cld.kit (T : Cld K E bm newId) (T' : Cld K C bm' newId') : PySem.W.kitOne K (.ref E) (.ref C) = some ((Value.ref E :: bm).contains (.ref C)) := by
  unfold PySem.W.kitOne
  split
  · rename_i z
    rw [beq_iff_eq] at z
    cases z
    simp
  · show (if ((PySem.W.clsIn K C).isSome && PySem.W.typeIn K (.ref C) == some (.type "type")) = true then PySem.W.subIn K (.ref E) (.ref C) else none) = _
    rw [T'.is, T'.ty, if_pos (show (true && some (Value.type "type") == some (Value.type "type")) = true by simp), T.sub]
theorem Cld.kitT (T : Cld K E bm newId) {n : String} (hm : PySem.W.kitMeta n = true) : PySem.W.kitOne K (.ref E) (.type n) = some ((Value.ref E :: bm).contains (.type n)) := by
  have z : ((Value.ref E == Value.type n) = true) = False := by simp
  unfold PySem.W.kitOne
  rw [if_neg (by rw [z]; exact id)]
  show (if PySem.W.kitMeta n = true then PySem.W.subIn K (.ref E) (.type n) else none) = _
  rw [if_pos hm, T.sub]
theorem Cld.exm (T : Cld K E bm newId) (T' : Cld K C bm' newId') (h1 : bm'.contains (.type "BaseException") = true) : PySem.W.exmOne K (.ref E) (.ref C) = some ((Value.ref E :: bm).contains (.ref C)) :=
  PySem.W.exm_ref (T'.subT h1) T'.hd T'.ty (T.sub _)
theorem Cld.xcls {N B : String} {bmB : List Value} (T : Cld K C bm newId) (Z : Beh N newId bm) (ht : PySem.W.excTail bmB bm = true) (st : StoreFacts B bmB "object.__setattr__" "object") (h1 : bm.contains (.type "BaseException") = true)
    (sa : PySem.W.findIn K (.ref C) "__setattr__" = some (some (.builtin "object.__setattr__"))) : XCls K C := by
  obtain ⟨nm, q, D, bs, sn, sub, ab, col, dd, k0, k1, k2, k3, k5, h⟩ := T.lk
  exact ⟨⟨N, newId, B, bmB, nm, q, D, bs, bm, sn, sub, ab, col, dd, k0, k1, k2, k3, k5, h, Z, ht, st⟩, sa, T.subT h1, T.ty, T.kC, T.ga, T.gg⟩
end
theorem beh_ve {S : Addr} : Beh "ValueError" "ValueError.__new__" (.ref S :: veTail') := ⟨⟨_, _, PySem.F.excBase_ValueError⟩, rfl, rfl, rfl⟩
theorem beh_ke : Beh "LookupError" "LookupError.__new__" keTail := ⟨⟨_, _, PySem.F.excBase_LookupError⟩, by decide +kernel, by decide +kernel, by decide +kernel⟩
theorem beh_ie : Beh "IndexError" "IndexError.__new__" ieTail := ⟨⟨_, _, PySem.F.excBase_IndexError⟩, by decide +kernel, by decide +kernel, by decide +kernel⟩
theorem taker_of {K : PySem.W.Frag} {C : Addr} {f : Str} (h : PySem.W.findIn K (.ref C) f = some none) : PySem.W.takerIn K C f = some none := by
  unfold PySem.W.takerIn
  rw [h]; rfl
/-! ### named arguments in another order -/
def pm120 {α : Type} : List α → List α
  | [a, b, c] => [b, c, a]
  | xs => xs
def pm201 {α : Type} : List α → List α
  | [a, b, c] => [c, a, b]
  | xs => xs
def pm021 {α : Type} : List α → List α
  | [a, b, c] => [a, c, b]
  | xs => xs
theorem pmV120 {ks : List Str} (zs : List V) (ws : List Value) (r : Vals zs ws) (hl : zs.length = ks.length) : Vals (pm120 zs) (pm120 ws) := by
  match zs, ws, r with
  | [_, _, _], _, .cons a (.cons b (.cons c .nil)) => exact .cons b (.cons c (.cons a .nil))
  | [], _, .nil => exact .nil
  | [_], _, .cons a .nil => exact .cons a .nil
  | [_, _], _, .cons a (.cons b .nil) => exact .cons a (.cons b .nil)
  | _ :: _ :: _ :: _ :: _, _, .cons a (.cons b (.cons c (.cons d r))) => exact .cons a (.cons b (.cons c (.cons d r)))
theorem pmV201 {ks : List Str} (zs : List V) (ws : List Value) (r : Vals zs ws) (hl : zs.length = ks.length) : Vals (pm201 zs) (pm201 ws) := by
  match zs, ws, r with
  | [_, _, _], _, .cons a (.cons b (.cons c .nil)) => exact .cons c (.cons a (.cons b .nil))
  | [], _, .nil => exact .nil
  | [_], _, .cons a .nil => exact .cons a .nil
  | [_, _], _, .cons a (.cons b .nil) => exact .cons a (.cons b .nil)
  | _ :: _ :: _ :: _ :: _, _, .cons a (.cons b (.cons c (.cons d r))) => exact .cons a (.cons b (.cons c (.cons d r)))
theorem pmV021 {ks : List Str} (zs : List V) (ws : List Value) (r : Vals zs ws) (hl : zs.length = ks.length) : Vals (pm021 zs) (pm021 ws) := by
  match zs, ws, r with
  | [_, _, _], _, .cons a (.cons b (.cons c .nil)) => exact .cons a (.cons c (.cons b .nil))
  | [], _, .nil => exact .nil
  | [_], _, .cons a .nil => exact .cons a .nil
  | [_, _], _, .cons a (.cons b .nil) => exact .cons a (.cons b .nil)
  | _ :: _ :: _ :: _ :: _, _, .cons a (.cons b (.cons c (.cons d r))) => exact .cons a (.cons b (.cons c (.cons d r)))
section
variable {K : PySem.W.Frag} {ρ : List Addr} {H : Hp} {ks : List Str}
theorem pmD120 (zs : List V) (es : List D) (r : RVs K ρ H zs es) (hl : zs.length = ks.length) : RVs K ρ H (pm120 zs) (pm120 es) := by
  match zs, es, r with
  | [_, _, _], _, .cons a (.cons b (.cons c .nil)) => exact .cons b (.cons c (.cons a .nil))
  | [], _, .nil => exact .nil
  | [_], _, .cons a .nil => exact .cons a .nil
  | [_, _], _, .cons a (.cons b .nil) => exact .cons a (.cons b .nil)
  | _ :: _ :: _ :: _ :: _, _, .cons a (.cons b (.cons c (.cons d r))) => exact .cons a (.cons b (.cons c (.cons d r)))
theorem pmD201 (zs : List V) (es : List D) (r : RVs K ρ H zs es) (hl : zs.length = ks.length) : RVs K ρ H (pm201 zs) (pm201 es) := by
  match zs, es, r with
  | [_, _, _], _, .cons a (.cons b (.cons c .nil)) => exact .cons c (.cons a (.cons b .nil))
  | [], _, .nil => exact .nil
  | [_], _, .cons a .nil => exact .cons a .nil
  | [_, _], _, .cons a (.cons b .nil) => exact .cons a (.cons b .nil)
  | _ :: _ :: _ :: _ :: _, _, .cons a (.cons b (.cons c (.cons d r))) => exact .cons a (.cons b (.cons c (.cons d r)))
theorem pmD021 (zs : List V) (es : List D) (r : RVs K ρ H zs es) (hl : zs.length = ks.length) : RVs K ρ H (pm021 zs) (pm021 es) := by
  match zs, es, r with
  | [_, _, _], _, .cons a (.cons b (.cons c .nil)) => exact .cons a (.cons c (.cons b .nil))
  | [], _, .nil => exact .nil
  | [_], _, .cons a .nil => exact .cons a .nil
  | [_, _], _, .cons a (.cons b .nil) => exact .cons a (.cons b .nil)
  | _ :: _ :: _ :: _ :: _, _, .cons a (.cons b (.cons c (.cons d r))) => exact .cons a (.cons b (.cons c (.cons d r)))
end
end Mi

/-! Mi37: all(..) over a generator whose parts do what they will: the loop, by what stands ahead of each turn. -/
namespace GenL
open PySem
section
variable {prog : Program} {w : World} {A : Around}
/-- Λ i: ahead of turn i; Ω: the rows are gone; Φ: a part was False -/
structure Turns (prog : Program) (w : World) (A : Around) (target elt : Expr) (it a : Addr) (g n : Nat) (cenv : Env) (Λ : Nat → Shared → Prop) (Ω Φ : Shared → Prop) : Prop where
  done : ∀ s, Λ n s → wpAny (model prog w) A (pyNext (.ref it)) (fun r s' => r = none ∧ Ω s') (fun _ _ => False) s
  turn : ∀ i s, i < n → Λ i s → wpAny (model prog w) A (pyNext (.ref it)) (fun r s1 => ∃ u, r = some u ∧ wpAny (model prog w) A (letOwnedTupleGo target (.ref it) u) (fun _ s2 => wpAny (model prog w) A (assign target cenv u) (fun _ s3 =>
    wpAny (model prog w) A (eval elt cenv) (fun y s4 => ∃ b : Bool, y = .bool b ∧ if b = true then Λ (i + 1) s4 else Φ s4) (fun _ _ => False) s3) (fun _ _ => False) s2) (fun _ _ => False) s1) (fun _ _ => False) s
  self : ∀ (A' : Around) (i : Nat) (s : Shared) (Q : Value → Shared → Prop) (E : Value → Shared → Prop), Λ i s → Q (.ref it) s → wpAny (model prog w) A' (pyIter (.ref it)) Q E s
  gen : ∀ i s, Λ i s → s.heap.IsGen a g ∧ s.heap.NoLimit ∧ g < s.gens.size
  set : ∀ i s x, x.bare = true → Λ i s → Λ i (s.setGen g x)
  setΩ : ∀ s h', Ω s → (∀ b o, s.heap.get? b = some o → h'.get? b = some o) → Ω { s.setGen g .finished with heap := h' }
  setΦ : ∀ s x, x.bare = true → Φ s → Φ (s.setGen g x)
def gR (Ω : Shared → Prop) : GenEnd := fun m s₀ r s₁ => r = .ok .next ∧ (m = 0 ∧ Ω s₁)
def gY (n : Nat) (Λ : Nat → Shared → Prop) (Φ : Shared → Prop) : Protocol := fun m s₀ v s kap => ∃ (i : Nat) (b : Bool), i + m + 1 = n ∧ v = .bool b ∧ if b = true then (Λ (i + 1) s ∧ ∀ s'', Λ (i + 1) s'' → kap (.send .none) s'') else Φ s
theorem seg_turns {elt target iter : Expr} {scope : Scope} {pos : Pos} {it a : Addr} {g n : Nat} {cenv : Env} {Λ : Nat → Shared → Prop} {Ω Φ : Shared → Prop}
    (T : Turns prog w (A.over (.compLoop (.GeneratorExp elt [⟨target, iter, [], 0⟩] scope pos) 0 (.ref it) .none cenv) []) target elt it a g n cenv Λ Ω Φ) (hco : cenv.scope.isCoroutine = false) :
    ∀ (k i : Nat) (s₀ s : Shared), i + k = n → Λ i s → Seg (model prog w) A (gR Ω) (gY n Λ Φ) k s₀ (.compLoop (.GeneratorExp elt [⟨target, iter, [], 0⟩] scope pos) 0 (.ref it) .none cenv)
      ((model prog w).den (.compLoop (.GeneratorExp elt [⟨target, iter, [], 0⟩] scope pos) 0 (.ref it) .none cenv)) [] s := by
  intro k
  induction k with
  | zero =>
    intro i s₀ s hk hs
    obtain rfl : i = n := by omega
    show Seg _ A _ _ _ s₀ _ ((compTurn (.GeneratorExp elt [⟨target, iter, [], 0⟩] scope pos) 0 (.ref it) .none cenv).onRaise (leaving cenv)) [] s
    rw [compTurn_gen, Sem.onRaise_eq_wrap]
    refine seg_bind_wrap (wpAny_standAt ?_)
    refine seg_bind_wrap (wpAny_mono (T.done s hs) (fun r s' h => ?_) fun _ _ e => e.elim)
    obtain ⟨rfl, hΩ⟩ := h
    exact seg_end (.ok .next) ⟨rfl, rfl, hΩ⟩
  | succ k ih =>
    intro i s₀ s hk hs
    show Seg _ A _ _ _ s₀ _ ((compTurn (.GeneratorExp elt [⟨target, iter, [], 0⟩] scope pos) 0 (.ref it) .none cenv).onRaise (leaving cenv)) [] s
    rw [compTurn_gen, Sem.onRaise_eq_wrap]
    refine seg_bind_wrap (wpAny_standAt ?_)
    refine seg_bind_wrap (wpAny_mono (T.turn i s (by omega) hs) (fun r s1 h => ?_) fun _ _ e => e.elim)
    obtain ⟨u, rfl, h⟩ := h
    refine seg_bind_wrap (wpAny_mono h (fun _ s2 h => ?_) fun _ _ e => e.elim)
    refine seg_bind_wrap (wpAny_mono h (fun _ s3 h => ?_) fun _ _ e => e.elim)
    simp only [List.forIn_nil]
    refine seg_bind_wrap (wpAny_pure ?_)
    simp only [if_true]
    have hy : ∀ v, yieldOut cenv v = yieldValue v := fun v => by simp only [yieldOut, hco, Bool.false_eq_true, if_false]
    simp only [hy]
    rw [Sem.bind_eq_wrap', Sem.bind_eq_wrap', Sem.wrap_wrap, Sem.wrap_wrap]
    refine seg_wrap (wpAny_mono h (fun y s4 h4 => ?_) fun _ _ e => e.elim)
    obtain ⟨b, rfl, hb⟩ := h4
    cases b with
    | true =>
      rw [if_pos rfl] at hb
      refine seg_at (seg_yield rfl rfl rfl ⟨i, true, by omega, rfl, ?_⟩)
      rw [if_pos rfl]
      exact ⟨hb, fun s'' h'' => seg_again rfl (ih (i + 1) s'' s'' (by omega) h'')⟩
    | false =>
      rw [if_neg Bool.false_ne_true] at hb
      refine seg_at (seg_yield rfl rfl rfl ⟨i, false, by omega, rfl, ?_⟩)
      rw [if_neg Bool.false_ne_true]
      exact hb
theorem seg_starts {elt target iter : Expr} {scope : Scope} {pos : Pos} {it a : Addr} {g n : Nat} {cenv : Env} {Λ : Nat → Shared → Prop} {Ω Φ : Shared → Prop}
    (T : Turns prog w (A.over (.compLoop (.GeneratorExp elt [⟨target, iter, [], 0⟩] scope pos) 0 (.ref it) .none cenv) []) target elt it a g n cenv Λ Ω Φ) (hco : cenv.scope.isCoroutine = false) (s₀ s : Shared) (hs : Λ 0 s) :
    Seg (model prog w) A (gR Ω) (gY n Λ Φ) n s₀ (.compStart (.GeneratorExp elt [⟨target, iter, [], 0⟩] scope pos) 0 (.ref it) .none cenv)
      ((model prog w).den (.compStart (.GeneratorExp elt [⟨target, iter, [], 0⟩] scope pos) 0 (.ref it) .none cenv)) [] s := by
  have loop := seg_turns (iter := iter) (scope := scope) (pos := pos) T hco n 0 s₀ s (by omega) hs
  show Seg _ A _ _ _ s₀ _ ((compStart (.GeneratorExp elt [⟨target, iter, [], 0⟩] scope pos) 0 (.ref it) .none cenv).onRaise (leaving cenv)) [] s
  unfold compStart
  rw [Sem.onRaise_eq_wrap]
  show Seg _ A _ _ _ s₀ _ ((ask >>= _).wrap _ _ _ _) [] s
  refine seg_bind_wrap (wpAny_askSetting ?_)
  split
  · exact seg_again rfl loop
  · first
      | exact seg_bind_wrap (wpAny_rule (seg_bind_wrap (wpAny_standAt (seg_bind_wrap (T.self _ 0 s _ _ hs (seg_again rfl loop))))))
      | (refine seg_bind_wrap (wpAny_rule ?_); show Seg _ A _ _ _ s₀ _ ((standAt iter.pos >>= _).wrap _ _ _ _) [] s; exact seg_bind_wrap (wpAny_standAt (seg_bind_wrap (T.self _ 0 s _ _ hs (seg_again rfl loop)))))
theorem codeAny_all_gen {A1 : Around} {target elt : Expr} {it a : Addr} {g n : Nat} {cenv : Env} {Λ : Nat → Shared → Prop} {Ω Φ : Shared → Prop} {R : Result → Shared → Prop} (T : Turns prog w A1 target elt it a g n cenv Λ Ω Φ) (hh : A.handled = none) (hroom : A.depth < recursionLimit)
    (h1 : ∀ s, Ω s → R (.ok (.ret (.bool true))) s) (h2 : ∀ s, Φ s → R (.ok (.ret (.bool false))) s) :
    ∀ (k i : Nat) (s : Shared) (gs : GenState), i + k = n → Λ i s → s.gens[g]? = some gs → (∀ s'', Λ i s'' → gs.Goes (model prog w) A.in1.in1 (gR Ω) (gY n Λ Φ) k (.send .none) s'') →
      codeAny (model prog w) A (.builtin "all.loop" ⟨[.ref a], []⟩) R s := by
  intro k
  induction k with
  | zero =>
    intro i s gs hk hs hgs hgo
    obtain ⟨hg, hl, hlt⟩ := T.gen i s hs
    refine codeAny_builtin F.entry_all_loop ?_
    rw [Around.under_plainId F.plain_all_loop _]
    show wpAny _ A.in1 (pyNext (.ref a) >>= _) _ _ s
    refine wpAny_bind (wpAny_pyNext_genexpQ (A := A.in1) (P := fun n s₀ s₁ => n = 0 ∧ Ω s₁) hh hl hroom hg hgs (hgo _ (T.set i s .running rfl hs)) (fun v s₁ gs' hb hv => ?_) (fun s₁ hp h' hk' => ?_))
    · obtain ⟨j, b, ej, rfl, q⟩ := hv
      refine wpAny_bind (wpAny_holding (wpAny_truthy_bool ?_))
      refine wpAny_bind (wpAny_letGo ?_)
      cases b with
      | true =>
        rw [if_pos rfl] at q
        exact (q.2 _ q.1).elim
      | false =>
        rw [if_neg Bool.false_ne_true] at q
        simp only [Bool.false_eq_true, if_false]
        exact wpAny_bind (wpAny_rule (wpAny_pure (h2 _ (T.setΦ _ _ hb q))))
    · exact wpAny_bind (wpAny_rule (wpAny_pure (h1 _ (T.setΩ _ _ hp.2 hk'))))
  | succ k ih =>
    intro i s gs hk hs hgs hgo
    obtain ⟨hg, hl, hlt⟩ := T.gen i s hs
    refine codeAny_builtin F.entry_all_loop ?_
    rw [Around.under_plainId F.plain_all_loop _]
    show wpAny _ A.in1 (pyNext (.ref a) >>= _) _ _ s
    refine wpAny_bind (wpAny_pyNext_genexpQ (A := A.in1) (P := fun n s₀ s₁ => n = 0 ∧ Ω s₁) hh hl hroom hg hgs (hgo _ (T.set i s .running rfl hs)) (fun v s₁ gs' hb hv => ?_) (fun s₁ hp h' hk' => absurd hp.1 (Nat.succ_ne_zero k)))
    obtain ⟨j, b, ej, rfl, q⟩ := hv
    obtain rfl : j = i := by omega
    refine wpAny_bind (wpAny_holding (wpAny_truthy_bool ?_))
    refine wpAny_bind (wpAny_letGo ?_)
    cases b with
    | true =>
      rw [if_pos rfl] at q
      simp only [if_true]
      have hs1 := T.set _ _ gs' hb q.1
      refine wpAny_pure ⟨plainId_quiet F.plain_all_loop _, ih (j + 1) _ gs' (by omega) hs1 (L2.setGen_at (T.gen _ _ q.1).2.2) fun s'' h'' => q.2 s'' h''⟩
    | false =>
      rw [if_neg Bool.false_ne_true] at q
      simp only [Bool.false_eq_true, if_false]
      exact wpAny_bind (wpAny_rule (wpAny_pure (h2 _ (T.setΦ _ _ hb q))))
theorem call_all_gen {elt target iter : Expr} {scope : Scope} {pos : Pos} {it a : Addr} {g n : Nat} {cenv : Env} {Λ : Nat → Shared → Prop} {Ω Φ : Shared → Prop} {Q : Value → Shared → Prop} {E : Value → Shared → Prop} {s : Shared}
    (T : Turns prog w (A.in1.in1.over (.compLoop (.GeneratorExp elt [⟨target, iter, [], 0⟩] scope pos) 0 (.ref it) .none cenv) []) target elt it a g n cenv Λ Ω Φ) (hco : cenv.scope.isCoroutine = false) (hh : A.handled = none) (hroom : A.depth < recursionLimit)
    (hs : Λ 0 s) (hgs : s.gens[g]? = some (.fresh (.compStart (.GeneratorExp elt [⟨target, iter, [], 0⟩] scope pos) 0 (.ref it) .none cenv))) (h1 : ∀ s, Ω s → Q (.bool true) s) (h2 : ∀ s, Φ s → Q (.bool false) s) :
    wpAny (model prog w) A (call (.builtin "all") [.ref a]) Q E s := by
  refine call_function_tree F.kind_all F.plain_all F.entry_all (F.args_all1 _) ?_
  unfold Builtin.«all»
  refine wpAny_bind (m := oneArg "all" _) (wpAny_pure ?_)
  refine wpAny_bind (wpAny_pyIter_gen (T.gen 0 s hs).1 ?_)
  exact wpAny_pure ⟨plainId_quiet F.plain_all_loop _, codeAny_all_gen T hh hroom (fun s' h => h1 s' h) (fun s' h => h2 s' h) n 0 s _ (by omega) hs hgs fun s'' h'' => ⟨rfl, seg_starts T hco s'' s'' h''⟩⟩
end
end GenL

/-! Mi38: all(part for target in rows) whose part may call. -/
namespace Mi
open L2 PySem PySem.Spec PyProof.Rows
def allGo (it : AIt) (g : TF') (F : EF) : Nat → Nat → AEnv → AH → Res D
  | 0, _, _, h => if it.fin h = true then .ok (.bl true) h else .stuck
  | m + 1, i, ε, h => match it.item i h with
    | some d => match g d ε h with
      | some ε1 => (noExc (F ε1 h)).bind fun y h1 => match y with
          | .bl b => if b = true then allGo it g F m (i + 1) ε1 h1 else .ok (.bl false) h1
          | _ => .stuck
      | none => .stuck
    | none => .stuck
def cAllG (nN : Nat) (iF : IF) (g : TF') (F : EF) : EF := fun ε h => (iF ε h).bind fun it h1 => allGo it g F it.len 0 (List.replicate nN none) h1
/-- the frame of a generator expression over X's -/
abbrev gnx (X : Cx) (s : Shared) (H : Hp) (scope : Scope) (cenv : Env) (N : List Str) (fp : List Addr) : Cx :=
  { X with A := X.A.in1.in1.deeper cenv, N := N, s_0 := s, H_0 := H, env := cenv, outer := X.stack, stack := cenv :: X.stack, ex := fp, fn := fun x => scope.names.lookup x == some .cell, calm := true, pn := [], xe := fun _ _ => False }
structure GenF (scope : Scope) : Prop where
  kind : scope.kind = .function
  co : scope.isCoroutine = false
  cell : ∀ y ∈ scope.names, y.2 ≠ .cell
  nofree : ∀ y ∈ scope.names, y.2 ≠ .free
  dot : scope.names.lookup (".0" : Str) = some NameKind.local
theorem clo_none {cells : List (Str × Addr)} : ∀ {names : List (Str × NameKind)} {acc : List (Str × Addr)}, (∀ y ∈ names, y.2 ≠ .free) → cloFrom cells names acc = acc
  | [], _, _ => rfl
  | (n, k) :: r, acc, h => by
    unfold cloFrom
    rw [if_neg (fun z => h (n, k) List.mem_cons_self (by simpa using z))]
    exact clo_none fun y hy => h y (List.mem_cons_of_mem _ hy)
section
variable {X : Cx} {pins : List (Addr × Obj)} {σ : L2.St} {H H' : Hp} {s s' : Shared}
theorem inv_gens (I : Inv X pins σ H s) (ho : s'.os = s.os) (k : ∀ b o, s.heap.get? b = some o → s'.heap.get? b = some o) (hg : AllBare s'.gens) : Inv X pins σ H s' :=
  I.call' (ch := []) ho (Un.kept k) (I.hok.kept k) hg (fun b hb => by cases hb)
theorem gnx_start {scope : Scope} {N : List Str} {fp : List Addr} {code : Value} {h5 : Heap} {m : Str → Option Value} {G : Array GenState} {tk : Nat} {a : Addr} {ob : Obj} (I : Inv X pins σ H s) (S : GenF scope) (hd : X.A.handled = none) (hfp : ∀ b ∈ fp, FpOk X pins H b ∧ b < s.heap.objs.size)
    (kp : ∀ b o, s.heap.get? b = some o → h5.get? b = some o) (hn : h5.Ns s.heap.objs.size m) (hG : AllBare G) (ha : s.heap.objs.size < a) (hob : h5.get? a = some ob) (hnc : ∀ v, ob.data ≠ .cell v) :
    Inv (gnx X s H scope (genEnv scope [] s.heap.objs.size code builtinsNs X.env) N fp) [(a, ob)] (List.replicate N.length none) H { s with heap := h5, gens := G, toks := tk } := by
  have nstk : ∀ b, s.heap.objs.size ≤ b → b ∉ frs X.stack := fun b hb z => by
    rcases List.mem_cons.mp (I.stkSub b z) with e | e
    · have := I.lt
      rw [e] at hb
      exact absurd (Nat.lt_of_lt_of_le this hb) (Nat.lt_irrefl _)
    · exact I.nofs hb e
  have kn : ∀ x : Str, scope.names.lookup x ≠ some .cell ∧ scope.names.lookup x ≠ some .free := fun x => ⟨fun z => S.cell _ (PySem.mem_of_lookup z) rfl, fun z => S.nofree _ (PySem.mem_of_lookup z) rfl⟩
  have okB : (gnx X s H scope (genEnv scope [] s.heap.objs.size code builtinsNs X.env) N fp).Ok := by
    refine ⟨I.ok.mod, S.kind, I.ok.glob, rfl, Nat.le_refl _, fun y z c e1 e2 => (nomatch (show none = some c from e1)), fun y hy => ?_, fun y c z e => (nomatch (show none = some c from e)), fun _ => hd, Around.frames_deeper (A := X.A.in1.in1) I.ok.frames, .inr ⟨rfl, rfl⟩, fun b hb => ⟨?_, fun y c e z => (nomatch (show none = some c from e))⟩, I.bs, Nat.le_trans I.ok.bsz I.sz, fun b o e hb => ?_, fun b hb z => ?_, I.stack, I.stkFree⟩
    · rcases hy with hy | hy
      · exact absurd hy (kn y).1
      · exact absurd hy (kn y).2
    · exact Nat.ne_of_lt (hfp b hb).2
    · rcases (hfp b hb).1.2.2.2.1 with q | q
      · exact I.ok.noex b o e q
      · exact absurd (Nat.lt_of_lt_of_le (Heap.lt_size e) (Nat.le_trans I.ok.bsz q)) (Nat.lt_irrefl _)
    · rcases List.mem_cons.mp (I.stkSub b z) with q | q
      · exact (hfp b hb).1.2.1 q
      · exact (hfp b hb).1.2.2.1 q
  refine ⟨okB, rfl, hG, Un.kept kp, ⟨m, hn, fun i x v e1 e2 e3 => ?_⟩, fun y c e => (nomatch (show none = some c from e)), I.hok.fresh (Nat.le_refl _), fun y c e => (nomatch (show none = some c from e)), fun p hp => ?_, I.hok.kept kp, by simp⟩
  · rw [List.getElem?_replicate] at e2
    split at e2 <;> cases e2
  · have hp : p ∈ ([] : List (Addr × Obj)) ++ [(a, ob)] := hp
    rw [List.nil_append, List.mem_singleton] at hp
    subst hp
    exact ⟨hob, I.hok.fresh (Nat.le_of_lt ha), Nat.ne_of_gt ha, nstk a (Nat.le_of_lt ha), hnc⟩
end
section
variable {X : Cx} {cls ts ρ1 : List Addr} {elt tg : Expr} {F : EF} {gt : TF'} {sl : List Nat} {J : It} {ait : AIt} {fp : List Addr} {it a : Addr} {tn : Nat → Heap → Prop} {s4 : Shared} {H3 : Hp} {scope : Scope} {cenv : Env} {N : List Str} {g : Nat} {ob : Obj} {V : Value → Option Addr → Hp → Prop} {Q : VK}
theorem gen_turns (pe : E' (gnx X s4 H3 scope cenv N fp) cls ts W0 elt F) (pg : G' (gnx X s4 H3 scope cenv N fp) cls ts tg sl gt) (T : Turn X.prog X.w X.K tg J fp it tn) (rit : RIt X.K cls ts ρ1 H3 J ait) (hfa : ∀ b ∈ fp, a ≠ b) (hob : ∃ nm qn, ob.cls = .type "generator" ∧ ob.data = .fields #[.int g 0, nm, qn] ∧ ob.slots = #[]) :
    GenL.Turns X.prog X.w (X.A.in1.in1.deeper cenv) tg elt it a g ait.len cenv
      (fun i s => i ≤ ait.len ∧ g < s.gens.size ∧ ∃ ρ ε h H σ', Ext ts ρ1 ρ H3 H ∧ Inv (gnx X s4 H3 scope cenv N fp) [(a, ob)] σ' H s ∧ tn i s.heap ∧ (∀ b ∈ fp, H b = none) ∧ RH X.K cls ts ρ H h ∧ RE X.K ρ H σ' ε ∧ Post X.K cls ts (relD X.K) V ρ H (allGo ait gt F (ait.len - i) i ε h) Q)
      (fun s => ∃ H' σ', Inv (gnx X s4 H3 scope cenv N fp) [(a, ob)] σ' H' s ∧ Q (.bl true) H') (fun s => ∃ H' σ', Inv (gnx X s4 H3 scope cenv N fp) [(a, ob)] σ' H' s ∧ Q (.bl false) H') := by
  have stat : ∀ {σ' : L2.St} {H' : Hp} {s' : Shared}, Inv (gnx X s4 H3 scope cenv N fp) [(a, ob)] σ' H' s' → (∀ b ∈ fp, H' b = none) → ∀ b ∈ fp, FpOk (gnx X s4 H3 scope cenv N fp) [(a, ob)] H' b := fun {σ' H' s'} I' hn b hb =>
    ⟨hn b hb, (I'.ok.exf b hb).1, I'.ok.exfs b hb, .inl hb, fun x c e => (I'.ok.exf b hb).2 x c e, fun p hp => by
      have hp : p ∈ ([] : List (Addr × Obj)) ++ [(a, ob)] := hp
      rw [List.nil_append, List.mem_singleton] at hp
      subst hp
      exact hfa b hb⟩
  refine ⟨?_, ?_, ?_, ?_, ?_, ?_, ?_⟩
  · rintro s ⟨_, _, ρ, ε, h, H, σ', e, I, st, nf, hH, hE, q⟩
    rw [Nat.sub_self] at q
    simp only [allGo] at q
    split at q <;> first | exact q.elim | skip
    rename_i c
    refine wpAny_mono (T.done (gnx X s4 H3 scope cenv N fp) rfl rfl rfl rfl ait.len [(a, ob)] s σ' H (fun _ _ => False) I (stat I nf) st (rit.stop ρ H h e hH c)) (fun r s1 ⟨hr, I1⟩ => ⟨hr, H, σ', I1, post_val hH (.bl _) q⟩) fun _ _ z => z
  · rintro i s hi ⟨_, hgs, ρ, ε, h, H, σ', e, I, st, nf, hH, hE, q⟩
    obtain ⟨k, hk⟩ : ∃ k, ait.len - i = k + 1 := ⟨ait.len - i - 1, by omega⟩
    rw [hk] at q
    simp only [allGo] at q
    split at q <;> first | exact q.elim | skip
    rename_i d qi
    obtain ⟨go, yl⟩ := rit.go ρ H h i d e hH hi qi
    refine GenW.wpAny_gsz (n := g + 1) hgs (wpAny_mono (T.item (gnx X s4 H3 scope cenv N fp) rfl rfl rfl rfl i [(a, ob)] s σ' H (fun _ _ => False) I (stat I nf) st go) (fun r s1 ⟨u, hr, h6⟩ hgs1 => ⟨u, hr, ?_⟩) fun _ _ z => z.elim)
    refine GenW.wpAny_gsz (n := g + 1) hgs1 (wpAny_mono h6 (fun _ s7 ⟨x, H7, I7, r7, y7, st7, n7⟩ hgs7 => ?_) fun _ _ z => z.elim)
    have I7' := I7.pinned (stat I7 n7) (T.obj _ _ st7)
    obtain ⟨e3, hH3, rx⟩ := yl x H7 y7
    have q := q.ext e3
    split at q <;> first | exact q.elim | skip
    rename_i ε1 qg
    refine GenW.wpAny_gsz (n := g + 1) hgs7 (wpAny_mono (pg.run _ s7 _ H7 x u (fun σ8 H8 => RE X.K ρ H8 σ8 ε1 ∧ H8 = H7) I7' r7 ⟨ρ, ε, h, d, ε1, hH3, hE.mono e3, rx, qg, fun σ4 hE4 _ => ⟨hE4, rfl⟩⟩) (fun _ s8 ⟨σ8, H8, I8, hE8, eH8⟩ hgs8 => ?_) fun _ _ z => z.elim)
    subst eH8
    refine GenW.wpAny_gsz (n := g + 1) hgs8 (wpAny_mono (pe.run _ s8 σ8 H8 (fun y H10 => ∃ b : Bool, y = .bl b ∧ ∃ ρ5 h5, Ext ts ρ ρ5 H8 H10 ∧ RH X.K cls ts ρ5 H10 h5 ∧ RE X.K ρ5 H10 σ8 ε1 ∧ Post X.K cls ts (relD X.K) V ρ5 H10 (if b = true then allGo ait gt F k (i + 1) ε1 h5 else .ok (.bl false) h5) Q) I8 ?_)
      (fun z s10 ⟨y, H10, I10, ry, b, ey, ρ5, h5, e5, hH5, hE5, q5⟩ hgs10 => ?_) fun _ _ z => z.elim)
    · refine noExc_W hH3 hE8 q fun ρ5 H5 y h5 dy e5 hH5 ry hE5 q6 => ?_
      split at q6 <;> first | exact q6.elim | skip
      rename_i b
      cases ry
      exact ⟨b, rfl, ρ5, h5, e5, hH5, hE5, q6⟩
    · subst ey
      have ez : z = .bool b := ry
      subst ez
      refine ⟨b, rfl, ?_⟩
      have pin' : ∀ b ∈ fp, ∀ o, s7.heap.get? b = some o → s10.heap.get? b = some o ∧ H10 b = none := fun b hb o e =>
        let z := I10.pin (b, o) (List.mem_append_right _ (List.mem_append_right _ (mem_pinsAt hb e)))
        ⟨z.1, z.2.1⟩
      have I11 : Inv (gnx X s4 H3 scope cenv N fp) [(a, ob)] σ8 H10 s10 := I10.unpinned (pins := [(a, ob)])
      cases b with
      | false =>
        rw [if_neg Bool.false_ne_true] at q5 ⊢
        exact ⟨H10, σ8, I11, post_val hH5 (.bl _) q5⟩
      | true =>
        rw [if_pos rfl] at q5 ⊢
        refine ⟨hi, hgs10, ρ5, ε1, h5, H10, σ8, e.trans (e3.trans e5), I11, T.keep _ _ _ st7 fun b hb o e => (pin' b hb o e).1, fun b hb => ?_, hH5, hE5, ?_⟩
        · obtain ⟨o, e, _⟩ := T.obj _ _ st7 b hb
          exact (pin' b hb o e).2
        · rw [show ait.len - (i + 1) = k by omega]
          exact q5
  · rintro A' i s Q' E' ⟨_, _, ρ, ε, h, H, σ', e, I, st, nf, hH, hE, q⟩ hQ
    exact T.self A' i s Q' E' st hQ
  · rintro i s ⟨_, hgs, ρ, ε, h, H, σ', e, I, st, nf, hH, hE, q⟩
    obtain ⟨nm, qn, o1, o2⟩ := hob
    exact ⟨⟨ob, nm, qn, (I.pin (a, ob) (List.mem_append_right _ List.mem_cons_self)).1, o1, o2⟩, I.nolimit, hgs⟩
  · rintro i s x hx ⟨h1, hgs, ρ, ε, h, H, σ', e, I, st, nf, hH, hE, q⟩
    exact ⟨h1, by rw [GenW.setGen_size]; exact hgs, ρ, ε, h, H, σ', e, inv_gens I rfl (fun _ _ z => z) (allBare_setGen I.bare hx), st, nf, hH, hE, q⟩
  · rintro s h' ⟨H', σ', I, q⟩ hk
    exact ⟨H', σ', inv_gens I rfl hk (allBare_setGen (g := g) (x := .finished) I.bare rfl), q⟩
  · rintro s x hx ⟨H', σ', I, q⟩
    exact ⟨H', σ', inv_gens I rfl (fun _ _ z => z) (allBare_setGen I.bare hx), q⟩
end
end Mi

namespace Mi
open L2 PySem PySem.Spec PyProof.Rows
section
variable {X : Cx} {pins : List (Addr × Obj)} {σ : L2.St} {H : Hp} {s : Shared}
theorem gen_made {c P : Addr} {elt tg iter : Expr} {scope : Scope} {gpos : Pos} {ti : TI} {R : It → Hp → Prop} {Q' : Value → Shared → Prop} {k : Nat} (hr : Room k X.A) (TB : GxR.TabB X.base X.mg c P) (hcode : X.env.code = .ref c) (S : GenF scope) (hi : PI X tg iter ti)
    (hs : ∀ v, genFold iter X.env v = pure v) (I : Inv X pins σ H s) (h : ti σ H R) (hT : ∀ J H1, R J H1 → GxR.TabG H1 P)
    (hQ : ∀ (it : Addr) (fp : List Addr) (tn : Nat → Heap → Prop) (J : It) (H1 H3 : Hp) (s4 : Shared) (code : Value) (h5 : Heap) (m : Str → Option Value) (tk : Nat) (a : Addr) (ob : Obj), R J H1 → GxR.Tabbed P H1 H3 → Inv X pins σ H3 s4 → Turn X.prog X.w X.K tg J fp it tn → tn 0 s4.heap →
      (∀ b ∈ fp, FpOk X pins H3 b ∧ b < s4.heap.objs.size) → (∀ b o, s4.heap.get? b = some o → h5.get? b = some o) → h5.Ns s4.heap.objs.size m → s4.heap.objs.size < a → h5.get? a = some ob →
      (∃ nm qn, ob.cls = .type "generator" ∧ ob.data = .fields #[.int s4.gens.size 0, nm, qn] ∧ ob.slots = #[]) →
      Q' (.ref a) { s4 with gens := s4.gens.push (.fresh (.compStart (.GeneratorExp elt [⟨tg, iter, [], 0⟩] scope gpos) 0 (.ref it) .none (genEnv scope [] s4.heap.objs.size code builtinsNs X.env))), toks := tk, heap := h5 }) :
    wpAny (model X.prog X.w) X.A (eval (.GeneratorExp elt [⟨tg, iter, [], 0⟩] scope gpos) X.env) Q' X.xe s := by
  have hcl : closureFor scope X.env = pure ([] : List (Str × Addr)) := by
    rw [closure_ok (fun y hy e => absurd e (S.nofree y hy)), clo_none S.nofree]
  refine wpAny_GeneratorExp_make S.co hcl S.cell S.dot S.kind (by have := hr.dp; omega) (thn (hi.run pins s σ H R I h) fun xv s1 hs1 => thn hs1 fun itv s2 ⟨it, fp, tn, J, H1, ei, I2, T, st, nfp, r⟩ => ⟨I2.nolimit, ?_⟩) hs
  subst ei
  obtain ⟨ps, hP, ht⟩ := hT J H1 r
  have hPs : s2.heap.get? P = some { cls := .none, data := .fields ps } := I2.hok P _ hP
  have cd : PySem.W.CodeHd s2.heap c P := TB.code.keeps fun b u e => I2.bk b u e
  have nP : ∀ b ∈ fp, b ≠ P := fun b hb z => by
    have q := (nfp b hb).1
    rw [z, hP] at q
    cases q
  have cont : ∀ (code : Value) (h3 : Heap) (tk : Nat) (ps' : Array Value), Heap.ExtBut P s2.heap h3 → s2.heap.objs.size ≤ h3.objs.size → h3.get? P = some { cls := .none, data := .fields ps' } → (∃ more, ps' = ps ++ more) → TriplesOk ps'.toList →
      wpAny (model X.prog X.w) X.A (builtinsFor X.env.globals X.env.builtins) (fun bi s₄ => ∀ h', h'.Ns s₄.heap.objs.size (fun y => if y = ".0" then some (.ref it) else none) → Heap.SameBut s₄.heap.objs.size (s₄.heap.push { cls := .type "frame", data := .dict #[] }) h' →
          Q' (.ref h'.objs.size) { s₄ with
            gens := s₄.gens.push (.fresh (.compStart (.GeneratorExp elt [⟨tg, iter, [], 0⟩] scope gpos) 0 (.ref it) .none (genEnv scope [] s₄.heap.objs.size code bi X.env))),
            toks := s₄.toks + 1 + 1 + 1,
            heap := h'.push { cls := .type "generator", data := .fields #[.int s₄.gens.size 0, .str "<genexpr>" (s₄.toks + 1), .str (X.env.qual ++ "<genexpr>") (s₄.toks + 1 + 1)] } }) X.xe { s2 with heap := h3, toks := tk } := by
    intro code h3 tk ps' hx hsz hP3 hmore ht3
    obtain ⟨bm, ob, e1, e2, e3, e4, e5, e6, e7, e8⟩ := TB.bm
    obtain ⟨more, em⟩ := hmore
    have keep3 : ∀ b u, b ≠ P → s2.heap.get? b = some u → h3.get? b = some u := fun b u hb e => hx b u hb e
    refine wpAny_builtinsFor (m := X.mg) (by rw [I2.ok.glob]; exact (I2.mod.glob.keeps I2.bk).extBut hx TB.gP) e1 e2 (keep3 _ _ e4 (I2.bk _ _ e5)) e6 e7 e8 ?_
    intro h' hn' hs'
    have I4 : Inv X pins σ (upd H1 P (.tbl (ps ++ more))) { s2 with heap := h3, toks := tk } := by
      have := GxR.inv_tab (more := more) (h' := h3) (g' := s2.gens) (d' := s2.drawn) (t' := tk) I2 hP keep3 (by rw [← em]; exact hP3) I2.bare
      exact this
    have sz' : h'.objs.size = h3.objs.size + 1 := by rw [hs'.1, Heap.size_push]
    have kp : ∀ b o, h3.get? b = some o → (h'.push { cls := .type "generator", data := .fields #[.int s2.gens.size 0, .str "<genexpr>" (tk + 1), .str (X.env.qual ++ "<genexpr>") (tk + 1 + 1)] }).get? b = some o := fun b o e =>
      Heap.get?_push_of_some _ (hs'.extBut b o (Nat.ne_of_lt (Heap.lt_size e)) (Heap.get?_push_of_some _ e))
    refine hQ it fp tn J H1 _ { s2 with heap := h3, toks := tk } code _ _ _ h'.objs.size _ r ⟨⟨ps ++ more, upd_same, by rw [← em]; exact ht3⟩, fun b hb => upd_ne hb⟩ I4 T (T.keep _ _ _ st fun b hb o e => keep3 b o (nP b hb) e) (fun b hb => ?_) kp (hn'.push _) (by show h3.objs.size < h'.objs.size; omega) (Heap.get?_push_size _ rfl) ⟨_, _, rfl, rfl, rfl⟩
    have f := nfp b hb
    obtain ⟨o, e, _⟩ := T.obj _ _ st b hb
    exact ⟨⟨by rw [upd_ne (nP b hb)]; exact f.1, f.2⟩, Nat.lt_of_lt_of_le (Heap.lt_size e) hsz⟩
  cases hf : codeAmong gpos ps.toList with
  | none =>
    refine wpAny_genexprCodeX hcode (cd.code hPs ht) (cd.tab hPs) hf fun c' h' tk hx hge hlt hco' _ htab' _ => ?_
    obtain ⟨o1, vs, f1, tf, fl, tg', inF, tx, tt, op, _, _, _, _, _, _, _, _, _, htr, _⟩ := hco'
    exact cont _ h' tk _ hx (Nat.le_trans hge (Nat.le_of_lt hlt)) htab'.2 ⟨_, rfl⟩ htr
  | some cv =>
    refine wpAny_genexprCode_hit hcode (cd.code hPs ht) hf ?_
    exact cont cv s2.heap s2.toks ps (Heap.ExtBut.refl _ _) (Nat.le_refl _) hPs ⟨#[], by simp⟩ ht
end
section
variable {X : Cx} {W : WX} {cls ts : List Addr} {P c : Addr} {k : Nat} {elt tg iter : Expr} {scope : Scope} {p pos gpos : Pos} {N : List Str} {sl : List Nat} {iF : IF} {gt : TF'} {F : EF}
theorem takes_W0 (X : Cx) : Takes X W0 := fun u s' ⟨_, _, _, _, _, _, _, _, _, _, _, _, _, _, _, _, h⟩ => h.elim
/-- all(elt for tg in iter) -/
theorem e_allG (hr : Room k X.A) (hg : Gl X "all") (hm : X.mg "all" = none) (TB : GxR.TabB X.base X.mg c P) (hcode : X.env.code = .ref c) (hP : P ∈ ts) (S : GenF scope) (hi : I' X cls ts W tg iter iF)
    (pg : ∀ (s4 : Shared) (H3 : Hp) (C : Addr) (code : Value) (fp : List Addr), G' (gnx X s4 H3 scope (genEnv scope [] C code builtinsNs X.env) N fp) cls ts tg sl gt)
    (pe : ∀ (s4 : Shared) (H3 : Hp) (C : Addr) (code : Value) (fp : List Addr), E' (gnx X s4 H3 scope (genEnv scope [] C code builtinsNs X.env) N fp) cls ts W0 elt F)
    (hs : ∀ v, genFold iter X.env v = pure v)
    (he : starEach [.GeneratorExp elt [⟨tg, iter, [], 0⟩] scope gpos] X.env = (false, eval (.GeneratorExp elt [⟨tg, iter, [], 0⟩] scope gpos) X.env) :: starEach [] X.env := by rfl) :
    E' X cls ts W (.Call (.Name "all" p) [.GeneratorExp elt [⟨tg, iter, [], 0⟩] scope gpos] [] pos) (cAllG N.length iF gt F) := by
  refine ⟨fun pins s σ H Q I ⟨ρ, ε, h, hH, hE, q⟩ => ?_⟩
  have q1 : tI X.K cls ts W iF σ H fun J H1 => ∃ ρ1 h1 it, RH X.K cls ts ρ1 H1 h1 ∧ RIt X.K cls ts ρ1 H1 J it ∧ Post X.K cls ts (relD X.K) (fun c dd H' => W c dd σ H') ρ1 H1 (allGo it gt F it.len 0 (List.replicate N.length none) h1) Q :=
    tG_bind hH hE q fun ρ1 H1 J h1 it _ e1 hH1 rit hE1 p1 => ⟨ρ1, h1, it, hH1, rit, p1⟩
  refine wpAny_Call_Name_kw (ld_blt I hg hm (show bootBuiltins "all" = some (.builtin "all") by with_unfolding_all rfl) ?_)
  refine PyProof.Rows.callWith_builtin1 ?_ he (by rfl)
  rw [he]
  show wpAny _ _ (spliced ((false, eval (.GeneratorExp elt [⟨tg, iter, [], 0⟩] scope gpos) X.env) :: backTo pos (starEach [] X.env))) _ _ s
  refine Calls.spliced_cons (gen_made hr TB hcode S hi hs I q1 (fun J H1 ⟨ρ1, h1, it, hH1, _⟩ => (hH1.tab P hP).2) fun it fp tn J H1 H3 s4 code h5 m tk a ob ⟨ρ1, h1, ait, hH1, rit, p1⟩ tb I4 T st hfp kp hn ha hob hgo => ?_)
  refine Calls.spliced_nil ?_
  obtain ⟨e3, hH3⟩ := tabbed_ext hH1 hP tb
  have G := gen_turns (ρ1 := ρ1) (V := fun c dd H' => W c dd σ H') (Q := Q) (pe s4 H3 s4.heap.objs.size code fp) (pg s4 H3 s4.heap.objs.size code fp) T (rit.ext e3) (fun b hb z => by have := (hfp b hb).2; rw [← z] at this; exact absurd (Nat.lt_trans ha this) (Nat.lt_irrefl _)) hgo
  have Is := gnx_start (N := N) (code := code) (tk := tk) (G := s4.gens.push (.fresh (.compStart (.GeneratorExp elt [⟨tg, iter, [], 0⟩] scope gpos) 0 (.ref it) .none (genEnv scope [] s4.heap.objs.size code builtinsNs X.env)))) I4 S hr.hd hfp kp hn (I4.bare.push rfl) ha hob (fun v z => by obtain ⟨_, _, _, o2, _⟩ := hgo; rw [o2] at z; cases z)
  have back : ∀ {σ' : L2.St} {H' : Hp} {s' : Shared}, Inv (gnx X s4 H3 scope (genEnv scope [] s4.heap.objs.size code builtinsNs X.env) N fp) [(a, ob)] σ' H' s' → Inv X pins σ H' s' := fun {σ' H' s'} J =>
    I4.call' (ch := fp) J.os J.base J.hok J.bare fun b hb => ⟨(hfp b hb).1.2.2.2.1, (hfp b hb).1.2.1, (hfp b hb).1.2.2.2.2.1, (hfp b hb).1.2.2.2.2.2⟩
  have over : (X.A.in1.in1.over (.compLoop (.GeneratorExp elt [⟨tg, iter, [], 0⟩] scope gpos) 0 (.ref it) .none (genEnv scope [] s4.heap.objs.size code builtinsNs X.env)) []) = X.A.in1.in1.deeper (genEnv scope [] s4.heap.objs.size code builtinsNs X.env) := by
    first
      | rfl
      | (obtain ⟨hd, d, fr, gs, u⟩ := X.A; simp [Around.over, Around.deeper, marksOver, frameCount, unitsOf, envsOf, guardsOf, pushEnvs, pushGuards, Code.envs, Code.env?, Code.isFrame, Code.guards, Code.isGuard, Code.weight, Code.frames, Code.isCreation, Code.isCaller, Code.cUnits])
  refine GenL.call_all_gen (A := X.A) (elt := elt) (target := tg) (iter := iter) (scope := scope) (pos := gpos) (it := it) (a := a) (cenv := genEnv scope [] s4.heap.objs.size code builtinsNs X.env) G S.co hr.hd (by have := hr.dp; omega) ⟨Nat.zero_le _, by simp, ρ1, List.replicate N.length none, h1, H3, List.replicate N.length none, .refl, Is, T.keep _ _ _ st fun b _ o e => kp b o e, fun b hb => (hfp b hb).1.1, hH3, ⟨by rw [List.length_replicate, List.length_replicate], fun i d z => ?_⟩, p1.ext e3⟩
    (Array.getElem?_push_size ..) (fun s' ⟨H', σ', J', q'⟩ => ⟨.bl true, H', back J', rfl, q'⟩) (fun s' ⟨H', σ', J', q'⟩ => ⟨.bl false, H', back J', rfl, q'⟩)
  rw [List.getElem?_replicate] at z
  split at z <;> cases z
end
end Mi

/-! Mi40: zip of two tuples, x[lo:hi:-1], int, str, upper. -/
namespace Mi
open L2 PySem PySem.Spec PyProof.Rows
/-! ### zip -/
def zipD (xs ys : List D) : List D := List.zipWith (fun x y => D.tup [x, y]) xs ys
def iZip (A : AF) : IF := fun ε h => (A ε h).bind fun ds h1 => match ds with
  | [.tup xs, .tup ys] => .ok (.fix (zipD xs ys)) h1
  | _ => .stuck
theorem rit_zip {K : PySem.W.Frag} {cls ts ρ : List Addr} {H : Hp} {a b : Addr} {us vs : List V} {xs ys : List D} (h1 : SqT K H a us) (r1 : RVs K ρ H us xs) (h2 : SqT K H b vs) (r2 : RVs K ρ H vs ys) : RIt K cls ts ρ H (RZ.ItzT K a b) (.fix (zipD xs ys)) := by
  refine ⟨fun ρ' H' h' i d e r hi q => ?_, fun ρ' H' h' e r q => ?_⟩
  · have q : (zipD xs ys)[i]? = some d := q
    unfold zipD at q
    rw [List.getElem?_zipWith] at q
    cases ex : xs[i]? with
    | none => rw [ex] at q; cases q
    | some x =>
      cases ey : ys[i]? with
      | none => rw [ex, ey] at q; cases q
      | some y =>
        rw [ex, ey] at q
        cases q
        obtain ⟨u, hu, ru⟩ := (r1.mono e).get ex
        obtain ⟨v, hv, rv⟩ := (r2.mono e).get ey
        have k1 := e.sqT h1
        have k2 := e.sqT h2
        refine ⟨⟨us, vs, u, v, k1, k2, hu, hv⟩, fun z H'' w => ?_⟩
        obtain ⟨T, x', y', rfl, nT, rfl, p1, p2⟩ := w
        have z1 := p1 us k1
        have z2 := p2 vs k2
        rw [hu] at z1
        rw [hv] at z2
        cases z1
        cases z2
        have e2 := ext_other (ts := ts) (ρ := ρ') (u := .tup [u, v]) nT
        exact ⟨e2, r.other nT, .tup (SqT.of upd_same) (.cons (ru.mono e2) (.cons (rv.mono e2) .nil))⟩
  · refine ⟨us, vs, e.sqT h1, e.sqT h2, ?_⟩
    show us.length ≤ (zipD xs ys).length ∨ vs.length ≤ (zipD xs ys).length
    unfold zipD
    rw [List.length_zipWith, r1.length, r2.length]
    omega
section
variable {X : Cx} {W : WX} {cls ts : List Addr} {e e2 : Expr} {A : AF} {F : EF} {p pos tpos : Pos} {elts : List Expr} {kk : Nat}
theorem i_zip (hg : Gl X "zip") (hm : X.mg "zip" = none) (ha : A' X cls ts W [e, e2] A) (hs : starEach [e, e2] X.env = (false, eval e X.env) :: starEach [e2] X.env := by rfl) (hpl : (backTo pos (starEach [e2] X.env)).any (·.1) = false := by rfl) :
    I' X cls ts W (.Tuple elts kk tpos) (.Call (.Name "zip" p) [e, e2] [] pos) (iZip A) := by
  refine ⟨fun pins s σ H R I ⟨ρ, ε, h, hH, hE, q⟩ => (RZ.pi_zipA hg hm ha hs hpl).run pins s σ H R I (tG_bind hH hE q fun ρ1 H1 vs h1 ds _ e1 hH1 rv hE1 p1 => ?_)⟩
  split at p1 <;> first | exact p1.elim | skip
  obtain ⟨v, w, rfl, r1, r2⟩ := rv.two
  cases r1 with
  | tup k1 q1 =>
    cases r2 with
    | tup k2 q2 => exact ⟨_, _, _, _, rfl, .inr ⟨k1, k2, p1 ρ1 H1 _ .refl hH1 (rit_zip k1 q1 k2 q2)⟩⟩
end
/-! ### x[lo:hi:-1] -/
def stepL {α : Type} (xs : List α) (lo hi : Option Int) : List α :=
  (List.range (Builtin.Slice.slicePlaces (Builtin.Slice.sliceAdjust lo hi (-1) xs.length).1 (Builtin.Slice.sliceAdjust lo hi (-1) xs.length).2 (-1))).filterMap fun (m : Nat) => xs[((Builtin.Slice.sliceAdjust lo hi (-1) xs.length).1 + (m : Int) * (-1)).toNat]?
theorem pick_rvs {K : PySem.W.Frag} {ρ : List Addr} {H : Hp} {xs : List V} {ds : List D} (r : RVs K ρ H xs ds) (f : Nat → Nat) : ∀ l : List Nat, RVs K ρ H (l.filterMap fun m => xs[f m]?) (l.filterMap fun m => ds[f m]?)
  | [] => .nil
  | m :: l => by
    have ih := pick_rvs r f l
    cases q : ds[f m]? with
    | some d =>
      obtain ⟨v, e, rv⟩ := r.get q
      simp only [List.filterMap_cons, q, e]
      exact .cons rv ih
    | none =>
      have e : xs[f m]? = none := by
        rw [List.getElem?_eq_none_iff] at q ⊢
        rw [r.length]
        exact q
      simp only [List.filterMap_cons, q, e]
      exact ih
theorem step_rvs {K : PySem.W.Frag} {ρ : List Addr} {H : Hp} {xs : List V} {ds : List D} (r : RVs K ρ H xs ds) (lo hi : Option Int) : RVs K ρ H (stepL xs lo hi) (stepL ds lo hi) := by
  unfold stepL
  rw [r.length]
  exact pick_rvs r _ _
theorem pick_vals {xs : List V} {us : List Value} (r : Vals xs us) (f : Nat → Nat) : ∀ l : List Nat, Vals (l.filterMap fun m => xs[f m]?) (l.filterMap fun m => us[f m]?)
  | [] => .nil
  | m :: l => by
    have ih := pick_vals r f l
    cases q : xs[f m]? with
    | some d =>
      obtain ⟨v, e, rv⟩ := r.get q
      simp only [List.filterMap_cons, q, e]
      exact .cons rv ih
    | none =>
      have e : us[f m]? = none := by
        rw [List.getElem?_eq_none_iff] at q ⊢
        rw [← r.length]
        exact q
      simp only [List.filterMap_cons, q, e]
      exact ih
theorem step_vals {xs : List V} {us : List Value} (r : Vals xs us) (lo hi : Option Int) : Vals (stepL xs lo hi) (stepL us lo hi) := by
  unfold stepL
  rw [r.length]
  exact pick_vals r _ _
section
variable {prog : Program} {w : World} {A : Around} {E : Value → Shared → Prop} {s : Shared}
theorem sliceApplied_step {sl : Addr} {vl vu vs : Value} {lo hi : Option Int} {n : Nat} {Q : Int × Int × Nat → Shared → Prop} (hs : s.heap.IsSliceOf sl vl vu vs) (pl : IsPart vl lo) (pu : IsPart vu hi) (pk : IsPart vs (some (-1)))
    (h : Q ((Builtin.Slice.sliceAdjust lo hi (-1) (n : Int)).1, -1, Builtin.Slice.slicePlaces (Builtin.Slice.sliceAdjust lo hi (-1) (n : Int)).1 (Builtin.Slice.sliceAdjust lo hi (-1) (n : Int)).2 (-1)) s) : wpAny (model prog w) A (Builtin.Slice.sliceApplied (.ref sl) (pure (n : Int))) Q E s := by
  obtain ⟨os, hos, hcs, hds⟩ := id hs
  unfold Builtin.Slice.sliceApplied Builtin.Slice.sliceFields
  refine wpAny_bind (wpAny_bind (wpAny_field hos hds (x := vl) rfl (wpAny_bind (wpAny_field hos hds (x := vu) rfl (wpAny_bind (wpAny_field hos hds (x := vs) rfl (wpAny_pure ?_)))))))
  refine wpAny_bind (HT.slicePart_ pk ?_)
  show wpAny _ _ (if ((-1 : Int) == 0) = true then _ else _) _ _ s
  rw [if_neg (by decide)]
  refine wpAny_bind (HT.slicePart_ pl (wpAny_bind (HT.slicePart_ pu (wpAny_bind (wpAny_pure ?_)))))
  exact wpAny_pure h
theorem getItem_tuple_step {t sl : Addr} {items : Array Value} {vl vu vs : Value} {lo hi : Option Int} {Q : Value → Shared → Prop} (ht : IsTup s.heap t items) (hs : s.heap.IsSliceOf sl vl vu vs) (pl : IsPart vl lo) (pu : IsPart vu hi) (pk : IsPart vs (some (-1)))
    (h : Q (.ref s.heap.objs.size) { s with heap := s.heap.push { cls := .type "tuple", data := .seq (stepL items.toList lo hi).toArray } })
    (hsz : (stepL items.toList lo hi).length ≤ sizeLine) : wpAny (model prog w) A (getItem (.ref t) (.ref sl)) Q E s := by
  have htake : sizeOk (.seq (stepL items.toList lo hi).toArray) := by
    show (stepL items.toList lo hi).toArray.size ≤ sizeLine
    rw [List.size_toArray]
    exact hsz
  obtain ⟨os, hos, hcs, hds⟩ := id hs
  have hTs : s.TypeIs (.ref sl) "slice" := ⟨os, hos, hcs⟩
  unfold getItem
  try with_reducible refine wpAny_holding ?_
  first | refine wpAny_bind (wpAny_pure ?_) | skip
  refine wpAny_bind (wpAny_sequenceKey ht.typeIs (by decide) ?_)
  refine wpAny_bind (wpAny_callSpecial?_slot (name := Str.ofString "__getitem__") ht.typeIs PyProof.Rows.slot_tuple_getitem
    (wpAny_call_entry PyProof.Rows.slot_tuple_getitem ht.typeIs PyProof.Rows.entry_tuple_getitem ?_ (PyProof.Rows.args_tuple_getitem _ _)))
  show wpAny _ _ (Builtin.Tuple.tupleItemsOf (.ref t) >>= _) _ _ s
  refine wpAny_bind (PyProof.Rows.tupleItemsOf_ ht ?_)
  refine wpAny_bind (wpAny_typeOf hTs ?_)
  rw [if_pos (by decide)]
  refine wpAny_bind (sliceApplied_step hs pl pu pk ?_)
  have e : ((List.range (Builtin.Slice.slicePlaces (Builtin.Slice.sliceAdjust lo hi (-1) (items.size : Int)).1 (Builtin.Slice.sliceAdjust lo hi (-1) (items.size : Int)).2 (-1))).filterMap fun (m : Nat) => items[((Builtin.Slice.sliceAdjust lo hi (-1) (items.size : Int)).1 + (m : Int) * (-1)).toNat]?) = stepL items.toList lo hi := by
    unfold stepL
    rw [Array.length_toList]
    congr 1
    funext m
    rw [Array.getElem?_toList]
  have hno : ¬ (((Builtin.Slice.sliceAdjust lo hi (-1) (items.size : Int)).1 == 0 && (-1 : Int) == 1 && (Builtin.Slice.slicePlaces (Builtin.Slice.sliceAdjust lo hi (-1) (items.size : Int)).1 (Builtin.Slice.sliceAdjust lo hi (-1) (items.size : Int)).2 (-1)) == items.size) = true) := by
    rw [show ((-1 : Int) == 1) = false from by decide, Bool.and_false, Bool.false_and]
    exact Bool.false_ne_true
  show wpAny _ _ (if ((Builtin.Slice.sliceAdjust lo hi (-1) (items.size : Int)).1 == 0 && (-1 : Int) == 1 && (Builtin.Slice.slicePlaces (Builtin.Slice.sliceAdjust lo hi (-1) (items.size : Int)).1 (Builtin.Slice.sliceAdjust lo hi (-1) (items.size : Int)).2 (-1)) == items.size) = true then _ else _) _ _ s
  rw [if_neg hno, e]
  first
    | exact wpAny_bind (m := Builtin.Tuple.tupleExact _) (wpAny_newObj_type (wpAny_pure ⟨_, rfl, wpAny_pure h⟩) htake)
    | exact wpAny_bind (m := Builtin.Tuple.tupleExact _) (wpAny_newObj_type (wpAny_bind (wpAny_pure (wpAny_pure ⟨_, rfl, wpAny_pure h⟩))) htake)
    | exact wpAny_bind (wpAny_bind (m := Builtin.Tuple.tupleExact _) (wpAny_newObj_type (wpAny_pure (wpAny_pure ⟨_, rfl, wpAny_pure h⟩)) htake))
    | exact wpAny_bind (wpAny_bind (m := Builtin.Tuple.tupleExact _) (wpAny_newObj_type (wpAny_pure ⟨_, rfl, wpAny_pure h⟩) htake))
end
/-- a text, turned about -/
def revS (z : Str) : Str := Txt.sliceBy z none none (-1, 0)
theorem revS_tok (z : Str) (u : Tok) : Txt.sliceBy z none none (-1, u) = revS z := rfl
def stepD (c : D) (lo hi : Option Int) (h : AH) : Res D :=
  match c with
  | .tup xs => if (stepL xs lo hi).length ≤ sizeLine then .ok (.tup (stepL xs lo hi)) h else .stuck
  | .str z => if lo = none ∧ hi = none ∧ z.length ≤ sizeLine then .ok (.str (revS z)) h else .stuck
  | _ => .stuck
def cStep (F : EF) (lo hi : Option Int) : EF := fun ε h => (F ε h).bind fun c h1 => stepD c lo hi h1
def tStepX (K : PySem.W.Frag) (lo hi : Option Int) (te : TE) : TE := fun σ H Q => te σ H fun x H1 => (∃ a xs, x = .ref a ∧ SqT K H1 a xs ∧ (stepL xs lo hi).length ≤ sizeLine ∧ ∀ p, H1 p = none → Q (.ref p) (upd H1 p (.tup (stepL xs lo hi)))) ∨ (∃ z, x = .str z ∧ lo = none ∧ hi = none ∧ z.length ≤ sizeLine ∧ Q (.str (revS z)) H1)
section
variable {X : Cx} {W : WX} {cls ts : List Addr} {e : Expr} {te : TE} {F : EF} {k : Nat} {p1 p2 p3 pos : Pos} {elo ehi : Option Expr} {lo hi : Option Int}
theorem pe_stepX (he : PE X e te) (hlo : ∀ (pins : List (Addr × Obj)) (s : Shared) (σ : L2.St) (H : Hp), Inv X pins σ H s → wpAny (model X.prog X.w) X.A (evalPart elo X.env) (fun u s' => Inv X pins σ H s' ∧ IsPart u lo) X.xe s)
    (hhi : ∀ (pins : List (Addr × Obj)) (s : Shared) (σ : L2.St) (H : Hp), Inv X pins σ H s → wpAny (model X.prog X.w) X.A (evalPart ehi X.env) (fun u s' => Inv X pins σ H s' ∧ IsPart u hi) X.xe s) :
    PE X (.Subscript e (.Slice elo ehi (some (.UnaryOp .USub (.Constant (.int 1) k p1) p2)) p3) pos) (tStepX X.K lo hi te) := by
  refine ⟨fun pins s σ H Q I h => ?_⟩
  refine Subscript_ (thn (he.run pins s σ H _ I h) fun v s1 ⟨x, H1, I1, r1, q1⟩ => ?_)
  have hst : PO X (some (.UnaryOp .USub (.Constant (.int 1) k p1) p2)) (tPart (tUn (rU fun i => .int (-i)) (tC (.int 1)))) := po_some (pe_un un_neg pe_int)
  refine wpAny_Slice (thn (hlo pins s1 σ H1 I1) fun vl s2 ⟨I2, pl⟩ => ?_)
  refine thn (hhi pins s2 σ H1 I2) fun vu s3 ⟨I3, pu⟩ => ?_
  refine thn (hst.run pins s3 σ H1 (fun o H4 => o = some (-1) ∧ H4 = H1) I3 ⟨1, rfl, -1, rfl, rfl, rfl⟩) fun vs s4 ⟨o, H4, I4, ps, eo, e4⟩ => ?_
  subst eo e4
  have I5 : Inv X pins σ H4 { s4 with heap := s4.heap.push { cls := .type "slice", data := .fields #[vl, vu, vs] } } := I4.kept (t' := s4.toks) fun b ob q => Heap.get?_push_of_some _ q
  rcases q1 with ⟨a, xs, ex, hx, hz, q⟩ | ⟨z, ex, e0, e1, hz, q⟩
  · subst ex
    cases r1
    obtain ⟨its, r, ht, _⟩ := I5.tuple hx
    have rs := step_vals r lo hi
    show wpAny (model X.prog X.w) X.A (subscriptTail e (.Slice elo ehi (some (.UnaryOp .USub (.Constant (.int 1) k p1) p2)) p3) (.ref a) (.ref s4.heap.objs.size)) (EP X pins σ Q) X.xe { s4 with heap := s4.heap.push { cls := .type "slice", data := .fields #[vl, vu, vs] } }
    refine tail_any (ops := [.ref a, .ref s4.heap.objs.size]) ht.typeIs (PyProof.Rows.slot_tuple_getitem.lookup) ?_ (by with_unfolding_all rfl)
    refine getItem_tuple_step ht (Heap.IsSliceOf.new _ vl vu vs) pl pu ps ?_ (by rw [← rs.length]; exact hz)
    refine ⟨.ref _, _, I5.laid (t' := s4.toks) (o := .tup (stepL xs lo hi)) (fun b ob q => Heap.get?_push_of_some _ q) (Nat.le_refl _) ?_, rfl, q _ (I5.hok.fresh (Nat.le_refl _))⟩
    exact ⟨hz, _, rs, ⟨_, Heap.get?_push_size _ rfl, rfl, _, rfl⟩⟩
  · subst ex
    obtain ⟨t, rfl⟩ := r1
    subst e0 e1
    cases pl
    cases pu
    obtain ⟨u, eu⟩ : ∃ u, vs = .int (-1) u := by
      cases ps with
      | int i t => exact ⟨t, rfl⟩
    subst eu
    show wpAny (model X.prog X.w) X.A (subscriptTail e (.Slice elo ehi (some (.UnaryOp .USub (.Constant (.int 1) k p1) p2)) p3) (.str z t) (.ref s4.heap.objs.size)) (EP X pins σ Q) X.xe { s4 with heap := s4.heap.push { cls := .type "slice", data := .fields #[.none, .none, .int (-1) u] } }
    refine tail_any (ops := [.str z t, .ref s4.heap.objs.size]) (typeIs_str _ _ _) (F.slot_str_getitem.lookup) ?_ (by with_unfolding_all rfl)
    refine wpAny_getItem_str_slice (l := none) (u := none) (st := some (-1, u)) ⟨_, Heap.get?_push_size _ rfl, rfl, rfl⟩ (by show ((-1 : Int) == 0) = false; decide) (post_val_or_str ⟨Nat.le_trans (Txt.sliceBy_le z none none (-1, u) (by show (-1 : Int) ≠ 0; decide)) hz, fun t' c => ?_⟩)
    exact ⟨.str (revS z), _, I5.tok c, ⟨t', rfl⟩, q⟩
theorem part_none (pins : List (Addr × Obj)) (s : Shared) (σ : L2.St) (H : Hp) (I : Inv X pins σ H s) : wpAny (model X.prog X.w) X.A (evalPart none X.env) (fun u s' => Inv X pins σ H s' ∧ IsPart u none) X.xe s := by
  refine thn (po_none.run pins s σ H (fun o H' => o = none ∧ H' = H) I ⟨rfl, rfl⟩) fun u s' ⟨o, H', I', p, eo, eH⟩ => ?_
  subst eo eH
  exact ⟨I', p⟩
theorem part_int {i : Int} {j : Nat} {q : Pos} (pins : List (Addr × Obj)) (s : Shared) (σ : L2.St) (H : Hp) (I : Inv X pins σ H s) : wpAny (model X.prog X.w) X.A (evalPart (some (.Constant (.int i) j q)) X.env) (fun u s' => Inv X pins σ H s' ∧ IsPart u (some i)) X.xe s := by
  refine thn ((po_some (X := X) pe_int).run pins s σ H (fun o H' => o = some i ∧ H' = H) I ⟨i, rfl, rfl, rfl⟩) fun u s' ⟨o, H', I', p, eo, eH⟩ => ?_
  subst eo eH
  exact ⟨I', p⟩
theorem step_ok {K : PySem.W.Frag} {W2 : Value → Option Addr → Hp → Prop} {ρ : List Addr} {H : Hp} {h : AH} {x : V} {d : D} {Q : VK} (r : RH K cls ts ρ H h) (rx : RV K ρ H x d) (p : Post K cls ts (relD K) W2 ρ H (stepD d lo hi h) Q) :
    (∃ a xs, x = .ref a ∧ SqT K H a xs ∧ (stepL xs lo hi).length ≤ sizeLine ∧ ∀ p, H p = none → Q (.ref p) (upd H p (.tup (stepL xs lo hi)))) ∨ (∃ z, x = .str z ∧ lo = none ∧ hi = none ∧ z.length ≤ sizeLine ∧ Q (.str (revS z)) H) := by
  cases rx <;> first | exact p.elim | skip
  · simp only [stepD] at p
    split at p <;> first | exact p.elim | skip
    rename_i c
    exact .inr ⟨_, rfl, c.1, c.2.1, c.2.2, post_val r (.str _) p⟩
  · rename_i h1 r1
    simp only [stepD] at p
    split at p <;> first | exact p.elim | skip
    rename_i c
    have rs := step_rvs r1 lo hi
    exact .inl ⟨_, _, rfl, h1, by rw [rs.length]; exact c, post_newT r rs p⟩
theorem e_stepN (he : E' X cls ts W e F) : E' X cls ts W (.Subscript e (.Slice none none (some (.UnaryOp .USub (.Constant (.int 1) k p1) p2)) p3) pos) (cStep F none none) :=
  ⟨fun pins s σ H Q I ⟨ρ, ε, h, hH, hE, p⟩ => (pe_stepX he part_none part_none).run pins s σ H Q I (tG_bind hH hE p fun ρ1 H1 x h1 dx _ e1 hH1 rx hE1 p1 => step_ok hH1 rx p1)⟩
theorem e_stepH {i : Int} {j : Nat} {q : Pos} (he : E' X cls ts W e F) : E' X cls ts W (.Subscript e (.Slice none (some (.Constant (.int i) j q)) (some (.UnaryOp .USub (.Constant (.int 1) k p1) p2)) p3) pos) (cStep F none (some i)) :=
  ⟨fun pins s σ H Q I ⟨ρ, ε, h, hH, hE, p⟩ => (pe_stepX he part_none part_int).run pins s σ H Q I (tG_bind hH hE p fun ρ1 H1 x h1 dx _ e1 hH1 rx hE1 p1 => step_ok hH1 rx p1)⟩
end
/-! ### int, str, upper -/
def fInt : OpN
  | [.bl k], h => .ok (.int (if k then 1 else 0)) h
  | _, _ => .stuck
def fStrI : OpN
  | [.int i], h => if i.natAbs.log2 < 1920 then .ok (.str (toString i)) h else .stuck
  | _, _ => .stuck
def mUpper : OpM
  | .str a, [], h => if a.length ≤ 5592405 then .ok (.str (Txt.upper a)) h else .stuck
  | _, _, _ => .stuck
section
variable {K : PySem.W.Frag} {cls ts : List Addr}
theorem int_ok : CallS K cls ts (fun xs H Q => (∃ i, xs = [.int i] ∧ Q (.int i) H) ∨ ∃ k, xs = [.bl k] ∧ Q (.int (if k then 1 else 0)) H) fInt := by
  intro W ρ H h xs ds Q r rs p
  unfold fInt at p
  split at p <;> first | exact p.elim | skip
  obtain ⟨v, rfl, rv⟩ := rs.one
  cases rv
  exact .inr ⟨_, rfl, post_val r (.int _) p⟩
theorem strI_ok : CallS K cls ts (fun xs H Q => ∃ i, xs = [.int i] ∧ i.natAbs.log2 < 1920 ∧ Q (.str (toString i)) H) fStrI := by
  intro W ρ H h xs ds Q r rs p
  unfold fStrI at p
  split at p <;> first | exact p.elim | skip
  split at p <;> first | exact p.elim | skip
  rename_i c
  obtain ⟨v, rfl, rv⟩ := rs.one
  cases rv
  exact ⟨_, rfl, c, post_val r (.str _) p⟩
theorem upper_ok : MtS K cls ts "str" (fun x xs H Q => ∃ a, x = .str a ∧ xs = [] ∧ a.length ≤ 5592405 ∧ Q (.str (Txt.upper a)) H) mUpper := by
  intro W ρ H h x dx xs ds Q r rx rs p
  unfold mUpper at p
  split at p <;> first | exact p.elim | skip
  split at p <;> first | exact p.elim | skip
  rename_i c
  cases rx
  cases rs
  exact ⟨_, rfl, rfl, c, post_val r (.str _) p⟩
end
end Mi

namespace Mi
open L2 PySem PySem.Spec PyProof.Rows

/-! ### a statement that is never come to -/
def sStuck : SF := fun _ _ => .stuck
theorem s_stuck {X : Cx} {W : WX} {cls ts : List Addr} {st : Stmt} : S' X cls ts W st sStuck :=
  ⟨fun _ _ _ _ _ _ ⟨_, _, _, _, _, p⟩ => p.elim⟩
/-! ### methods of texts -/
def mStarts : OpM
  | .str a, [.str b], h => .ok (.bl (Txt.startswith a b)) h
  | _, _, _ => .stuck
def mIsascii : OpM
  | .str a, [], h => .ok (.bl (Txt.isascii a)) h
  | _, _, _ => .stuck
def mIsdigit : OpM
  | .str a, [], h => .ok (.bl (Txt.isdigit a)) h
  | _, _, _ => .stuck
def mRemovepre : OpM
  | .str a, [.str b], h => if a.length ≤ sizeLine then .ok (.str (Txt.removeprefix a b)) h else .stuck
  | _, _, _ => .stuck
def mPart : OpM
  | .str a, [.str b], h => if (b.length == 0) = false ∧ a.length ≤ sizeLine then .ok (.tup [.str (Txt.partition a b).1, .str (Txt.partition a b).2.1, .str (Txt.partition a b).2.2]) h else .stuck
  | _, _, _ => .stuck
def mFind3 : OpM
  | .str a, [.str b, .int i], h => .ok (.int (Txt.find3 a b i)) h
  | _, _, _ => .stuck
section
variable {K : PySem.W.Frag} {cls ts : List Addr}
theorem starts_ok : MtS K cls ts "str" (fun x xs H Q => ∃ a b, x = .str a ∧ xs = [.str b] ∧ Q (.bl (Txt.startswith a b)) H) mStarts := by
  intro W ρ H h x dx xs ds Q r rx rs p
  unfold mStarts at p
  split at p <;> first | exact p.elim | skip
  obtain ⟨v, rfl, rv⟩ := rs.one
  cases rx
  cases rv
  exact ⟨_, _, rfl, rfl, post_val r (.bl _) p⟩
theorem isascii_ok : MtS K cls ts "str" (fun x xs H Q => ∃ a, x = .str a ∧ xs = [] ∧ True ∧ Q (.bl (Txt.isascii a)) H) mIsascii := by
  intro W ρ H h x dx xs ds Q r rx rs p
  unfold mIsascii at p
  split at p <;> first | exact p.elim | skip
  cases rx
  cases rs
  exact ⟨_, rfl, rfl, trivial, post_val r (.bl _) p⟩
theorem isdigit_ok : MtS K cls ts "str" (fun x xs H Q => ∃ a, x = .str a ∧ xs = [] ∧ True ∧ Q (.bl (Txt.isdigit a)) H) mIsdigit := by
  intro W ρ H h x dx xs ds Q r rx rs p
  unfold mIsdigit at p
  split at p <;> first | exact p.elim | skip
  cases rx
  cases rs
  exact ⟨_, rfl, rfl, trivial, post_val r (.bl _) p⟩
theorem removepre_ok : MtS K cls ts "str" (fun x xs H Q => ∃ a b, x = .str a ∧ xs = [.str b] ∧ a.length ≤ sizeLine ∧ Q (.str (Txt.removeprefix a b)) H) mRemovepre := by
  intro W ρ H h x dx xs ds Q r rx rs p
  unfold mRemovepre at p
  split at p <;> first | exact p.elim | skip
  split at p <;> first | exact p.elim | skip
  rename_i c
  obtain ⟨v, rfl, rv⟩ := rs.one
  cases rx
  cases rv
  exact ⟨_, _, rfl, rfl, c, post_val r (.str _) p⟩
theorem find3_ok : MtS K cls ts "str" (fun x xs H Q => ∃ (a b : Str) (i : Int), x = .str a ∧ xs = [.str b, .int i] ∧ Q (.int (Txt.find3 a b i)) H) mFind3 := by
  intro W ρ H h x dx xs ds Q r rx rs p
  unfold mFind3 at p
  split at p <;> first | exact p.elim | skip
  cases rs with
  | cons r1 rr =>
    cases rr with
    | cons r2 r0 =>
      cases r0
      cases rx
      cases r1
      cases r2
      exact ⟨_, _, _, rfl, rfl, post_val r (.int _) p⟩
end
section
variable {K : PySem.W.Frag} {cls ts : List Addr}
theorem part_ok : MtS K cls ts "str" (fun x xs H Q => ∃ a b, x = .str a ∧ xs = [.str b] ∧ (b.length == 0) = false ∧ a.length ≤ sizeLine ∧ ∀ p, H p = none → Q (.ref p) (upd H p (.tup [.str (Txt.partition a b).1, .str (Txt.partition a b).2.1, .str (Txt.partition a b).2.2]))) mPart := by
  intro W ρ H h x dx xs ds Q r rx rs p
  unfold mPart at p
  split at p <;> first | exact p.elim | skip
  split at p <;> first | exact p.elim | skip
  rename_i c
  obtain ⟨v, rfl, rv⟩ := rs.one
  cases rx
  cases rv
  exact ⟨_, _, rfl, rfl, c.1, c.2, post_newT r (.cons (.str _) (.cons (.str _) (.cons (.str _) .nil))) p⟩
end
/-! ### int of a text -/
def fIntS : OpN
  | [.bl k], h => .ok (.int (if k then 1 else 0)) h
  | [.int i], h => .ok (.int i) h
  | [.str a], h => if a.length ≤ 640 then match PySem.intText? a with
      | some n => .ok (.int n) h
      | none => .stuck
    else .stuck
  | _, _ => .stuck
def rIntS : List V → Hp → VK → Prop := fun xs H Q => ((∃ i, xs = [.int i] ∧ Q (.int i) H) ∨ ∃ k, xs = [.bl k] ∧ Q (.int (if k then 1 else 0)) H) ∨ ∃ a n, xs = [.str a] ∧ PySem.intText? a = some n ∧ a.length ≤ 640 ∧ Q (.int n) H
theorem call_intS {X : Cx} : CallR X (.type "int") rIntS := by
  intro pins s σ H xs us Q I r h
  rcases h with h | h
  · exact call_int1 pins s σ H xs us Q I r h
  · exact call_int_str pins s σ H xs us Q I r h
theorem intS_ok {K : PySem.W.Frag} {cls ts : List Addr} : CallS K cls ts rIntS fIntS := by
  intro W ρ H h xs ds Q r rs p
  unfold fIntS at p
  split at p <;> first | exact p.elim | skip
  · obtain ⟨v, rfl, rv⟩ := rs.one
    cases rv
    exact .inl (.inr ⟨_, rfl, post_val r (.int _) p⟩)
  · obtain ⟨v, rfl, rv⟩ := rs.one
    cases rv
    exact .inl (.inl ⟨_, rfl, post_val r (.int _) p⟩)
  · split at p <;> first | exact p.elim | skip
    rename_i c
    split at p <;> first | exact p.elim | skip
    rename_i n e
    obtain ⟨v, rfl, rv⟩ := rs.one
    cases rv
    exact .inr ⟨_, _, rfl, e, c, post_val r (.int _) p⟩
/-! ### f'a{e}b' -/
def cFq (a : Str) (F : EF) (b : Str) : EF := fun ε h => (F ε h).bind fun d h1 => match d with
  | .str y => if y.length ≤ sizeLine ∧ (Str.empty ++ a ++ y).length ≤ sizeLine ∧ (Str.empty ++ a ++ y ++ b).length ≤ sizeLine then .ok (.str (Str.empty ++ a ++ y ++ b)) h1 else .stuck
  | _ => .stuck
section
variable {X : Cx} {W : WX} {cls ts : List Addr} {e : Expr} {F : EF} {pos p1 p2 p3 : Pos}
theorem e_fq {a b : Str} {j k} (he : E' X cls ts W e F) (la : (Str.empty ++ a).length ≤ sizeLine := by decide +kernel) : E' X cls ts W (.JoinedStr [.Constant (.str a) j p1, .FormattedValue e (-1) none p2, .Constant (.str b) k p3] pos) (cFq a F b) := by
  refine ⟨fun pins s σ H Q I ⟨ρ, ε, h, hH, hE, p⟩ => (pe_joined (.cons pe_str (.cons (pe_fmt he) (.cons pe_str .nil)))).run pins s σ H Q I ?_⟩
  have key : tE X.K cls ts W F σ H fun x H1 => ∃ y : Str, x = .str y ∧ y.length ≤ sizeLine ∧ (Str.empty ++ a ++ y).length ≤ sizeLine ∧ (Str.empty ++ a ++ y ++ b).length ≤ sizeLine ∧ Q (.str (Str.empty ++ a ++ y ++ b)) H1 := by
    refine tG_bind hH hE p fun ρ1 H1 x h1 dx _ e1 hH1 rx hE1 q => ?_
    split at q <;> first | exact q.elim | skip
    split at q <;> first | exact q.elim | skip
    rename_i c
    cases rx
    exact ⟨_, rfl, c.1, c.2.1, c.2.2, post_val hH1 (.str _) q⟩
  refine ⟨a, rfl, la, tG_imp key fun x H1 ⟨y, ex, ly, l1, l2, q⟩ => .inl ⟨y, ex, ly, y, rfl, l1, b, rfl, l2, q⟩⟩
end
/-! ### a dict of the top with keys that are texts -/
structure KTab (K : PySem.W.Frag) (w : World) (a : Addr) (tab : List (Str × D)) : Prop where
  ex : ∃ es n, KDict K w a es n ∧ Paired (fun (e : DictEntry) (p : Str × D) => (∃ t, e.key = .str p.1 t) ∧ ∃ v, (∀ ρ H, RV K ρ H v p.2) ∧ RelV v e.val) es.toList tab
def tabAt (tab : List (Str × D)) (z : Str) : Option D := (tab.find? fun p => p.1 == z).map (·.2)
theorem tab_find {K : PySem.W.Frag} {z : Str} : ∀ {es : List DictEntry} {tab : List (Str × D)}, Paired (fun (e : DictEntry) (p : Str × D) => (∃ t, e.key = .str p.1 t) ∧ ∃ v, (∀ ρ H, RV K ρ H v p.2) ∧ RelV v e.val) es tab →
    (tabAt tab z = none ∧ es.find? (·.key.isStr z) = none) ∨ ∃ d e v, tabAt tab z = some d ∧ es.find? (·.key.isStr z) = some e ∧ (∀ ρ H, RV K ρ H v d) ∧ RelV v e.val
  | [], _, .nil => .inl ⟨rfl, rfl⟩
  | e :: es, p :: tab, .cons ⟨⟨t, hk⟩, v, hv, rv⟩ r => by
    have q : e.key.isStr z = (p.1 == z) := by rw [hk] <;> rfl
    cases c : (p.1 == z) with
    | true =>
      refine .inr ⟨p.2, e, v, ?_, ?_, hv, rv⟩
      · simp only [tabAt, List.find?_cons, c, Option.map_some]
      · simp only [List.find?_cons, q, c]
    | false =>
      have s1 : tabAt (p :: tab) z = tabAt tab z := by simp only [tabAt, List.find?_cons, c]
      have s2 : (e :: es).find? (·.key.isStr z) = es.find? (·.key.isStr z) := by simp only [List.find?_cons, q, c]
      rw [s1, s2]
      exact tab_find r
theorem tab_noref {K : PySem.W.Frag} : ∀ {es : List DictEntry} {tab : List (Str × D)}, Paired (fun (e : DictEntry) (p : Str × D) => (∃ t, e.key = .str p.1 t) ∧ ∃ v, (∀ ρ H, RV K ρ H v p.2) ∧ RelV v e.val) es tab → es.any (·.refKey) = false
  | [], _, .nil => rfl
  | e :: es, p :: tab, .cons ⟨⟨t, hk⟩, v, hv, rv⟩ r => by
    rw [List.any_cons, tab_noref r]
    unfold DictEntry.refKey
    rw [hk]
    rfl
theorem KTab.at {K : PySem.W.Frag} {w : World} {a : Addr} {tab : List (Str × D)} {es : Array DictEntry} {n : Nat} (kd : KDict K w a es n) (P : Paired (fun (e : DictEntry) (p : Str × D) => (∃ t, e.key = .str p.1 t) ∧ ∃ v, (∀ ρ H, RV K ρ H v p.2) ∧ RelV v e.val) es.toList tab) (z : Str) :
    (tabAt tab z = none ∧ PySem.W.nsIn K a z = some none) ∨ ∃ d u v, tabAt tab z = some d ∧ PySem.W.nsIn K a z = some (some u) ∧ (∀ ρ H, RV K ρ H v d) ∧ RelV v u := by
  unfold PySem.W.nsIn
  simp only [kd.at_]
  rcases tab_find (z := z) P with ⟨h1, h2⟩ | ⟨d, e, v, h1, h2, hv, rv⟩
  · refine .inl ⟨h1, ?_⟩
    rw [h2]
    simp only [tab_noref P, Bool.false_eq_true, if_false]
  · refine .inr ⟨d, e.val, v, h1, ?_, hv, rv⟩
    rw [h2]
def opInTab (a : Addr) (tab : List (Str × D)) : Op2
  | .str z, .own c, h => if c = a then .ok (.bl (tabAt tab z).isSome) h else .stuck
  | _, _, _ => .stuck
def opIxTab (a : Addr) (tab : List (Str × D)) : Op2
  | .own c, .str z, h => if c = a then match tabAt tab z with
      | some d => .ok d h
      | none => .stuck
    else .stuck
  | _, _, _ => .stuck
def rInTab (a : Addr) (tab : List (Str × D)) : R2 := fun x y H Q => ∃ z, x = .str z ∧ y = .ref a ∧ Q (.bl (tabAt tab z).isSome) H
def rIxTab (K : PySem.W.Frag) (a : Addr) (tab : List (Str × D)) : R2 := fun x y H Q => ∃ z d, x = .ref a ∧ y = .str z ∧ tabAt tab z = some d ∧ ∀ v, (∀ ρ H, RV K ρ H v d) → Q v H
section
variable {X : Cx} {W : WX} {cls ts : List Addr} {a : Addr} {tab : List (Str × D)} {e1 e2 : Expr} {F G : EF} {pos : Pos}
theorem op_inTab (T : KTab X.K X.w a tab) : OpR X (compareOp .In) (rInTab a tab) := by
  obtain ⟨es, n, D, P⟩ := T.ex
  rintro pins s σ H x y v u Q I rx ry ⟨z, rfl, rfl, q⟩
  rcases KTab.at D P z with ⟨h1, h2⟩ | ⟨d, u0, v0, h1, h2, _, _⟩
  · rw [h1] at q
    exact op_in_kd D pins s σ H _ _ v u Q I rx ry ⟨z, _, rfl, rfl, h2, q⟩
  · rw [h1] at q
    exact op_in_kd D pins s σ H _ _ v u Q I rx ry ⟨z, _, rfl, rfl, h2, q⟩
theorem opInTab_ok {K : PySem.W.Frag} : OpS K cls ts (rInTab a tab) (opInTab a tab) := by
  intro W ρ H h x y dx dy Q r rx ry p
  unfold opInTab at p
  split at p <;> first | exact p.elim | skip
  split at p <;> first | exact p.elim | skip
  rename_i c
  subst c
  cases rx
  cases ry
  exact ⟨_, rfl, rfl, post_val r (.bl _) p⟩
theorem ix_tab (T : KTab X.K X.w a tab) : IxR X (rIxTab X.K a tab) := by
  obtain ⟨es, n, D, P⟩ := T.ex
  rintro value slice pins s σ H x y v u Q I rx ry ⟨z, d, rfl, rfl, h, q⟩ hs
  rcases KTab.at D P z with ⟨h1, h2⟩ | ⟨d, u0, v0, h1, h2, hv, rv⟩
  · rw [h] at h1
    cases h1
  · rw [h] at h1
    cases h1
    exact ix_kdict value slice pins s σ H _ _ v u Q I rx ry ⟨a, z, v0, rfl, rfl, ⟨es, n, u0, D.at_, D.lit, h2, rv⟩, q v0 hv⟩ hs
theorem opIxTab_ok {K : PySem.W.Frag} : OpS K cls ts (rIxTab K a tab) (opIxTab a tab) := by
  intro W ρ H h x y dx dy Q r rx ry p
  unfold opIxTab at p
  split at p <;> first | exact p.elim | skip
  split at p <;> first | exact p.elim | skip
  rename_i c
  subst c
  split at p <;> first | exact p.elim | skip
  rename_i d e
  cases rx
  cases ry
  exact ⟨_, d, rfl, rfl, e, fun v hv => post_val r (hv ρ H) p⟩
theorem e_inTab (T : KTab X.K X.w a tab) (ha : E' X cls ts W e1 F) (hb : E' X cls ts W e2 G) (hm : behindInMarks .In e2 = false) : E' X cls ts W (.Compare e1 [.In] [e2] pos) (cBin (opInTab a tab) F G) := e_cmp (op_inTab T) opInTab_ok ha hb hm
theorem t_inTab (T : KTab X.K X.w a tab) (ha : E' X cls ts W e1 F) (hb : E' X cls ts W e2 G) (hm : behindInMarks .In e2 = false) : T' X cls ts W (.Compare e1 [.In] [e2] pos) (tVal (cBin (opInTab a tab) F G)) := t_cmp (op_inTab T) opInTab_ok ha hb hm
theorem e_ixTab (T : KTab X.K X.w a tab) (ha : E' X cls ts W e1 F) (hb : E' X cls ts W e2 G) (hs : PlainIx e2 := by exact fun _ _ => rfl) : E' X cls ts W (.Subscript e1 e2 pos) (cBin (opIxTab a tab) F G) :=
  ⟨fun pins s σ H Q I ⟨ρ, ε, h, hH, hE, p⟩ => (pe_ix (ix_tab T) ha hb hs).run pins s σ H Q I (tG_bind hH hE p fun ρ1 H1 x h1 dx _ e1 hH1 rx hE1 p1 =>
    tG_bind hH1 hE1 p1 fun ρ2 H2 y h2 dy _ e2 hH2 ry hE2 p2 => opIxTab_ok _ _ _ _ _ _ _ _ _ hH2 (rx.mono e2) ry p2)⟩
end
/-! ### {'k': e, 'l': f}[x] -/
def cD2 (k l : Str) (F G : EF) : EF := fun ε h => (F ε (h ++ [.dic []])).bind fun d h2 => (G ε h2).bind fun d' h3 => match h3[h.length]? with
  | some (.dic []) => .ok (.ref h.length) (h3.set h.length (.dic [(.inr k, d), (.inr l, d')]))
  | _ => .stuck
def valD (kvs : List (Key × D)) (k : Key) : Option D := (kvs.find? fun p => p.1 = k).map (·.2)
def opIxD : Op2
  | .ref n, .str z, h => match h[n]? with
    | some (.dic kvs) => match valD kvs (.inr z) with
      | some d => .ok d h
      | none => .stuck
    | _ => .stuck
  | _, _, _ => .stuck
section
variable {X : Cx} {W : WX} {cls ts : List Addr} {e1 e2 : Expr} {F G : EF} {pos : Pos}
theorem rks_at {K : PySem.W.Frag} {ρ : List Addr} {H : Hp} {k : Key} {d : D} : ∀ {xs : List (Key × V)} {kvs : List (Key × D)}, RKs K ρ H xs kvs → valD kvs k = some d → ∃ v, valV xs k = some v ∧ RV K ρ H v d
  | [], [], .nil, h => by cases h
  | x :: xs, p :: kvs, .cons ⟨h1, h2⟩ r, h => by
    by_cases c : p.1 = k
    · simp only [valD, List.find?_cons, c, decide_true, Option.map_some] at h
      cases h
      exact ⟨x.2, valV_pos (h1.trans c), h2⟩
    · have h : valD kvs k = some d := by simpa only [valD, List.find?_cons, decide_eq_false c] using h
      rw [valV_neg (fun z => c (h1.symm.trans z))]
      exact rks_at r h
theorem e_ixD (hu : X.A.units + 1 < cLine) (ha : E' X cls ts W e1 F) (hb : E' X cls ts W e2 G) (hs : NoSl e2 := by exact fun _ _ => rfl) : E' X cls ts W (.Subscript e1 e2 pos) (cBin opIxD F G) := by
  refine ⟨fun pins s σ H Q I ⟨ρ, ε, h, hH, hE, p⟩ => (pe_dget hu ha hb hs).run pins s σ H Q I (tG_bind hH hE p fun ρ1 H1 x h1 dx _ e1 hH1 rx hE1 p1 => tG_bind hH1 hE1 p1 fun ρ2 H2 y h2 dy _ e2 hH2 ry hE2 p2 => ?_)⟩
  unfold opIxD at p2
  split at p2 <;> first | exact p2.elim | skip
  split at p2 <;> first | exact p2.elim | skip
  rename_i kvs ed
  split at p2 <;> first | exact p2.elim | skip
  rename_i d ev
  have rx2 := rx.mono e2
  cases ry
  cases rx2 with
  | ref q1 =>
    obtain ⟨us, k1, r1⟩ := hH2.dic q1 ed
    obtain ⟨v, hv, rv⟩ := rks_at r1 ev
    exact ⟨_, v, rfl, .inl ⟨us, .inr _, .inl k1, rfl, hv.symm⟩, post_val hH2 rv p2⟩
theorem e_d2 {k l : Str} {j j2 : Nat} {kp kp2 : Pos} (he : E' X cls ts W e1 F) (hf : E' X cls ts W e2 G) (hkl : k ≠ l := by decide) : E' X cls ts W (.Dict [some (.Constant (.str k) j kp), some (.Constant (.str l) j2 kp2)] [e1, e2] pos) (cD2 k l F G) := by
  refine ⟨fun pins s σ H Q I ⟨ρ, ε, h, hH, hE, q⟩ => (pe_disp (pps_cons pe_str he (pps_cons pe_str hf pps_nil)) rfl rfl (List.cons_ne_nil _ _) (Nat.le_of_ble_eq_true rfl)).run pins s σ H Q I fun p hp => ?_⟩
  have e1 := ext_new (ts := ts) (ρ := ρ) (u := .dK []) hp
  have hH1 : RH X.K cls ts (ρ ++ [p]) (upd H p (.dK [])) (h ++ [.dic []]) := hH.new hp ⟨[], upd_same, .nil⟩
  refine tG_bind hH1 (hE.mono e1) (q.ext e1) fun ρ2 H2 y h2 d _ e2 hH2 ry hE2 q2 => ?_
  refine tG_bind hH2 hE2 q2 fun ρ3 H3 y3 h3 d3 _ e3 hH3 ry3 hE3 q3 => ?_
  split at q3 <;> first | exact q3.elim | skip
  rename_i ed
  have gp : ρ3[h.length]? = some p := e3.get (e2.get (by rw [← hH.len]; exact get_new))
  obtain ⟨us, k1, r1⟩ := hH3.dic gp ed
  cases r1
  have eP := ext_put (u := .dK [(.inr k, y), (.inr l, y3)]) (List.mem_of_getElem? gp) hH3
  refine ⟨k1, [(.inr k, y), (.inr l, y3)], rfl, Nat.le_of_ble_eq_true rfl, ?_⟩
  have em : L2.mergeK [] [(.inr k, y), (.inr l, y3)] = [(.inr k, y), (.inr l, y3)] := by
    have c : ¬ ((.inr k : Key) = .inr l) := fun e => hkl (Sum.inr.inj e)
    simp [L2.mergeK, putK, c]
  first
  | exact q3 _ _ _ eP (hH3.put gp ⟨_, upd_same, .cons ⟨rfl, (ry.mono e3).mono eP⟩ (.cons ⟨rfl, ry3.mono eP⟩ .nil)⟩) (.ref gp)
  | (rw [em]; exact q3 _ _ _ eP (hH3.put gp ⟨_, upd_same, .cons ⟨rfl, (ry.mono e3).mono eP⟩ (.cons ⟨rfl, ry3.mono eP⟩ .nil)⟩) (.ref gp))
end
end Mi

namespace Mi
open L2 PySem PySem.Spec PyProof.Rows PySem.W PySem.Calls
section
variable {prog : Program} {w : World} {A : Around} {E : Value → Shared → Prop} {s : Shared} {env : Env} {elts : List Expr} {k : Nat} {pos : Pos}
theorem star_items {l : Addr} {items : Array Value} {Q : List Value → Shared → Prop} (hl : IsTup s.heap l items) (hh : A.handled = none) (hn : 1 ≤ items.size) (hz : items.size ≤ 16384)
    (h : ∀ h' tk, (∀ b o, s.heap.get? b = some o → h'.get? b = some o) → wpAny (model prog w) A (newList (items.toList.drop 1)) (fun d s' => Q (items.toList.take 1 ++ [d]) s') E { s with heap := h', toks := tk }) : wpAny (model prog w) A (unpackItems (.ref l) 2 (some 1)) Q E s := by
  have hlt : l ≠ s.heap.objs.size := by obtain ⟨o, ho, _⟩ := hl; exact Nat.ne_of_lt (Heap.lt_size ho)
  have hll : l < s.heap.objs.size := by obtain ⟨o, ho, _⟩ := hl; exact Heap.lt_size ho
  unfold unpackItems
  refine wpAny_bind ?_
  unfold notIterableAtAll
  refine wpAny_bind (wpAny_specialOf hl.typeIs slot_tuple_iter.lookup ?_)
  refine wpAny_pure ?_
  simp only [Bool.false_eq_true, if_false]
  refine wpAny_bind (wpAny_holding (iter_tuple hl ?_))
  refine wpAny_bind (wpAny_holding (draw_tuple hlt 1 0 _ _ ⟨_, Heap.get?_push_size _ rfl, rfl, rfl⟩ (hl.push _) (by omega) fun h₁ hit₁ hs₁ => ?_))
  have hl₁ : IsTup h₁ l items := (hl.push _).extBut hs₁.extBut hlt
  have hit₁' := hit₁
  obtain ⟨oi, hoi, _⟩ := hit₁'
  have hl₁' := hl₁
  obtain ⟨ol, hol, _⟩ := hl₁'
  rw [List.drop_zero]
  have hfl : (items.toList.take 1).length = 1 := by rw [List.length_take, Array.length_toList]; omega
  rw [if_neg (show ¬ ((items.toList.take 1).length < 1) by rw [hfl]; omega)]
  refine wpAny_bind (wpAny_holding (kun_collect (s := { s with heap := h₁ }) (T := "tuple_iterator") (.inr (.inr (.inr rfl))) (Walks.tuple (A := A.in1) hh s.heap.objs.size l hlt items) (fun j u st => st.1.typeIs) (k := 1) (by omega) ⟨hit₁, hl₁⟩ (Heap.lt_size hoi) (Heap.lt_size hol) (fun h₂ tk hk => ?_) (by rw [sizeLine_eq]; omega)))
  have hrl : (items.toList.drop 1).length = items.size - 1 := by rw [List.length_drop, Array.length_toList]
  show wpAny _ _ (if (items.toList.drop 1).length < 2 - 1 - 1 then _ else _) _ _ _
  rw [if_neg (by omega)]
  show wpAny _ _ (newList ((items.toList.drop 1).take ((items.toList.drop 1).length - (2 - 1 - 1))) >>= fun d => pure (items.toList.take 1 ++ [d] ++ (items.toList.drop 1).drop ((items.toList.drop 1).length - (2 - 1 - 1)))) _ _ _
  have z1 : (items.toList.drop 1).take ((items.toList.drop 1).length - (2 - 1 - 1)) = items.toList.drop 1 := List.take_of_length_le (by omega)
  have z2 : (items.toList.drop 1).drop ((items.toList.drop 1).length - (2 - 1 - 1)) = [] := List.drop_eq_nil_of_le (by omega)
  rw [z1, z2]
  have he : ∀ b o, s.heap.get? b = some o → h₂.get? b = some o := fun b o e => hk b o (Nat.ne_of_lt (Heap.lt_size e)) (hs₁.extBut b o (Nat.ne_of_lt (Heap.lt_size e)) (Heap.get?_push_of_some _ e))
  refine wpAny_bind (wpAny_mono (h h₂ tk he) (fun d s' q => wpAny_pure ?_) fun _ _ z => z)
  rw [List.append_nil]
  exact q
end
/-! ### x, *r = a tuple -/
def sStar (i j : Nat) (F : EF) : SF := fun ε h => (F ε h).st ε fun d h1 => match d with
  | .tup (x :: ds) => if ds.length ≤ 16000 ∧ i < ε.length ∧ j < ε.length then .nx ((ε.set i (some x)).set j (some (.ref h1.length))) (h1 ++ [.lst ds]) else .stuck
  | _ => .stuck
section
variable {X : Cx} {W : WX} {cls ts : List Addr} {e : Expr} {F : EF} {pos pt q1 q2 q3 : Pos} {x y : Str} {i j : Nat} {k : Nat}
theorem s_star (hc : X.calm = true) (hN : X.N.Nodup) (hi : X.N[i]? = some x) (hj : X.N[j]? = some y) (hx : Loc X.env.scope x) (hy : Loc X.env.scope y) (he : E' X cls ts W e F)
    (hs : swapsWithSole [.Tuple [.Name x q1, .Starred (.Name y q2) q3] k pt] e pos.line X.env = pure false := by rfl) (hw : swappedStores [.Tuple [.Name x q1, .Starred (.Name y q2) q3] k pt] e X.env = pure none := by rfl)
    (hfx : X.fn x = true ∨ X.env.scope.names.lookup x = some .local := by first | exact .inl rfl | exact .inr rfl | assumption) (hfy : X.fn y = true ∨ X.env.scope.names.lookup y = some .local := by first | exact .inl rfl | exact .inr rfl | assumption) :
    S' X cls ts W (.Assign [.Tuple [.Name x q1, .Starred (.Name y q2) q3] k pt] e pos) (sStar i j F) := by
  refine ⟨fun pins s σ H E I ⟨ρ, ε, h, hH, hE, p⟩ => ?_⟩
  refine wpAny_Assign_stores (thn (he.run pins s σ H _ I (tS_bind hH hE p fun ρ1 H1 v h1 d _ e1 hH1 rv hE1 p1 => (⟨ρ1, h1, d, hH1, rv, hE1, p1⟩ : ∃ ρ1 h1 d, RH X.K cls ts ρ1 H1 h1 ∧ RV X.K ρ1 H1 v d ∧ RE X.K ρ1 H1 σ ε ∧ PostS X.K cls ts W ρ1 H1 (match d with
      | .tup (x :: ds) => if ds.length ≤ 16000 ∧ i < ε.length ∧ j < ε.length then .nx ((ε.set i (some x)).set j (some (.ref h1.length))) (h1 ++ [.lst ds]) else .stuck
      | _ => .stuck) E))) fun v s1 ⟨v0, H1, I1, r1, ρ1, h1, d, hH1, rv, hE1, p1⟩ => ?_) hs hw
  split at p1 <;> first | exact p1.elim | skip
  split at p1 <;> first | exact p1.elim | skip
  rename_i d0 ds c
  obtain ⟨c1, c2, c3⟩ := c
  cases rv with
  | tup hq rds =>
    rename_i a xs
    obtain rfl : v = Value.ref a := r1
    cases rds with
    | cons rx rxs =>
      rename_i vx vxs
      obtain ⟨its, rits, ht, hz⟩ := I1.tuple hq
      cases rits with
      | cons ru rus =>
        rename_i u us
        have e1 : (assignEach [Expr.Tuple [.Name x q1, .Starred (.Name y q2) q3] k pt] X.env).map (·.2) = [assign (Expr.Tuple [.Name x q1, .Starred (.Name y q2) q3] k pt) X.env] := rfl
        rw [e1]
        show wpAny _ _ (assign (Expr.Tuple [.Name x q1, .Starred (.Name y q2) q3] k pt) X.env (Value.ref a)) _ _ _
        rw [assign_Tuple]
        refine wpAny_bind (wpAny_standAt ?_)
        unfold unpack
        have e2 : (assignEach [Expr.Name x q1, .Starred (.Name y q2) q3] X.env).length = 2 := rfl
        have e3 : (assignEach [Expr.Name x q1, .Starred (.Name y q2) q3] X.env).findIdx? (·.1) = some 1 := rfl
        have e4 : (assignEach [Expr.Name x q1, .Starred (.Name y q2) q3] X.env).map (·.2) = [assign (Expr.Name x q1) X.env, assign (Expr.Name y q2) X.env] := rfl
        rw [e2, e3, e4]
        have l1 : us.length ≤ 16000 := by rw [← rus.length, rxs.length]; exact c1
        refine wpAny_bind (wpAny_holding (star_items ht (I1.ok.hd hc) (by simp) (by simp; omega) fun h' tk hk => ?_))
        have z : (u :: us).toArray.toList.drop 1 = us := rfl
        rw [z]
        have hn : H1 h'.objs.size = none := (I1.kept (t' := tk) hk).hok.fresh (Nat.le_refl _)
        refine wpAny_newList ?_ (by rw [sizeLine_eq]; omega)
        have I2 := (I1.kept (t' := tk) hk).laid (h' := h'.push { cls := .type "list", data := .seq us.toArray }) (a := h'.objs.size) (o := .lst vxs) (t' := tk) (fun b u e => Heap.get?_push_of_some _ e) (Nat.le_refl _) ⟨by rw [rus.length, sizeLine_eq]; omega, us, 0, rus, Heap.get?_push_size _ rfl⟩
        show wpAny _ _ (assignInOrder [assign (Expr.Name x q1) X.env, assign (Expr.Name y q2) X.env] [u, Value.ref h'.objs.size]) _ _ _
        have eN := ext_new (ts := ts) (ρ := ρ1) (u := .lst vxs) hn
        have hH2 : RH X.K cls ts (ρ1 ++ [h'.objs.size]) (upd H1 h'.objs.size (.lst vxs)) (h1 ++ [.lst ds]) := hH1.new hn ⟨vxs, upd_same, rxs.mono eN⟩
        have hE2 : RE X.K (ρ1 ++ [h'.objs.size]) (upd H1 h'.objs.size (.lst vxs)) ((σ.set i (some vx)).set j (some (.ref h'.objs.size))) ((ε.set i (some d0)).set j (some (.ref h1.length))) :=
          ((hE1.mono eN).set (rx.mono eN)).set (.ref (by rw [← hH1.len]; exact get_new))
        refine assignInOrder_cons (thn ((pg_name hN hi hx hfx).run pins _ σ _ vx u (fun σ' H' => σ' = σ.set i (some vx) ∧ H' = upd H1 h'.objs.size (.lst vxs)) I2 ru ⟨rfl, rfl⟩) fun _ s3 ⟨σ3, H3, I3, es, eH⟩ => ?_)
        subst es eH
        refine assignInOrder_cons (thn ((pg_name hN hj hy hfy).run pins s3 _ _ (.ref h'.objs.size) (.ref h'.objs.size) (fun σ' H' => σ' = (σ.set i (some vx)).set j (some (.ref h'.objs.size)) ∧ H' = upd H1 h'.objs.size (.lst vxs)) I3 rfl ⟨rfl, rfl⟩) fun _ s4 ⟨σ4, H4, I4, es, eH⟩ => ?_)
        subst es eH
        exact assignInOrder_nil ⟨_, _, I4, p1 _ _ _ eN hH2 hE2⟩
end
end Mi

namespace Mi
open L2 PySem PySem.Spec PyProof.Rows
theorem e_globS {X : Cx} {W : WX} {cls ts : List Addr} {x : Str} {pos : Pos} {i : Str} (hg : Gl X x) (hm : ∃ u, X.mg x = some u ∧ RelV (.str i) u) (hd : (x == ("__debug__" : Str)) = false := by decide) : E' X cls ts W (.Name x pos) (cC (.str i)) := by
  obtain ⟨u, hm, r⟩ := hm
  exact e_glob hg hm r (fun _ _ _ => .str i) hd
theorem hu1 {k : Nat} {A : Around} (r : Room k A) : A.units + 1 < cLine := by
  have := r.un
  omega
abbrev KPr (K : PySem.W.Frag) (es : List DictEntry) (tab : List (Str × D)) : Prop := Paired (fun (e : DictEntry) (p : Str × D) => (∃ t, e.key = .str p.1 t) ∧ ∃ v, (∀ ρ H, RV K ρ H v p.2) ∧ RelV v e.val) es tab
theorem held_of1 {P : Program} {w : World} {K : PySem.W.Frag} {mg : Str → Option Value} {base : Heap} {cls ts : List Addr} {j1 k : Nat} {x1 : Str} {st1 : Stmt} {ps1 : List Str} {c1 : FN} {a1 : Addr} (C1 : Ca P w K mg base cls ts j1 x1 st1 ps1 c1) (b1 : Bd x1 st1 ps1) (m1 : mg x1 = some (.ref a1))
    (h1 : j1 ≤ k) (f : Addr) (c : FN) (q : [(a1, c1)].lookup f = some c) : CaA P w K mg base cls ts k f c := by
  simp only [List.lookup] at q
  split at q
  · rename_i e
    cases q
    rw [eq_of_beq e]
    exact C1.at b1 m1 h1
  · cases q
end Mi

namespace K04
open Mi L2 PySem PySem.Spec PyProof.Rows
def tab_CLOSED : List (Str × D) := [((")" : Str), .str ("(" : Str)), (("]" : Str), .str ("[" : Str))]
def tab_WORDS : List (Str × D) := [(("none" : Str), .non), (("yes" : Str), .bl true), (("no" : Str), .bl false)]
structure FV where
  d_CLOSED : Addr
  d_WORDS : Addr
  a_is_single : Addr
def top (i : Nat) : Stmt := PySem.Challenge.pw_everso_k04_worths_there_and_back.main.body.getD i (.Pass ⟨0, 0, 0, 0⟩)
abbrev st_l_begun : Stmt := top 41
abbrev N_l_begun : List Str := [("_law_script" : Str), ("_law_cell" : Str), ("_law_cells" : Str), ("_law_total" : Str)]
abbrev ps_l_begun : List Str := [("_law_script" : Str)]
theorem sc_l_begun : FnScope N_l_begun ps_l_begun (defScope st_l_begun) := ⟨rfl, rfl, rfl, by decide +kernel, rfl, by decide +kernel, by decide +kernel⟩
theorem bd_l_begun : Bd ("_law_begun" : Str) st_l_begun ps_l_begun := fun _ _ _ _ _ _ us hl => match us, hl with | [_], _ => rfl
def b_l_begun : SF := (sSeq (sPar2 2 3 (cCall fList (aCons (cCut (cVar 0) oNone (oSome (cC (.int 63)))) aNil)) (cC (.int 50021)))
    (sSeq (sFor (iAny (cVar 2)) (gN 1) (sSet 3 (cBin opMod (cBin opAdd (cBin opAdd (cBin opMul (cVar 3) (cC (.int 48271))) (cBin opMod (cVar 1) (cC (.int 2147483563)))) (cC (.int 17))) (cC (.int 2147483629)))))
    (sRet (cLst (aCons (cRev (cVar 2)) (aCons (cVar 3) (aCons (cC (.int 0)) aNil)))))))
def f_l_begun : FN := runB ps_l_begun.length N_l_begun.length (b_l_begun)
abbrev st_l_alike_looks : Stmt := top 46
abbrev N_l_alike_looks : List Str := [("_law_some" : Str), ("_law_parts" : Str)]
abbrev ps_l_alike_looks : List Str := []
theorem sc_l_alike_looks : FnScope N_l_alike_looks ps_l_alike_looks (defScope st_l_alike_looks) := ⟨rfl, rfl, rfl, by decide +kernel, rfl, by decide +kernel, by decide +kernel⟩
theorem bd_l_alike_looks : Bd ("_law_alike_looks" : Str) st_l_alike_looks ps_l_alike_looks := fun _ _ _ _ _ _ us hl => match us, hl with | [], _ => rfl
def b_l_alike_looks : SF := (sSeq (sSet 0 (cLst (aCons (cTup (aCons (cC (.str ("thing" : Str))) (aCons (cC (.int 5)) aNil))) (aCons (cTup (aCons (cC (.str ("deed" : Str))) (aCons (cC (.str ("a" : Str))) (aCons (cC (.str ("b" : Str))) aNil)))) (aCons (cTup (aCons (cC (.str ("kind" : Str))) (aCons (cC (.str ("a" : Str))) (aCons (cC (.str ("b" : Str))) aNil)))) (aCons (cTup (aCons (cC (.str ("row" : Str))) (aCons (cC (.int 5)) aNil))) (aCons (cTup (aCons (cC (.str ("row" : Str))) (aCons (cTup (aCons (cC (.str ("row" : Str))) (aCons (cTup aNil) aNil))) aNil))) (aCons (cTup (aCons (cC (.str ("row" : Str))) aNil)) aNil))))))))
    (sRet (cComp (iAny (cVar 0)) (gN 1) tYes' (cTup (aCons (cC (.str ("row" : Str))) (aCons (cVar 1) aNil))) [1])))
def f_l_alike_looks : FN := runB ps_l_alike_looks.length N_l_alike_looks.length (b_l_alike_looks)
abbrev st_l_dealt : Stmt := top 42
abbrev N_l_dealt : List Str := [("_law_hand" : Str), ("_law_lots" : Str), ("_law_cell" : Str), ("_law_mixed" : Str)]
abbrev ps_l_dealt : List Str := [("_law_hand" : Str), ("_law_lots" : Str)]
theorem sc_l_dealt : FnScope N_l_dealt ps_l_dealt (defScope st_l_dealt) := ⟨rfl, rfl, rfl, by decide +kernel, rfl, by decide +kernel, by decide +kernel⟩
theorem bd_l_dealt : Bd ("_law_dealt" : Str) st_l_dealt ps_l_dealt := fun _ _ _ _ _ _ us hl => match us, hl with | [_, _], _ => rfl
def b_l_dealt : SF := (sSeq (sPut (cBin opAdd (cBin opIx (cVar 0) (cC (.int 2))) (cC (.int 1))) (cVar 0) (cC (.int 2)))
    (sSeq (sSet 2 (cBin opIx (cVar 0) (cC (.int 1))))
    (sSeq (sIf (tVal (cBin opNe (cBin opIx (cVar 0) (cC (.int 0))) (cLst aNil)))
      (sSeq (sSet 2 (cMeth "list" mPop (cBin opIx (cVar 0) (cC (.int 0))) aNil))
    (sIf (tVal (cBin opGe (cVar 2) (cBin opPow (cC (.int 10)) (cC (.int 18)))))
      (sSeq (sExpr (cMeth "list" mAppend (cBin opIx (cVar 0) (cC (.int 0))) (aCons (cBin opFdiv (cVar 2) (cVar 1)) aNil)))
    (sRet (cBin opMod (cVar 2) (cVar 1))))
      sPass))
      sPass)
    (sSeq (sSet 3 (cBin opAdd (cBin opAdd (cBin opAdd (cBin opMod (cVar 2) (cC (.int 2147483629))) (cBin opMul (cBin opMul (cC (.int 16807)) (cBin opIx (cVar 0) (cC (.int 2)))) (cBin opIx (cVar 0) (cC (.int 2))))) (cBin opIx (cVar 0) (cC (.int 1)))) (cC (.int 97))))
    (sSeq (sSet 3 (cBin opMod (cBin opMul (cVar 3) (cC (.int 48271))) (cC (.int 2147483647))))
    (sSeq (sSet 3 (cBin opMod (cBin opAdd (cBin opAdd (cBin opMul (cVar 3) (cVar 3)) (cBin opMul (cC (.int 69621)) (cBin opIx (cVar 0) (cC (.int 2))))) (cC (.int 11))) (cC (.int 2147483587))))
    (sRet (cBin opMod (cBin opFdiv (cBin opMod (cBin opMul (cVar 3) (cBin opAdd (cBin opFdiv (cVar 3) (cC (.int 5))) (cC (.int 39373)))) (cC (.int 2147483563))) (cC (.int 128))) (cVar 1)))))))))
def f_l_dealt : FN := runB ps_l_dealt.length N_l_dealt.length (b_l_dealt)
abbrev st_l_pick : Stmt := top 43
abbrev N_l_pick : List Str := [("_law_hand" : Str), ("_law_some" : Str)]
abbrev ps_l_pick : List Str := [("_law_hand" : Str), ("_law_some" : Str)]
theorem sc_l_pick : FnScope N_l_pick ps_l_pick (defScope st_l_pick) := ⟨rfl, rfl, rfl, by decide +kernel, rfl, by decide +kernel, by decide +kernel⟩
theorem bd_l_pick : Bd ("_law_pick" : Str) st_l_pick ps_l_pick := fun _ _ _ _ _ _ us hl => match us, hl with | [_, _], _ => rfl
def b_l_pick : SF := (sRet (cBin opIx (cVar 1) (cFn f_l_dealt (aCons (cVar 0) (aCons (cCall fLen (aCons (cVar 1) aNil)) aNil)))))
def f_l_pick : FN := runB ps_l_pick.length N_l_pick.length (b_l_pick)
abbrev st_l_label : Stmt := top 44
abbrev N_l_label : List Str := [("_law_hand" : Str)]
abbrev ps_l_label : List Str := [("_law_hand" : Str)]
theorem sc_l_label : FnScope N_l_label ps_l_label (defScope st_l_label) := ⟨rfl, rfl, rfl, by decide +kernel, rfl, by decide +kernel, by decide +kernel⟩
theorem bd_l_label : Bd ("_law_label" : Str) st_l_label ps_l_label := fun _ _ _ _ _ _ us hl => match us, hl with | [_], _ => rfl
def b_l_label : SF := (sRet (cFn f_l_pick (aCons (cVar 0) (aCons (cLst (aCons (cC (.str ("a" : Str))) (aCons (cC (.str ("z" : Str))) (aCons (cC (.str ("row" : Str))) (aCons (cC (.str ("none" : Str))) (aCons (cC (.str ("thing" : Str))) (aCons (cC (.str ("ab" : Str))) (aCons (cC (.str ("abcdefgh" : Str))) (aCons (cC (.str ("deed" : Str))) aNil))))))))) aNil))))
def f_l_label : FN := runB ps_l_label.length N_l_label.length (b_l_label)
abbrev st_l_leaf : Stmt := top 45
abbrev N_l_leaf : List Str := [("_law_hand" : Str), ("_law_words" : Str), ("_law_some" : Str), ("_law_sort" : Str), ("_law_number" : Str), ("_law_word" : Str), ("_law_first" : Str), ("_law_last" : Str)]
abbrev ps_l_leaf : List Str := [("_law_hand" : Str)]
theorem sc_l_leaf : FnScope N_l_leaf ps_l_leaf (defScope st_l_leaf) := ⟨rfl, rfl, rfl, by decide +kernel, rfl, by decide +kernel, by decide +kernel⟩
theorem bd_l_leaf : Bd ("_law_leaf" : Str) st_l_leaf ps_l_leaf := fun _ _ _ _ _ _ us hl => match us, hl with | [_], _ => rfl
def b_l_leaf : SF := (sSeq (sPar2 3 4 (cFn f_l_dealt (aCons (cVar 0) (aCons (cC (.int 8)) aNil))) (cFn f_l_pick (aCons (cVar 0) (aCons (cLst (aCons (cC (.int 0)) (aCons (cC (.int 1)) (aCons (cC (.int 9)) (aCons (cC (.int 10)) (aCons (cC (.int 99)) (aCons (cC (.int 100)) (aCons (cC (.int 999999)) (aCons (cBin opPow (cC (.int 10)) (cC (.int 15))) aNil))))))))) aNil))))
    (sSeq (sSet 1 (cLst (aCons (cC (.str ("" : Str))) (aCons (cC (.str ("a" : Str))) (aCons (cC (.str ("none" : Str))) (aCons (cC (.str ("yes" : Str))) (aCons (cC (.str ("row" : Str))) (aCons (cC (.str ("thing" : Str))) (aCons (cC (.str ("1" : Str))) (aCons (cC (.str ("-1" : Str))) (aCons (cC (.str ("[1 2]" : Str))) (aCons (cC (.str ("#5" : Str))) (aCons (cC (.str ("a.b" : Str))) (aCons (cC (.str ("a:b" : Str))) (aCons (cC (.str (" " : Str))) aNil)))))))))))))))
    (sSeq (sExpr (cMeth "list" mAppend (cVar 1) (aCons (cC (.str ("twentysigns of all ~" : Str))) aNil)))
    (sSeq (sPar3 5 6 7 (cFn f_l_pick (aCons (cVar 0) (aCons (cVar 1) aNil))) (cFn f_l_label (aCons (cVar 0) aNil)) (cFn f_l_label (aCons (cVar 0) aNil)))
    (sSeq (sSet 2 (cLst (aCons (cC .non) (aCons (cC (.bl true)) (aCons (cC (.bl false)) (aCons (cVar 4) (aCons (cBin opSub (cC (.int 0)) (cVar 4)) (aCons (cVar 5) (aCons (cTup (aCons (cC (.str ("thing" : Str))) (aCons (cVar 4) aNil))) aNil)))))))))
    (sRet (cBin opIx (cBin opAdd (cVar 2) (cLst (aCons (cTup (aCons (cBin opIx (cLst (aCons (cC (.str ("deed" : Str))) (aCons (cC (.str ("kind" : Str))) aNil))) (cFn f_l_dealt (aCons (cVar 0) (aCons (cC (.int 2)) aNil)))) (aCons (cVar 6) (aCons (cVar 7) aNil)))) aNil))) (cVar 3))))))))
def f_l_leaf : FN := runB ps_l_leaf.length N_l_leaf.length (b_l_leaf)
abbrev st_l_drawn : Stmt := top 47
abbrev N_l_drawn : List Str := [("_law_hand" : Str), ("_law_deep" : Str), ("_law_way" : Str), ("_law_turn" : Str)]
abbrev ps_l_drawn : List Str := [("_law_hand" : Str), ("_law_deep" : Str)]
theorem sc_l_drawn : FnScope N_l_drawn ps_l_drawn (defScope st_l_drawn) := ⟨rfl, rfl, rfl, by decide +kernel, rfl, by decide +kernel, by decide +kernel⟩
theorem bd_l_drawn : Bd ("_law_drawn" : Str) st_l_drawn ps_l_drawn := fun _ _ _ _ _ _ us hl => match us, hl with | [_, _], _ => rfl
def b_l_drawn (self_ : FN) : SF := (sSeq (sSet 2 (cFn f_l_dealt (aCons (cVar 0) (aCons (cC (.int 6)) aNil))))
    (sSeq (sIf (tOr' (tVal (cBin opEq2 (cVar 1) (cC (.int 0)))) (tVal (cBin opLt (cVar 2) (cC (.int 2)))))
      (sRet (cFn f_l_leaf (aCons (cVar 0) aNil)))
      sPass)
    (sSeq (sIf (tVal (cBin opEq2 (cVar 2) (cC (.int 5))))
      (sRet (cFn f_l_pick (aCons (cVar 0) (aCons (cFn f_l_alike_looks aNil) aNil))))
      sPass)
    (sRet (cTup (aCons (cC (.str ("row" : Str))) (aCons (cCall fTuple (aCons (cComp (iRange1 (cFn f_l_dealt (aCons (cVar 0) (aCons (cC (.int 5)) aNil)))) (gN 3) tYes' (cFn self_ (aCons (cVar 0) (aCons (cBin opSub (cVar 1) (cC (.int 1))) aNil))) [3]) aNil)) aNil)))))))
def f_l_drawn : Nat → FN
  | 0 => fun _ _ => .stuck
  | n + 1 => runB ps_l_drawn.length N_l_drawn.length (b_l_drawn (f_l_drawn n))
abbrev st_l_chain : Stmt := top 48
abbrev N_l_chain : List Str := [("_law_inner" : Str), ("_law_lots" : Str), ("_law_turn" : Str)]
abbrev ps_l_chain : List Str := [("_law_inner" : Str), ("_law_lots" : Str)]
theorem sc_l_chain : FnScope N_l_chain ps_l_chain (defScope st_l_chain) := ⟨rfl, rfl, rfl, by decide +kernel, rfl, by decide +kernel, by decide +kernel⟩
theorem bd_l_chain : Bd ("_law_chain" : Str) st_l_chain ps_l_chain := fun _ _ _ _ _ _ us hl => match us, hl with | [_, _], _ => rfl
def b_l_chain : SF := (sSeq (sFor (iRange1 (cVar 1)) (gN 2) (sSet 0 (cTup (aCons (cC (.str ("row" : Str))) (aCons (cTup (aCons (cVar 0) aNil)) aNil)))))
    (sRet (cVar 0)))
def f_l_chain : FN := runB ps_l_chain.length N_l_chain.length (b_l_chain)
abbrev st_l_wide : Stmt := top 49
abbrev N_l_wide : List Str := [("_law_inner" : Str), ("_law_lots" : Str)]
abbrev ps_l_wide : List Str := [("_law_inner" : Str), ("_law_lots" : Str)]
theorem sc_l_wide : FnScope N_l_wide ps_l_wide (defScope st_l_wide) := ⟨rfl, rfl, rfl, by decide +kernel, rfl, by decide +kernel, by decide +kernel⟩
theorem bd_l_wide : Bd ("_law_wide" : Str) st_l_wide ps_l_wide := fun _ _ _ _ _ _ us hl => match us, hl with | [_, _], _ => rfl
def b_l_wide : SF := (sRet (cTup (aCons (cC (.str ("row" : Str))) (aCons (cBin opMul (cTup (aCons (cVar 0) aNil)) (cVar 1)) aNil))))
def f_l_wide : FN := runB ps_l_wide.length N_l_wide.length (b_l_wide)
abbrev st_l_greatest : Stmt := top 50
abbrev N_l_greatest : List Str := [("_law_hand" : Str), ("_law_found" : Str), ("_law_inner" : Str), ("_law_other_leaf" : Str)]
abbrev ps_l_greatest : List Str := [("_law_hand" : Str)]
theorem sc_l_greatest : FnScope N_l_greatest ps_l_greatest (defScope st_l_greatest) := ⟨rfl, rfl, rfl, by decide +kernel, rfl, by decide +kernel, by decide +kernel⟩
theorem bd_l_greatest : Bd ("_law_greatest" : Str) st_l_greatest ps_l_greatest := fun _ _ _ _ _ _ us hl => match us, hl with | [_], _ => rfl
def b_l_greatest : SF := (sSeq (sPar2 2 3 (cFn f_l_leaf (aCons (cVar 0) aNil)) (cFn f_l_leaf (aCons (cVar 0) aNil)))
    (sSeq (sSet 1 (cLst (aCons (cFn f_l_chain (aCons (cVar 2) (aCons (cC (.int 8)) aNil))) (aCons (cFn f_l_wide (aCons (cVar 2) (aCons (cC (.int 40)) aNil))) (aCons (cFn f_l_chain (aCons (cFn f_l_wide (aCons (cVar 2) (aCons (cC (.int 40)) aNil))) (aCons (cC (.int 7)) aNil))) aNil)))))
    (sRet (cBin opAdd (cVar 1) (cLst (aCons (cTup (aCons (cC (.str ("row" : Str))) (aCons (cBin opAdd (cBin opMul (cTup (aCons (cFn f_l_wide (aCons (cVar 2) (aCons (cC (.int 38)) aNil))) aNil)) (cC (.int 5))) (cBin opMul (cTup (aCons (cVar 3) aNil)) (cC (.int 4)))) aNil))) aNil))))))
def f_l_greatest : FN := runB ps_l_greatest.length N_l_greatest.length (b_l_greatest)
abbrev st_l_signs : Stmt := top 52
abbrev N_l_signs : List Str := [("_law_hand" : Str), ("_law_every" : Str), ("_law_turn" : Str)]
abbrev ps_l_signs : List Str := [("_law_hand" : Str)]
theorem sc_l_signs : FnScope N_l_signs ps_l_signs (defScope st_l_signs) := ⟨rfl, rfl, rfl, by decide +kernel, rfl, by decide +kernel, by decide +kernel⟩
theorem bd_l_signs : Bd ("_law_signs" : Str) st_l_signs ps_l_signs := fun _ _ _ _ _ _ us hl => match us, hl with | [_], _ => rfl
def b_l_signs : SF := (sSeq (sSet 1 (cC (.str (" !\"#$&()*+,-./0123456789:;<=>?@ABCXYZ[]^_`abcxyz{|}~" : Str))))
    (sRet (cMeth "str" mJoin (cC (.str ("" : Str))) (aCons (cComp (iRange1 (cFn f_l_dealt (aCons (cVar 0) (aCons (cC (.int 21)) aNil)))) (gN 2) tYes' (cFn f_l_pick (aCons (cVar 0) (aCons (cVar 1) aNil))) [2]) aNil))))
def f_l_signs : FN := runB ps_l_signs.length N_l_signs.length (b_l_signs)
abbrev st_show_compound : Stmt := top 35
abbrev N_show_compound : List Str := [("worth" : Str), ("sign" : Str), ("word" : Str), ("rest" : Str), ("part" : Str)]
abbrev ps_show_compound : List Str := [("worth" : Str)]
theorem sc_show_compound : FnScope N_show_compound ps_show_compound (defScope st_show_compound) := ⟨rfl, rfl, rfl, by decide +kernel, rfl, by decide +kernel, by decide +kernel⟩
theorem bd_show_compound : Bd ("show_compound" : Str) st_show_compound ps_show_compound := fun _ _ _ _ _ _ us hl => match us, hl with | [_], _ => rfl
def b_show_compound (self_ : FN) : SF := (sSeq (sStar 2 3 (cVar 0))
    (sSeq (sIf (tVal (cBin opEq2 (cVar 2) (cC (.str ("row" : Str)))))
      (sRet (cBin opAdd (cBin opAdd (cC (.str ("[" : Str))) (cMeth "str" mJoin (cC (.str (" " : Str))) (aCons (cComp (iAny (cBin opIx (cVar 3) (cC (.int 0)))) (gN 4) tYes' (cFn self_ (aCons (cVar 4) aNil)) [4]) aNil))) (cC (.str ("]" : Str)))))
      sPass)
    (sSeq (sIf (tVal (cBin opEq2 (cVar 2) (cC (.str ("thing" : Str)))))
      (sRet (cBin opAdd (cC (.str ("#" : Str))) (cCall fStrI (aCons (cBin opIx (cVar 3) (cC (.int 0))) aNil))))
      sPass)
    (sSeq (sSet 1 (cIf (tVal (cBin opEq2 (cVar 2) (cC (.str ("deed" : Str))))) (cC (.str ("." : Str))) (cC (.str (":" : Str)))))
    (sRet (cMeth "str" mJoin (cVar 1) (aCons (cVar 3) aNil)))))))
def f_show_compound (self_ : FN) : FN := runB ps_show_compound.length N_show_compound.length (b_show_compound self_)
abbrev st_show_worth : Stmt := top 34
abbrev N_show_worth : List Str := [("worth" : Str)]
abbrev ps_show_worth : List Str := [("worth" : Str)]
theorem sc_show_worth : FnScope N_show_worth ps_show_worth (defScope st_show_worth) := ⟨rfl, rfl, rfl, by decide +kernel, rfl, by decide +kernel, by decide +kernel⟩
theorem bd_show_worth : Bd ("show_worth" : Str) st_show_worth ps_show_worth := fun _ _ _ _ _ _ us hl => match us, hl with | [_], _ => rfl
def b_show_worth (self_ : FN) : SF := (sSeq (sIf (tVal (cBin opIs (cVar 0) (cC .non)))
      (sRet (cC (.str ("none" : Str))))
      sPass)
    (sSeq (sIf (tVal (cCall fIsi (aCons (cVar 0) (aCons (cC (.ty "bool")) aNil))))
      (sRet (cIf (tTru (cVar 0)) (cC (.str ("yes" : Str))) (cC (.str ("no" : Str)))))
      sPass)
    (sSeq (sIf (tVal (cCall fIsi (aCons (cVar 0) (aCons (cC (.ty "int")) aNil))))
      (sRet (cCall fStrI (aCons (cVar 0) aNil)))
      sPass)
    (sSeq (sIf (tVal (cCall fIsi (aCons (cVar 0) (aCons (cC (.ty "str")) aNil))))
      (sRet (cFq ("'" : Str) (cVar 0) ("'" : Str)))
      sPass)
    (sRet (cFn (f_show_compound self_) (aCons (cVar 0) aNil)))))))
def f_show_worth : Nat → FN
  | 0 => fun _ _ => .stuck
  | n + 1 => runB ps_show_worth.length N_show_worth.length (b_show_worth (f_show_worth n))
abbrev st_end_of_quoted : Stmt := top 11
abbrev N_end_of_quoted : List Str := [("text" : Str), ("at" : Str), ("closing" : Str)]
abbrev ps_end_of_quoted : List Str := [("text" : Str), ("at" : Str)]
theorem sc_end_of_quoted : FnScope N_end_of_quoted ps_end_of_quoted (defScope st_end_of_quoted) := ⟨rfl, rfl, rfl, by decide +kernel, rfl, by decide +kernel, by decide +kernel⟩
theorem bd_end_of_quoted : Bd ("end_of_quoted" : Str) st_end_of_quoted ps_end_of_quoted := fun _ _ _ _ _ _ us hl => match us, hl with | [_, _], _ => rfl
def b_end_of_quoted : SF := (sSeq (sSet 2 (cMeth "str" mFind3 (cVar 0) (aCons (cC (.str ("'" : Str))) (aCons (cBin opAdd (cVar 1) (cC (.int 1))) aNil))))
    (sSeq (sIf (tVal (cBin opLt (cVar 2) (cC (.int 0))))
      sStuck
      sPass)
    (sRet (cBin opAdd (cVar 2) (cC (.int 1))))))
def f_end_of_quoted : FN := runB ps_end_of_quoted.length N_end_of_quoted.length (b_end_of_quoted)
abbrev st_end_of_piece : Stmt := top 10
abbrev N_end_of_piece : List Str := [("text" : Str), ("at" : Str), ("end" : Str)]
abbrev ps_end_of_piece : List Str := [("text" : Str), ("at" : Str)]
theorem sc_end_of_piece : FnScope N_end_of_piece ps_end_of_piece (defScope st_end_of_piece) := ⟨rfl, rfl, rfl, by decide +kernel, rfl, by decide +kernel, by decide +kernel⟩
theorem bd_end_of_piece : Bd ("end_of_piece" : Str) st_end_of_piece ps_end_of_piece := fun _ _ _ _ _ _ us hl => match us, hl with | [_, _], _ => rfl
def b_end_of_piece : SF := (sSeq (sIf (tVal (cBin opEq2 (cBin opIx (cVar 0) (cVar 1)) (cC (.str ("'" : Str)))))
      (sRet (cFn f_end_of_quoted (aCons (cVar 0) (aCons (cVar 1) aNil))))
      sPass)
    (sSeq (sSet 2 (cBin opAdd (cVar 1) (cC (.int 1))))
    (sSeq (sIf (tVal (cBin opIn2 (cBin opIx (cVar 0) (cVar 1)) (cC (.str ("()[] '" : Str)))))
      (sRet (cVar 2))
      sPass)
    (sSeq (sWhile 100000 (tAnd' (tVal (cBin opLt (cVar 2) (cCall fLen (aCons (cVar 0) aNil)))) (tVal (cBin opNotIn2 (cBin opIx (cVar 0) (cVar 2)) (cC (.str ("()[] '" : Str)))))) (sAug 2 opIAdd (cC (.int 1))))
    (sRet (cVar 2))))))
def f_end_of_piece : FN := runB ps_end_of_piece.length N_end_of_piece.length (b_end_of_piece)
abbrev st_pieces_of : Stmt := top 9
abbrev N_pieces_of : List Str := [("text" : Str), ("pieces" : Str), ("at" : Str), ("end" : Str), ("piece" : Str)]
abbrev ps_pieces_of : List Str := [("text" : Str)]
theorem sc_pieces_of : FnScope N_pieces_of ps_pieces_of (defScope st_pieces_of) := ⟨rfl, rfl, rfl, by decide +kernel, rfl, by decide +kernel, by decide +kernel⟩
theorem bd_pieces_of : Bd ("pieces_of" : Str) st_pieces_of ps_pieces_of := fun _ _ _ _ _ _ us hl => match us, hl with | [_], _ => rfl
def b_pieces_of : SF := (sSeq (sSet 1 (cLst aNil))
    (sSeq (sSet 2 (cC (.int 0)))
    (sSeq (sWhile 100000 (tVal (cBin opLt (cVar 2) (cCall fLen (aCons (cVar 0) aNil)))) (sSeq (sSet 3 (cFn f_end_of_piece (aCons (cVar 0) (aCons (cVar 2) aNil))))
    (sSeq (sExpr (cMeth "list" mAppend (cVar 1) (aCons (cCut (cVar 0) (oSome (cVar 2)) (oSome (cVar 3))) aNil)))
    (sSet 2 (cVar 3)))))
    (sRet (cComp (iAny (cVar 1)) (gN 4) (tVal (cBin opNe (cVar 4) (cC (.str (" " : Str))))) (cVar 4) [4])))))
def f_pieces_of : FN := runB ps_pieces_of.length N_pieces_of.length (b_pieces_of)
abbrev st_trees_of : Stmt := top 8
abbrev N_trees_of : List Str := [("text" : Str), ("standing" : Str), ("piece" : Str), ("bracket" : Str), ("trees" : Str)]
abbrev ps_trees_of : List Str := [("text" : Str)]
theorem sc_trees_of : FnScope N_trees_of ps_trees_of (defScope st_trees_of) := ⟨rfl, rfl, rfl, by decide +kernel, rfl, by decide +kernel, by decide +kernel⟩
theorem bd_trees_of : Bd ("trees_of" : Str) st_trees_of ps_trees_of := fun _ _ _ _ _ _ us hl => match us, hl with | [_], _ => rfl
def b_trees_of (V : FV) : SF := (sSeq (sSet 1 (cLst (aCons (cTup (aCons (cC (.str ("" : Str))) (aCons (cLst aNil) aNil))) aNil)))
    (sSeq (sFor (iAny (cFn f_pieces_of (aCons (cVar 0) aNil))) (gN 2) (sSeq (sIf (tVal (cBin opIn2 (cVar 2) (cTup (aCons (cC (.str ("(" : Str))) (aCons (cC (.str ("[" : Str))) aNil)))))
      (sExpr (cMeth "list" mAppend (cVar 1) (aCons (cTup (aCons (cVar 2) (aCons (cLst aNil) aNil))) aNil)))
      (sIf (tVal (cBin (opInTab V.d_CLOSED tab_CLOSED) (cVar 2) (cC (.own V.d_CLOSED))))
      (sSeq (sAsg (cMeth "list" mPop (cVar 1) aNil) (gT 2 (gCons' (gN 3) (gCons' (gN 4) gNil'))))
    (sSeq (sIf (tVal (cBin opNe (cVar 3) (cBin (opIxTab V.d_CLOSED tab_CLOSED) (cC (.own V.d_CLOSED)) (cVar 2))))
      sStuck
      sPass)
    (sExpr (cMeth "list" mAppend (cBin opIx (cBin opIx (cVar 1) (cNeg (cC (.int 1)))) (cC (.int 1))) (aCons (cTup (aCons (cVar 3) (aCons (cCall fTuple (aCons (cVar 4) aNil)) aNil))) aNil)))))
      (sExpr (cMeth "list" mAppend (cBin opIx (cBin opIx (cVar 1) (cNeg (cC (.int 1)))) (cC (.int 1))) (aCons (cVar 2) aNil)))))
    (sIf (tVal (cBin opGt (cBin opSub (cCall fLen (aCons (cVar 1) aNil)) (cC (.int 1))) (cC (.int 160))))
      sStuck
      sPass)))
    (sSeq (sIf (tVal (cBin opGt (cCall fLen (aCons (cVar 1) aNil)) (cC (.int 1))))
      sStuck
      sPass)
    (sRet (cBin opIx (cBin opIx (cVar 1) (cC (.int 0))) (cC (.int 1)))))))
def f_trees_of (V : FV) : FN := runB ps_trees_of.length N_trees_of.length (b_trees_of V)
abbrev st_only_tree : Stmt := top 7
abbrev N_only_tree : List Str := [("text" : Str), ("trees" : Str)]
abbrev ps_only_tree : List Str := [("text" : Str)]
theorem sc_only_tree : FnScope N_only_tree ps_only_tree (defScope st_only_tree) := ⟨rfl, rfl, rfl, by decide +kernel, rfl, by decide +kernel, by decide +kernel⟩
theorem bd_only_tree : Bd ("only_tree" : Str) st_only_tree ps_only_tree := fun _ _ _ _ _ _ us hl => match us, hl with | [_], _ => rfl
def b_only_tree (V : FV) : SF := (sSeq (sSet 1 (cFn (f_trees_of V) (aCons (cVar 0) aNil)))
    (sSeq (sIf (tVal (cBin opNe (cCall fLen (aCons (cVar 1) aNil)) (cC (.int 1))))
      sStuck
      sPass)
    (sRet (cBin opIx (cVar 1) (cC (.int 0))))))
def f_only_tree (V : FV) : FN := runB ps_only_tree.length N_only_tree.length (b_only_tree V)
abbrev st_is_short_row : Stmt := top 25
abbrev N_is_short_row : List Str := [("thing" : Str), ("word" : Str), ("parts" : Str)]
abbrev ps_is_short_row : List Str := [("thing" : Str)]
theorem sc_is_short_row : FnScope N_is_short_row ps_is_short_row (defScope st_is_short_row) := ⟨rfl, rfl, rfl, by decide +kernel, rfl, by decide +kernel, by decide +kernel⟩
theorem bd_is_short_row : Bd ("is_short_row" : Str) st_is_short_row ps_is_short_row := fun _ _ _ _ _ _ us hl => match us, hl with | [_], _ => rfl
def b_is_short_row : SF := (sSeq (sIf (tOr' (tNot' (tVal (cCall fIsi (aCons (cVar 0) (aCons (cC (.ty "tuple")) aNil))))) (tVal (cBin opNe (cCall fLen (aCons (cVar 0) aNil)) (cC (.int 2)))))
      (sRet (cC (.bl false)))
      sPass)
    (sSeq (sAsg (cVar 0) (gT 2 (gCons' (gN 1) (gCons' (gN 2) gNil'))))
    (sRet (cAnd (cBin opEq2 (cVar 1) (cC (.str ("row" : Str)))) (cAnd (cCall fIsi (aCons (cVar 2) (aCons (cC (.ty "tuple")) aNil))) (cBin opLe (cCall fLen (aCons (cVar 2) aNil)) (cC (.int 40))))))))
def f_is_short_row : FN := runB ps_is_short_row.length N_is_short_row.length (b_is_short_row)
abbrev st_is_whole : Stmt := top 21
abbrev N_is_whole : List Str := [("thing" : Str)]
abbrev ps_is_whole : List Str := [("thing" : Str)]
theorem sc_is_whole : FnScope N_is_whole ps_is_whole (defScope st_is_whole) := ⟨rfl, rfl, rfl, by decide +kernel, rfl, by decide +kernel, by decide +kernel⟩
theorem bd_is_whole : Bd ("is_whole" : Str) st_is_whole ps_is_whole := fun _ _ _ _ _ _ us hl => match us, hl with | [_], _ => rfl
def b_is_whole : SF := (sRet (cAnd (cCall fIsi (aCons (cVar 0) (aCons (cC (.ty "int")) aNil))) (cNot (cCall fIsi (aCons (cVar 0) (aCons (cC (.ty "bool")) aNil))))))
def f_is_whole : FN := runB ps_is_whole.length N_is_whole.length (b_is_whole)
abbrev st_is_short_text : Stmt := top 28
abbrev N_is_short_text : List Str := [("thing" : Str)]
abbrev ps_is_short_text : List Str := [("thing" : Str)]
theorem sc_is_short_text : FnScope N_is_short_text ps_is_short_text (defScope st_is_short_text) := ⟨rfl, rfl, rfl, by decide +kernel, rfl, by decide +kernel, by decide +kernel⟩
theorem bd_is_short_text : Bd ("is_short_text" : Str) st_is_short_text ps_is_short_text := fun _ _ _ _ _ _ us hl => match us, hl with | [_], _ => rfl
def b_is_short_text : SF := (sSeq (sIf (tOr' (tNot' (tVal (cCall fIsi (aCons (cVar 0) (aCons (cC (.ty "str")) aNil))))) (tVal (cBin opGt (cCall fLen (aCons (cVar 0) aNil)) (cC (.int 20)))))
      (sRet (cC (.bl false)))
      sPass)
    (sRet (cAllS (fun c => (between (" " : Str) ("~" : Str) c && !([(37 : Int), 39].any (· == ((c : Nat) : Int))))) (cVar 0))))
def f_is_short_text : FN := runB ps_is_short_text.length N_is_short_text.length (b_is_short_text)
abbrev st_is_plain_single : Stmt := top 27
abbrev N_is_plain_single : List Str := [("thing" : Str)]
abbrev ps_is_plain_single : List Str := [("thing" : Str)]
theorem sc_is_plain_single : FnScope N_is_plain_single ps_is_plain_single (defScope st_is_plain_single) := ⟨rfl, rfl, rfl, by decide +kernel, rfl, by decide +kernel, by decide +kernel⟩
theorem bd_is_plain_single : Bd ("is_plain_single" : Str) st_is_plain_single ps_is_plain_single := fun _ _ _ _ _ _ us hl => match us, hl with | [_], _ => rfl
def b_is_plain_single : SF := (sSeq (sIf (tOr' (tVal (cBin opIs (cVar 0) (cC .non))) (tVal (cCall fIsi (aCons (cVar 0) (aCons (cC (.ty "bool")) aNil)))))
      (sRet (cC (.bl true)))
      sPass)
    (sSeq (sIf (tVal (cFn f_is_whole (aCons (cVar 0) aNil)))
      (sRet (cChain opLe opLe (cNeg (cC (.int 1000000000000000))) (cVar 0) (cC (.int 1000000000000000))))
      sPass)
    (sRet (cFn f_is_short_text (aCons (cVar 0) aNil)))))
def f_is_plain_single : FN := runB ps_is_plain_single.length N_is_plain_single.length (b_is_plain_single)
abbrev st_is_thing : Stmt := top 29
abbrev N_is_thing : List Str := [("thing" : Str), ("word" : Str), ("k" : Str)]
abbrev ps_is_thing : List Str := [("thing" : Str)]
theorem sc_is_thing : FnScope N_is_thing ps_is_thing (defScope st_is_thing) := ⟨rfl, rfl, rfl, by decide +kernel, rfl, by decide +kernel, by decide +kernel⟩
theorem bd_is_thing : Bd ("is_thing" : Str) st_is_thing ps_is_thing := fun _ _ _ _ _ _ us hl => match us, hl with | [_], _ => rfl
def b_is_thing : SF := (sSeq (sIf (tOr' (tNot' (tVal (cCall fIsi (aCons (cVar 0) (aCons (cC (.ty "tuple")) aNil))))) (tVal (cBin opNe (cCall fLen (aCons (cVar 0) aNil)) (cC (.int 2)))))
      (sRet (cC (.bl false)))
      sPass)
    (sSeq (sAsg (cVar 0) (gT 2 (gCons' (gN 1) (gCons' (gN 2) gNil'))))
    (sRet (cAnd (cBin opEq2 (cVar 1) (cC (.str ("thing" : Str)))) (cAnd (cFn f_is_whole (aCons (cVar 2) aNil)) (cChain opLe opLe (cC (.int 0)) (cVar 2) (cC (.int 1000000000000000))))))))
def f_is_thing : FN := runB ps_is_thing.length N_is_thing.length (b_is_thing)
abbrev st_is_name : Stmt := top 22
abbrev N_is_name : List Str := [("thing" : Str)]
abbrev ps_is_name : List Str := [("thing" : Str)]
theorem sc_is_name : FnScope N_is_name ps_is_name (defScope st_is_name) := ⟨rfl, rfl, rfl, by decide +kernel, rfl, by decide +kernel, by decide +kernel⟩
theorem bd_is_name : Bd ("is_name" : Str) st_is_name ps_is_name := fun _ _ _ _ _ _ us hl => match us, hl with | [_], _ => rfl
def b_is_name : SF := (sSeq (sIf (tOr' (tNot' (tVal (cCall fIsi (aCons (cVar 0) (aCons (cC (.ty "str")) aNil))))) (tNot' (tVal (cChain opLe opLe (cC (.int 1)) (cCall fLen (aCons (cVar 0) aNil)) (cC (.int 8))))))
      (sRet (cC (.bl false)))
      sPass)
    (sRet (cAllS (between ("a" : Str) ("z" : Str)) (cVar 0))))
def f_is_name : FN := runB ps_is_name.length N_is_name.length (b_is_name)
abbrev st_is_deed_or_kind : Stmt := top 30
abbrev N_is_deed_or_kind : List Str := [("thing" : Str), ("word" : Str), ("module" : Str), ("name" : Str)]
abbrev ps_is_deed_or_kind : List Str := [("thing" : Str)]
theorem sc_is_deed_or_kind : FnScope N_is_deed_or_kind ps_is_deed_or_kind (defScope st_is_deed_or_kind) := ⟨rfl, rfl, rfl, by decide +kernel, rfl, by decide +kernel, by decide +kernel⟩
theorem bd_is_deed_or_kind : Bd ("is_deed_or_kind" : Str) st_is_deed_or_kind ps_is_deed_or_kind := fun _ _ _ _ _ _ us hl => match us, hl with | [_], _ => rfl
def b_is_deed_or_kind : SF := (sSeq (sIf (tOr' (tNot' (tVal (cCall fIsi (aCons (cVar 0) (aCons (cC (.ty "tuple")) aNil))))) (tVal (cBin opNe (cCall fLen (aCons (cVar 0) aNil)) (cC (.int 3)))))
      (sRet (cC (.bl false)))
      sPass)
    (sSeq (sAsg (cVar 0) (gT 3 (gCons' (gN 1) (gCons' (gN 2) (gCons' (gN 3) gNil')))))
    (sRet (cAnd (cBin opIn2 (cVar 1) (cTup (aCons (cC (.str ("deed" : Str))) (aCons (cC (.str ("kind" : Str))) aNil)))) (cAnd (cFn f_is_name (aCons (cVar 2) aNil)) (cFn f_is_name (aCons (cVar 3) aNil)))))))
def f_is_deed_or_kind : FN := runB ps_is_deed_or_kind.length N_is_deed_or_kind.length (b_is_deed_or_kind)
abbrev st_is_single : Stmt := top 26
abbrev N_is_single : List Str := [("thing" : Str)]
abbrev ps_is_single : List Str := [("thing" : Str)]
theorem sc_is_single : FnScope N_is_single ps_is_single (defScope st_is_single) := ⟨rfl, rfl, rfl, by decide +kernel, rfl, by decide +kernel, by decide +kernel⟩
theorem bd_is_single : Bd ("is_single" : Str) st_is_single ps_is_single := fun _ _ _ _ _ _ us hl => match us, hl with | [_], _ => rfl
def b_is_single : SF := (sRet (cOr (cFn f_is_plain_single (aCons (cVar 0) aNil)) (cOr (cFn f_is_thing (aCons (cVar 0) aNil)) (cFn f_is_deed_or_kind (aCons (cVar 0) aNil)))))
def f_is_single : FN := runB ps_is_single.length N_is_single.length (b_is_single)
abbrev st_is_built_of : Stmt := top 24
abbrev N_is_built_of : List Str := [("thing" : Str), ("is_fit" : Str), ("pending" : Str), ("many" : Str), ("part" : Str), ("deep" : Str), ("inner" : Str)]
abbrev ps_is_built_of : List Str := [("thing" : Str), ("is_fit" : Str)]
theorem sc_is_built_of : FnScope N_is_built_of ps_is_built_of (defScope st_is_built_of) := ⟨rfl, rfl, rfl, by decide +kernel, rfl, by decide +kernel, by decide +kernel⟩
theorem bd_is_built_of : Bd ("is_built_of" : Str) st_is_built_of ps_is_built_of := fun _ _ _ _ _ _ us hl => match us, hl with | [_, _], _ => rfl
def b_is_built_of (V : FV) : SF := (sSeq (sSet 2 (cLst (aCons (cTup (aCons (cVar 0) (aCons (cC (.int 1)) aNil))) aNil)))
    (sSeq (sSet 3 (cC (.int 0)))
    (sSeq (sWhile 300 (tAnd' (tTru (cVar 2)) (tVal (cBin opLe (cVar 3) (cC (.int 200))))) (sSeq (sAsg (cMeth "list" mPop (cVar 2) aNil) (gT 2 (gCons' (gN 4) (gCons' (gN 5) gNil'))))
    (sSeq (sAug 3 opIAdd (cC (.int 1)))
    (sIf (tAnd' (tVal (cFn f_is_short_row (aCons (cVar 4) aNil))) (tVal (cBin opLe (cVar 5) (cC (.int 8)))))
      (sExpr (cMeth "list" mExtend (cVar 2) (aCons (cComp (iAny (cBin opIx (cVar 4) (cC (.int 1)))) (gN 6) tYes' (cTup (aCons (cVar 6) (aCons (cBin opAdd (cVar 5) (cC (.int 1))) aNil))) [6]) aNil)))
      (sIf (tNot' (tVal (cCallV 1 [(V.a_is_single, f_is_single)] (aCons (cVar 4) aNil))))
      (sRet (cC (.bl false)))
      sPass)))))
    (sRet (cBin opLe (cVar 3) (cC (.int 200)))))))
def f_is_built_of (V : FV) : FN := runB ps_is_built_of.length N_is_built_of.length (b_is_built_of V)
abbrev st_is_worth : Stmt := top 23
abbrev N_is_worth : List Str := [("thing" : Str)]
abbrev ps_is_worth : List Str := [("thing" : Str)]
theorem sc_is_worth : FnScope N_is_worth ps_is_worth (defScope st_is_worth) := ⟨rfl, rfl, rfl, by decide +kernel, rfl, by decide +kernel, by decide +kernel⟩
theorem bd_is_worth : Bd ("is_worth" : Str) st_is_worth ps_is_worth := fun _ _ _ _ _ _ us hl => match us, hl with | [_], _ => rfl
def b_is_worth (V : FV) : SF := (sRet (cFn (f_is_built_of V) (aCons (cVar 0) (aCons (cC (.own V.a_is_single)) aNil))))
def f_is_worth (V : FV) : FN := runB ps_is_worth.length N_is_worth.length (b_is_worth V)
abbrev st_whole_of : Stmt := top 39
abbrev N_whole_of : List Str := [("text" : Str), ("figures" : Str)]
abbrev ps_whole_of : List Str := [("text" : Str)]
theorem sc_whole_of : FnScope N_whole_of ps_whole_of (defScope st_whole_of) := ⟨rfl, rfl, rfl, by decide +kernel, rfl, by decide +kernel, by decide +kernel⟩
theorem bd_whole_of : Bd ("whole_of" : Str) st_whole_of ps_whole_of := fun _ _ _ _ _ _ us hl => match us, hl with | [_], _ => rfl
def b_whole_of : SF := (sSeq (sSet 1 (cMeth "str" mRemovepre (cVar 0) (aCons (cC (.str ("-" : Str))) aNil)))
    (sSeq (sIf (tOr' (tNot' (tVal (cMeth "str" mIsascii (cVar 1) aNil))) (tOr' (tNot' (tVal (cMeth "str" mIsdigit (cVar 1) aNil))) (tVal (cBin opGt (cCall fLen (aCons (cVar 1) aNil)) (cC (.int 16))))))
      sStuck
      sPass)
    (sRet (cCall fIntS (aCons (cVar 0) aNil)))))
def f_whole_of : FN := runB ps_whole_of.length N_whole_of.length (b_whole_of)
abbrev st_single_of : Stmt := top 38
abbrev N_single_of : List Str := [("piece" : Str), ("word" : Str), ("sign" : Str), ("module" : Str), ("found" : Str), ("name" : Str)]
abbrev ps_single_of : List Str := [("piece" : Str)]
theorem sc_single_of : FnScope N_single_of ps_single_of (defScope st_single_of) := ⟨rfl, rfl, rfl, by decide +kernel, rfl, by decide +kernel, by decide +kernel⟩
theorem bd_single_of : Bd ("single_of" : Str) st_single_of ps_single_of := fun _ _ _ _ _ _ us hl => match us, hl with | [_], _ => rfl
def b_single_of (V : FV) : SF := (sSeq (sIf (tVal (cBin (opInTab V.d_WORDS tab_WORDS) (cVar 0) (cC (.own V.d_WORDS))))
      (sRet (cBin (opIxTab V.d_WORDS tab_WORDS) (cC (.own V.d_WORDS)) (cVar 0)))
      sPass)
    (sSeq (sIf (tVal (cMeth "str" mStarts (cVar 0) (aCons (cC (.str ("'" : Str))) aNil)))
      (sRet (cCut (cVar 0) (oSome (cC (.int 1))) (oSome (cNeg (cC (.int 1))))))
      sPass)
    (sSeq (sIf (tVal (cMeth "str" mStarts (cVar 0) (aCons (cC (.str ("#" : Str))) aNil)))
      (sRet (cTup (aCons (cC (.str ("thing" : Str))) (aCons (cFn f_whole_of (aCons (cCut (cVar 0) (oSome (cC (.int 1))) oNone) aNil)) aNil))))
      sPass)
    (sSeq (sFor (iAny (cTup (aCons (cTup (aCons (cC (.str ("deed" : Str))) (aCons (cC (.str ("." : Str))) aNil))) (aCons (cTup (aCons (cC (.str ("kind" : Str))) (aCons (cC (.str (":" : Str))) aNil))) aNil)))) (gT 2 (gCons' (gN 1) (gCons' (gN 2) gNil'))) (sSeq (sAsg (cMeth "str" mPart (cVar 0) (aCons (cVar 2) aNil)) (gT 3 (gCons' (gN 3) (gCons' (gN 4) (gCons' (gN 5) gNil')))))
    (sIf (tTru (cVar 4))
      (sRet (cTup (aCons (cVar 1) (aCons (cVar 3) (aCons (cVar 5) aNil)))))
      sPass)))
    (sRet (cFn f_whole_of (aCons (cVar 0) aNil)))))))
def f_single_of (V : FV) : FN := runB ps_single_of.length N_single_of.length (b_single_of V)
abbrev st_worth_of : Stmt := top 37
abbrev N_worth_of : List Str := [("tree" : Str), ("bracket" : Str), ("trees" : Str), ("part" : Str)]
abbrev ps_worth_of : List Str := [("tree" : Str)]
theorem sc_worth_of : FnScope N_worth_of ps_worth_of (defScope st_worth_of) := ⟨rfl, rfl, rfl, by decide +kernel, rfl, by decide +kernel, by decide +kernel⟩
theorem bd_worth_of : Bd ("worth_of" : Str) st_worth_of ps_worth_of := fun _ _ _ _ _ _ us hl => match us, hl with | [_], _ => rfl
def b_worth_of (V : FV) (self_ : FN) : SF := (sSeq (sIf (tVal (cCall fIsi (aCons (cVar 0) (aCons (cC (.ty "str")) aNil))))
      (sRet (cFn (f_single_of V) (aCons (cVar 0) aNil)))
      sPass)
    (sSeq (sAsg (cVar 0) (gT 2 (gCons' (gN 1) (gCons' (gN 2) gNil'))))
    (sSeq (sIf (tVal (cBin opNe (cVar 1) (cC (.str ("[" : Str)))))
      sStuck
      sPass)
    (sRet (cTup (aCons (cC (.str ("row" : Str))) (aCons (cCall fTuple (aCons (cComp (iAny (cVar 2)) (gN 3) tYes' (cFn self_ (aCons (cVar 3) aNil)) [3]) aNil)) aNil)))))))
def f_worth_of (V : FV) : Nat → FN
  | 0 => fun _ _ => .stuck
  | n + 1 => runB ps_worth_of.length N_worth_of.length (b_worth_of V (f_worth_of V n))
abbrev st_read_worth : Stmt := top 36
abbrev N_read_worth : List Str := [("text" : Str), ("worth" : Str)]
abbrev ps_read_worth : List Str := [("text" : Str)]
theorem sc_read_worth : FnScope N_read_worth ps_read_worth (defScope st_read_worth) := ⟨rfl, rfl, rfl, by decide +kernel, rfl, by decide +kernel, by decide +kernel⟩
theorem bd_read_worth : Bd ("read_worth" : Str) st_read_worth ps_read_worth := fun _ _ _ _ _ _ us hl => match us, hl with | [_], _ => rfl
def b_read_worth (V : FV) : SF := (sSeq (sIf (tNot' (tVal (cCall fIsi (aCons (cVar 0) (aCons (cC (.ty "str")) aNil)))))
      sStuck
      sPass)
    (sSeq (sSet 1 (cFn (f_worth_of V 30) (aCons (cFn (f_only_tree V) (aCons (cVar 0) aNil)) aNil)))
    (sSeq (sIf (tOr' (tNot' (tVal (cFn (f_is_worth V) (aCons (cVar 1) aNil)))) (tVal (cBin opNe (cFn (f_show_worth 30) (aCons (cVar 1) aNil)) (cVar 0))))
      sStuck
      sPass)
    (sRet (cVar 1)))))
def f_read_worth (V : FV) : FN := runB ps_read_worth.length N_read_worth.length (b_read_worth V)
abbrev st_l_text_of : Stmt := top 53
abbrev N_l_text_of : List Str := [("_law_it" : Str), ("_law_found" : Str), ("_law_part" : Str)]
abbrev ps_l_text_of : List Str := [("_law_it" : Str)]
theorem sc_l_text_of : FnScope N_l_text_of ps_l_text_of (defScope st_l_text_of) := ⟨rfl, rfl, rfl, by decide +kernel, rfl, by decide +kernel, by decide +kernel⟩
theorem bd_l_text_of : Bd ("_law_text_of" : Str) st_l_text_of ps_l_text_of := fun _ _ _ _ _ _ us hl => match us, hl with | [_], _ => rfl
def b_l_text_of (self_ : FN) : SF := (sSeq (sIf (tVal (cBin opIs (cVar 0) (cC .non)))
      (sRet (cC (.str ("none" : Str))))
      sPass)
    (sSeq (sIf (tVal (cCall fIsi (aCons (cVar 0) (aCons (cC (.ty "bool")) aNil))))
      (sRet (cBin opIx (cLst (aCons (cC (.str ("no" : Str))) (aCons (cC (.str ("yes" : Str))) aNil))) (cCall fIntS (aCons (cVar 0) aNil))))
      sPass)
    (sSeq (sIf (tVal (cCall fIsi (aCons (cVar 0) (aCons (cC (.ty "int")) aNil))))
      (sRet (cCall fStrI (aCons (cVar 0) aNil)))
      sPass)
    (sSeq (sIf (tVal (cCall fIsi (aCons (cVar 0) (aCons (cC (.ty "str")) aNil))))
      (sRet (cBin opAdd (cBin opAdd (cC (.str ("'" : Str))) (cVar 0)) (cC (.str ("'" : Str)))))
      sPass)
    (sSeq (sIf (tVal (cBin opEq2 (cBin opIx (cVar 0) (cC (.int 0))) (cC (.str ("row" : Str)))))
      (sSeq (sSet 1 (cC (.str ("" : Str))))
    (sSeq (sFor (iAny (cBin opIx (cVar 0) (cC (.int 1)))) (gN 2) (sSet 1 (cBin opAdd (cBin opAdd (cVar 1) (cC (.str (" " : Str)))) (cFn self_ (aCons (cVar 2) aNil)))))
    (sRet (cBin opAdd (cBin opAdd (cC (.str ("[" : Str))) (cCut (cVar 1) (oSome (cC (.int 1))) oNone)) (cC (.str ("]" : Str)))))))
      sPass)
    (sRet (cIf (tVal (cBin opEq2 (cBin opIx (cVar 0) (cC (.int 0))) (cC (.str ("thing" : Str))))) (cBin opAdd (cC (.str ("#" : Str))) (cCall fStrI (aCons (cBin opIx (cVar 0) (cC (.int 1))) aNil))) (cBin opAdd (cBin opAdd (cBin opIx (cVar 0) (cC (.int 1))) (cBin opIxD (cD2 ("deed" : Str) ("kind" : Str) (cC (.str ("." : Str))) (cC (.str (":" : Str)))) (cBin opIx (cVar 0) (cC (.int 0))))) (cBin opIx (cVar 0) (cC (.int 2)))))))))))
def f_l_text_of : Nat → FN
  | 0 => fun _ _ => .stuck
  | n + 1 => runB ps_l_text_of.length N_l_text_of.length (b_l_text_of (f_l_text_of n))
abbrev st_l_right : Stmt := top 54
abbrev N_l_right : List Str := [("_law_it" : Str), ("_law_found" : Str), ("_law_told" : Str), ("_law_kept" : Str), ("_law_due" : Str)]
abbrev ps_l_right : List Str := [("_law_it" : Str)]
theorem sc_l_right : FnScope N_l_right ps_l_right (defScope st_l_right) := ⟨rfl, rfl, rfl, by decide +kernel, rfl, by decide +kernel, by decide +kernel⟩
theorem bd_l_right : Bd ("_law_right" : Str) st_l_right ps_l_right := fun _ _ _ _ _ _ us hl => match us, hl with | [_], _ => rfl
def b_l_right (V : FV) : SF := (sSeq (sPar2 3 4 (cCall fRepr2 (aCons (cVar 0) aNil)) (cFn (f_l_text_of 30) (aCons (cVar 0) aNil)))
    (sSeq (sSet 1 (cLst (aCons (cFn (f_show_worth 30) (aCons (cVar 0) aNil)) (aCons (cFn (fun es h => (f_show_worth 30) (pm0 es) h) (aCons (cVar 0) aNil)) (aCons (cFn (f_show_worth 30) (aCons (cVar 0) aNil)) aNil)))))
    (sSeq (sSet 2 (cLst (aCons (cFn (f_read_worth V) (aCons (cVar 4) aNil)) (aCons (cFn (fun es h => (f_read_worth V) (pm0 es) h) (aCons (cVar 4) aNil)) aNil))))
    (sRet (cAnd (cBin opEq2 (cCall fRepr2 (aCons (cVar 1) aNil)) (cCall fRepr2 (aCons (cBin opMul (cLst (aCons (cVar 4) aNil)) (cC (.int 3))) aNil))) (cAnd (cBin opEq2 (cCall fRepr2 (aCons (cVar 2) aNil)) (cCall fRepr2 (aCons (cLst (aCons (cVar 0) (aCons (cVar 0) aNil))) aNil))) (cBin opEq2 (cCall fRepr2 (aCons (cVar 0) aNil)) (cVar 3))))))))
def f_l_right (V : FV) : FN := runB ps_l_right.length N_l_right.length (b_l_right V)
abbrev st_law : Stmt := top 55
abbrev N_law : List Str := [("_law_script" : Str), ("_law_hand" : Str), ("_law_some" : Str), ("_law_it" : Str), ("_law_turn" : Str)]
abbrev ps_law : List Str := [("_law_script" : Str)]
theorem sc_law : FnScope N_law ps_law (defScope st_law) := ⟨rfl, rfl, rfl, by decide +kernel, rfl, by decide +kernel, by decide +kernel⟩
theorem bd_law : Bd ("law" : Str) st_law ps_law := fun _ _ _ _ _ _ us hl => match us, hl with | [_], _ => rfl
def b_law (V : FV) : SF := (sSeq (sSet 1 (cFn f_l_begun (aCons (cVar 0) aNil)))
    (sSeq (sSet 2 (cBin opAdd (cBin opAdd (cComp (iRange1 (cC (.int 10))) (gN 4) tYes' (cFn (f_l_drawn 30) (aCons (cVar 1) (aCons (cC (.int 3)) aNil))) [4]) (cFn f_l_greatest (aCons (cVar 1) aNil))) (cFn f_l_alike_looks aNil)))
    (sSeq (sSet 2 (cBin opAdd (cBin opAdd (cVar 2) (cComp (iRange1 (cC (.int 6))) (gN 4) tYes' (cFn f_l_signs (aCons (cVar 1) aNil)) [4])) (cLst (aCons (cTup (aCons (cC (.str ("row" : Str))) (aCons (cCall fTuple (aCons (cComp (iRange1 (cC (.int 3))) (gN 4) tYes' (cFn f_l_signs (aCons (cVar 1) aNil)) [4]) aNil)) aNil))) aNil))))
    (sRet (cBin opEq2 (cComp (iAny (cBin opAdd (cVar 2) (cRev (cVar 2)))) (gN 3) (tNot' (tVal (cFn (f_l_right V) (aCons (cVar 3) aNil)))) (cVar 3) [3]) (cLst aNil))))))
def f_law (V : FV) : FN := runB ps_law.length N_law.length (b_law V)
theorem bk_show_worth_0 : BdK ("show_worth" : Str) st_show_worth ps_show_worth [("worth" : Str)] 0 (fun _ ws => pm0 ws) := fun _ _ _ _ _ _ us ws h1 h2 => match us, ws, h1, h2 with | [], [_], _, _ => rfl
theorem bk_read_worth_0 : BdK ("read_worth" : Str) st_read_worth ps_read_worth [("text" : Str)] 0 (fun _ ws => pm0 ws) := fun _ _ _ _ _ _ us ws h1 h2 => match us, ws, h1, h2 with | [], [_], _, _ => rfl
structure Txt (K : PySem.W.Frag) (mg : Str → Option Value) : Prop where
  b_all : mg ("all" : Str) = none
  b_bool : mg ("bool" : Str) = none
  b_int : mg ("int" : Str) = none
  b_isinstance : mg ("isinstance" : Str) = none
  b_len : mg ("len" : Str) = none
  b_list : mg ("list" : Str) = none
  b_ord : mg ("ord" : Str) = none
  b_range : mg ("range" : Str) = none
  b_repr : mg ("repr" : Str) = none
  b_str : mg ("str" : Str) = none
  b_tuple : mg ("tuple" : Str) = none
  g_GREATEST : ∃ u, mg ("GREATEST" : Str) = some u ∧ RelV (.int 1000000000000000) u
  g_MOST_FIGURES : ∃ u, mg ("MOST_FIGURES" : Str) = some u ∧ RelV (.int 16) u
  g_MOST_OPEN : ∃ u, mg ("MOST_OPEN" : Str) = some u ∧ RelV (.int 160) u
  g_NAME_SIGNS : ∃ u, mg ("NAME_SIGNS" : Str) = some u ∧ RelV (.int 8) u
  g_PARTING_SIGNS : ∃ u, mg ("PARTING_SIGNS" : Str) = some u ∧ RelV (.str ("()[] '" : Str)) u
  g_PERCENT : ∃ u, mg ("PERCENT" : Str) = some u ∧ RelV (.int 37) u
  g_QUOTE : ∃ u, mg ("QUOTE" : Str) = some u ∧ RelV (.int 39) u
  g_ROWS_DEEP : ∃ u, mg ("ROWS_DEEP" : Str) = some u ∧ RelV (.int 8) u
  g_ROW_PARTS : ∃ u, mg ("ROW_PARTS" : Str) = some u ∧ RelV (.int 40) u
  g_TEXT_SIGNS : ∃ u, mg ("TEXT_SIGNS" : Str) = some u ∧ RelV (.int 20) u
  g_WORTHS_IN_ALL : ∃ u, mg ("WORTHS_IN_ALL" : Str) = some u ∧ RelV (.int 200) u
structure HV (K : PySem.W.Frag) (w : World) (V : FV) (mg : Str → Option Value) : Prop where
  md_CLOSED : mg ("CLOSED" : Str) = some (.ref V.d_CLOSED)
  td_CLOSED : KTab K w V.d_CLOSED tab_CLOSED
  md_WORDS : mg ("WORDS" : Str) = some (.ref V.d_WORDS)
  td_WORDS : KTab K w V.d_WORDS tab_WORDS
  m_is_single : mg ("is_single" : Str) = some (.ref V.a_is_single)
section
variable {P : Program} {w : World} {K : PySem.W.Frag} {mg : Str → Option Value} {base : Heap} {cls ts : List Addr}
theorem ok_l_begun (T : Txt K mg) {f : Addr} {cdv : Value} {fd : FuncData} (D : Kd K mg ("_law_begun" : Str) st_l_begun f cdv fd) : Ca P w K mg base cls ts 1 ("_law_begun" : Str) st_l_begun ps_l_begun f_l_begun :=
  ⟨f, cdv, fd, D, D.fn sc_l_begun fun A outer s H E hg hr tk =>
    (ss_cons (s_par2 (i := 2) (j := 3) rfl sc_l_begun.nd rfl rfl (by decide) rfl rfl (e_callTy call_list_of list_ok (by rfl) T.b_list boot_list (a_cons (e_cut (e_var 0) o_none (o_some e_int)) a_nil)) e_int rfl)
    (ss_cons (s_for (passes_of rfl) rfl (i_any (e_var 2)) (g_name (i := 1) sc_l_begun.nd rfl (Or.inl rfl)) (ss_one (s_set (i := 3) sc_l_begun.nd rfl (Or.inl rfl) (e_bin op_modN opMod_ok (e_bin op_addM opAdd_ok (e_bin op_addM opAdd_ok (e_bin op_mulM opMul_ok (e_var 3) e_int) (e_bin op_modN opMod_ok (e_var 1) e_int)) e_int) e_int))))
    (ss_one (s_ret (e_lst (a_cons (e_rev (e_var 2)) (a_cons (e_var 3) (a_cons e_int a_nil))))))))⟩
theorem ok_l_alike_looks (T : Txt K mg) {f : Addr} {cdv : Value} {fd : FuncData} (D : Kd K mg ("_law_alike_looks" : Str) st_l_alike_looks f cdv fd) : Ca P w K mg base cls ts 1 ("_law_alike_looks" : Str) st_l_alike_looks ps_l_alike_looks f_l_alike_looks :=
  ⟨f, cdv, fd, D, D.fn sc_l_alike_looks fun A outer s H E hg hr tk =>
    (ss_cons (s_set (i := 0) sc_l_alike_looks.nd rfl (Or.inl rfl) (e_lst (a_cons (e_tup (a_cons e_str (a_cons e_int a_nil))) (a_cons (e_tup (a_cons e_str (a_cons e_str (a_cons e_str a_nil)))) (a_cons (e_tup (a_cons e_str (a_cons e_str (a_cons e_str a_nil)))) (a_cons (e_tup (a_cons e_str (a_cons e_int a_nil))) (a_cons (e_tup (a_cons e_str (a_cons (e_tup (a_cons e_str (a_cons (e_tup a_nil) a_nil))) a_nil))) (a_cons (e_tup (a_cons e_str a_nil)) a_nil))))))))
    (ss_one (s_ret (e_comp (own := [(("_law_parts" : Str), 1)]) rfl sc_l_alike_looks.nd (i_any (e_var 0)) (blkOk_by (N := N_l_alike_looks) (sc := defScope st_l_alike_looks) (by decide +kernel)) (by decide) (fun _ _ _ _ _ => (g_name (i := 1) sc_l_alike_looks.nd rfl (Or.inl rfl))) (fun _ _ _ _ _ => ts_nil) (fun _ _ _ _ _ => (e_tup (a_cons e_str (a_cons (e_var 1) a_nil))))))))⟩
theorem ok_l_dealt (T : Txt K mg) {f : Addr} {cdv : Value} {fd : FuncData} (D : Kd K mg ("_law_dealt" : Str) st_l_dealt f cdv fd) : Ca P w K mg base cls ts 1 ("_law_dealt" : Str) st_l_dealt ps_l_dealt f_l_dealt :=
  ⟨f, cdv, fd, D, D.fn sc_l_dealt fun A outer s H E hg hr tk =>
    (ss_cons (s_put (e_bin op_addM opAdd_ok (e_ix (e_var 0) e_int) e_int) (e_var 0) e_int)
    (ss_cons (s_set (i := 2) sc_l_dealt.nd rfl (Or.inl rfl) (e_ix (e_var 0) e_int))
    (ss_cons (s_if (t_cmp (op_neM hr.units) opNe_ok (e_ix (e_var 0) e_int) (e_lst a_nil) (by rfl))
      (ss_cons (s_set (i := 2) sc_l_dealt.nd rfl (Or.inl rfl) (e_meth0 (.inl rfl) PySem.F.plainAttrs_list PySem.F.slot_list_pop PySem.F.type_list_pop mt_pop pop_ok (e_ix (e_var 0) e_int)))
    (ss_one (s_if (t_cmp op_geM opGe_ok (e_var 2) (e_bin op_pow opPow_ok e_int e_int) (by rfl))
      (ss_cons (s_expr (e_meth (.inl rfl) PySem.F.plainAttrs_list PySem.F.slot_list_append PySem.F.type_list_append mt_append append_ok (e_ix (e_var 0) e_int) (a_cons (e_bin op_fdivN opFdiv_ok (e_var 2) (e_var 1)) a_nil)))
    (ss_one (s_ret (e_bin op_modN opMod_ok (e_var 2) (e_var 1)))))
      ss_nil)))
      ss_nil)
    (ss_cons (s_set (i := 3) sc_l_dealt.nd rfl (Or.inl rfl) (e_bin op_addM opAdd_ok (e_bin op_addM opAdd_ok (e_bin op_addM opAdd_ok (e_bin op_modN opMod_ok (e_var 2) e_int) (e_bin op_mulM opMul_ok (e_bin op_mulM opMul_ok e_int (e_ix (e_var 0) e_int)) (e_ix (e_var 0) e_int))) (e_ix (e_var 0) e_int)) e_int))
    (ss_cons (s_set (i := 3) sc_l_dealt.nd rfl (Or.inl rfl) (e_bin op_modN opMod_ok (e_bin op_mulM opMul_ok (e_var 3) e_int) e_int))
    (ss_cons (s_set (i := 3) sc_l_dealt.nd rfl (Or.inl rfl) (e_bin op_modN opMod_ok (e_bin op_addM opAdd_ok (e_bin op_addM opAdd_ok (e_bin op_mulM opMul_ok (e_var 3) (e_var 3)) (e_bin op_mulM opMul_ok e_int (e_ix (e_var 0) e_int))) e_int) e_int))
    (ss_one (s_ret (e_bin op_modN opMod_ok (e_bin op_fdivN opFdiv_ok (e_bin op_modN opMod_ok (e_bin op_mulM opMul_ok (e_var 3) (e_bin op_addM opAdd_ok (e_bin op_fdivN opFdiv_ok (e_var 3) e_int) e_int)) e_int) e_int) (e_var 1))))))))))⟩
theorem ok_l_pick (T : Txt K mg) (C_l_dealt : Ca P w K mg base cls ts 1 ("_law_dealt" : Str) st_l_dealt ps_l_dealt f_l_dealt) {f : Addr} {cdv : Value} {fd : FuncData} (D : Kd K mg ("_law_pick" : Str) st_l_pick f cdv fd) : Ca P w K mg base cls ts 2 ("_law_pick" : Str) st_l_pick ps_l_pick f_l_pick :=
  ⟨f, cdv, fd, D, D.fn sc_l_pick fun A outer s H E hg hr tk =>
    (ss_one (s_ret (e_ix (e_var 1) (e_ca C_l_dealt bd_l_dealt hg (hr.mono (by decide)) tk (by rfl) (a_cons (e_var 0) (a_cons (e_callB call_lenM len_ok (by rfl) T.b_len PySem.boot_len (a_cons (e_var 1) a_nil)) a_nil))))))⟩
theorem ok_l_label (T : Txt K mg) (C_l_pick : Ca P w K mg base cls ts 2 ("_law_pick" : Str) st_l_pick ps_l_pick f_l_pick) {f : Addr} {cdv : Value} {fd : FuncData} (D : Kd K mg ("_law_label" : Str) st_l_label f cdv fd) : Ca P w K mg base cls ts 3 ("_law_label" : Str) st_l_label ps_l_label f_l_label :=
  ⟨f, cdv, fd, D, D.fn sc_l_label fun A outer s H E hg hr tk =>
    (ss_one (s_ret (e_ca C_l_pick bd_l_pick hg (hr.mono (by decide)) tk (by rfl) (a_cons (e_var 0) (a_cons (e_lst (a_cons e_str (a_cons e_str (a_cons e_str (a_cons e_str (a_cons e_str (a_cons e_str (a_cons e_str (a_cons e_str a_nil))))))))) a_nil)))))⟩
theorem ok_l_leaf (T : Txt K mg) (C_l_dealt : Ca P w K mg base cls ts 1 ("_law_dealt" : Str) st_l_dealt ps_l_dealt f_l_dealt) (C_l_pick : Ca P w K mg base cls ts 2 ("_law_pick" : Str) st_l_pick ps_l_pick f_l_pick) (C_l_label : Ca P w K mg base cls ts 3 ("_law_label" : Str) st_l_label ps_l_label f_l_label) {f : Addr} {cdv : Value} {fd : FuncData} (D : Kd K mg ("_law_leaf" : Str) st_l_leaf f cdv fd) : Ca P w K mg base cls ts 4 ("_law_leaf" : Str) st_l_leaf ps_l_leaf f_l_leaf :=
  ⟨f, cdv, fd, D, D.fn sc_l_leaf fun A outer s H E hg hr tk =>
    (ss_cons (s_par2 (i := 3) (j := 4) rfl sc_l_leaf.nd rfl rfl (by decide) rfl rfl (e_ca C_l_dealt bd_l_dealt hg (hr.mono (by decide)) tk (by rfl) (a_cons (e_var 0) (a_cons e_int a_nil))) (e_ca C_l_pick bd_l_pick hg (hr.mono (by decide)) tk (by rfl) (a_cons (e_var 0) (a_cons (e_lst (a_cons e_int (a_cons e_int (a_cons e_int (a_cons e_int (a_cons e_int (a_cons e_int (a_cons e_int (a_cons (e_bin op_pow opPow_ok e_int e_int) a_nil))))))))) a_nil))) rfl)
    (ss_cons (s_set (i := 1) sc_l_leaf.nd rfl (Or.inl rfl) (e_lst (a_cons e_str (a_cons e_str (a_cons e_str (a_cons e_str (a_cons e_str (a_cons e_str (a_cons e_str (a_cons e_str (a_cons e_str (a_cons e_str (a_cons e_str (a_cons e_str (a_cons e_str a_nil)))))))))))))))
    (ss_cons (s_expr (e_meth (.inl rfl) PySem.F.plainAttrs_list PySem.F.slot_list_append PySem.F.type_list_append mt_append append_ok (e_var 1) (a_cons e_str a_nil)))
    (ss_cons (s_par3 (i := 5) (j := 6) (k := 7) rfl sc_l_leaf.nd rfl rfl rfl (by decide) (by decide) (by decide) rfl rfl rfl (e_ca C_l_pick bd_l_pick hg (hr.mono (by decide)) tk (by rfl) (a_cons (e_var 0) (a_cons (e_var 1) a_nil))) (e_ca C_l_label bd_l_label hg (hr.mono (by decide)) tk (by rfl) (a_cons (e_var 0) a_nil)) (e_ca C_l_label bd_l_label hg (hr.mono (by decide)) tk (by rfl) (a_cons (e_var 0) a_nil)) rfl)
    (ss_cons (s_set (i := 2) sc_l_leaf.nd rfl (Or.inl rfl) (e_lst (a_cons e_non (a_cons e_bl (a_cons e_bl (a_cons (e_var 4) (a_cons (e_bin op_subM opSub_ok e_int (e_var 4)) (a_cons (e_var 5) (a_cons (e_tup (a_cons e_str (a_cons (e_var 4) a_nil))) a_nil)))))))))
    (ss_one (s_ret (e_ix (e_bin op_addM opAdd_ok (e_var 2) (e_lst (a_cons (e_tup (a_cons (e_ix (e_lst (a_cons e_str (a_cons e_str a_nil))) (e_ca C_l_dealt bd_l_dealt hg (hr.mono (by decide)) tk (by rfl) (a_cons (e_var 0) (a_cons e_int a_nil)))) (a_cons (e_var 6) (a_cons (e_var 7) a_nil)))) a_nil))) (e_var 3)))))))))⟩
theorem ok_l_drawn (T : Txt K mg) (C_l_dealt : Ca P w K mg base cls ts 1 ("_law_dealt" : Str) st_l_dealt ps_l_dealt f_l_dealt) (C_l_leaf : Ca P w K mg base cls ts 4 ("_law_leaf" : Str) st_l_leaf ps_l_leaf f_l_leaf) (C_l_pick : Ca P w K mg base cls ts 2 ("_law_pick" : Str) st_l_pick ps_l_pick f_l_pick) (C_l_alike_looks : Ca P w K mg base cls ts 1 ("_law_alike_looks" : Str) st_l_alike_looks ps_l_alike_looks f_l_alike_looks) {f : Addr} {cdv : Value} {fd : FuncData} (D : Kd K mg ("_law_drawn" : Str) st_l_drawn f cdv fd) : ∀ n : Nat, Ca P w K mg base cls ts (4 + n) ("_law_drawn" : Str) st_l_drawn ps_l_drawn (f_l_drawn n)
  | 0 => ⟨f, cdv, fd, D, FnG.zero⟩
  | n + 1 => by
    have C_l_drawn := ok_l_drawn T C_l_dealt C_l_leaf C_l_pick C_l_alike_looks D n
    exact ⟨f, cdv, fd, D, D.fn sc_l_drawn fun A outer s H E hg hr tk =>
      (ss_cons (s_set (i := 2) sc_l_drawn.nd rfl (Or.inl rfl) (e_ca C_l_dealt bd_l_dealt hg (hr.mono (Nat.le_trans (by decide : 1 ≤ 4) (Nat.le_add_right _ _))) tk (by rfl) (a_cons (e_var 0) (a_cons e_int a_nil))))
    (ss_cons (s_if (t_pw (w_or (t_cmp (op_eq2 hr.units) opEq2_ok (e_var 1) e_int (by rfl)) (w_or1 (t_cmp op_ltM opLt_ok (e_var 2) e_int (by rfl)))))
      (ss_one (s_ret (e_ca C_l_leaf bd_l_leaf hg (hr.mono (Nat.le_trans (by decide : 4 ≤ 4) (Nat.le_add_right _ _))) tk (by rfl) (a_cons (e_var 0) a_nil))))
      ss_nil)
    (ss_cons (s_if (t_cmp (op_eq2 hr.units) opEq2_ok (e_var 2) e_int (by rfl))
      (ss_one (s_ret (e_ca C_l_pick bd_l_pick hg (hr.mono (Nat.le_trans (by decide : 2 ≤ 4) (Nat.le_add_right _ _))) tk (by rfl) (a_cons (e_var 0) (a_cons (e_ca0 C_l_alike_looks bd_l_alike_looks hg (hr.mono (Nat.le_trans (by decide : 1 ≤ 4) (Nat.le_add_right _ _))) tk (by rfl)) a_nil)))))
      ss_nil)
    (ss_one (s_ret (e_tup (a_cons e_str (a_cons (e_callTy call_tuple_of tuple_ok (by rfl) T.b_tuple boot_tuple (a_cons (e_comp (own := [(("_law_turn" : Str), 3)]) rfl sc_l_drawn.nd (i_range1 (by rfl) T.b_range (e_ca C_l_dealt bd_l_dealt hg (hr.mono (Nat.le_trans (by decide : 1 ≤ 4) (Nat.le_add_right _ _))) tk (by rfl) (a_cons (e_var 0) (a_cons e_int a_nil)))) (blkOk_by (N := N_l_drawn) (sc := defScope st_l_drawn) (by decide +kernel)) (by decide) (fun _ _ _ _ _ => (g_name (i := 3) sc_l_drawn.nd rfl (Or.inl rfl))) (fun _ _ _ _ _ => ts_nil) (fun _ _ _ _ _ => (e_ca C_l_drawn bd_l_drawn hg hr L2.takes0 (by rfl) (a_cons (e_var 0) (a_cons (e_bin op_subM opSub_ok (e_var 1) e_int) a_nil))))) a_nil)) a_nil))))))))⟩
theorem ok_l_chain (T : Txt K mg) {f : Addr} {cdv : Value} {fd : FuncData} (D : Kd K mg ("_law_chain" : Str) st_l_chain f cdv fd) : Ca P w K mg base cls ts 1 ("_law_chain" : Str) st_l_chain ps_l_chain f_l_chain :=
  ⟨f, cdv, fd, D, D.fn sc_l_chain fun A outer s H E hg hr tk =>
    (ss_cons (s_for (passes_of rfl) rfl (i_range1 (by rfl) T.b_range (e_var 1)) (g_name (i := 2) sc_l_chain.nd rfl (Or.inl rfl)) (ss_one (s_set (i := 0) sc_l_chain.nd rfl (Or.inl rfl) (e_tup (a_cons e_str (a_cons (e_tup (a_cons (e_var 0) a_nil)) a_nil))))))
    (ss_one (s_ret (e_var 0))))⟩
theorem ok_l_wide (T : Txt K mg) {f : Addr} {cdv : Value} {fd : FuncData} (D : Kd K mg ("_law_wide" : Str) st_l_wide f cdv fd) : Ca P w K mg base cls ts 1 ("_law_wide" : Str) st_l_wide ps_l_wide f_l_wide :=
  ⟨f, cdv, fd, D, D.fn sc_l_wide fun A outer s H E hg hr tk =>
    (ss_one (s_ret (e_tup (a_cons e_str (a_cons (e_bin op_mulM opMul_ok (e_tup (a_cons (e_var 0) a_nil)) (e_var 1)) a_nil)))))⟩
theorem ok_l_greatest (T : Txt K mg) (C_l_leaf : Ca P w K mg base cls ts 4 ("_law_leaf" : Str) st_l_leaf ps_l_leaf f_l_leaf) (C_l_chain : Ca P w K mg base cls ts 1 ("_law_chain" : Str) st_l_chain ps_l_chain f_l_chain) (C_l_wide : Ca P w K mg base cls ts 1 ("_law_wide" : Str) st_l_wide ps_l_wide f_l_wide) {f : Addr} {cdv : Value} {fd : FuncData} (D : Kd K mg ("_law_greatest" : Str) st_l_greatest f cdv fd) : Ca P w K mg base cls ts 5 ("_law_greatest" : Str) st_l_greatest ps_l_greatest f_l_greatest :=
  ⟨f, cdv, fd, D, D.fn sc_l_greatest fun A outer s H E hg hr tk =>
    (ss_cons (s_par2 (i := 2) (j := 3) rfl sc_l_greatest.nd rfl rfl (by decide) rfl rfl (e_ca C_l_leaf bd_l_leaf hg (hr.mono (by decide)) tk (by rfl) (a_cons (e_var 0) a_nil)) (e_ca C_l_leaf bd_l_leaf hg (hr.mono (by decide)) tk (by rfl) (a_cons (e_var 0) a_nil)) rfl)
    (ss_cons (s_set (i := 1) sc_l_greatest.nd rfl (Or.inl rfl) (e_lst (a_cons (e_ca C_l_chain bd_l_chain hg (hr.mono (by decide)) tk (by rfl) (a_cons (e_var 2) (a_cons e_int a_nil))) (a_cons (e_ca C_l_wide bd_l_wide hg (hr.mono (by decide)) tk (by rfl) (a_cons (e_var 2) (a_cons e_int a_nil))) (a_cons (e_ca C_l_chain bd_l_chain hg (hr.mono (by decide)) tk (by rfl) (a_cons (e_ca C_l_wide bd_l_wide hg (hr.mono (by decide)) tk (by rfl) (a_cons (e_var 2) (a_cons e_int a_nil))) (a_cons e_int a_nil))) a_nil)))))
    (ss_one (s_ret (e_bin op_addM opAdd_ok (e_var 1) (e_lst (a_cons (e_tup (a_cons e_str (a_cons (e_bin op_addM opAdd_ok (e_bin op_mulM opMul_ok (e_tup (a_cons (e_ca C_l_wide bd_l_wide hg (hr.mono (by decide)) tk (by rfl) (a_cons (e_var 2) (a_cons e_int a_nil))) a_nil)) e_int) (e_bin op_mulM opMul_ok (e_tup (a_cons (e_var 3) a_nil)) e_int)) a_nil))) a_nil)))))))⟩
theorem ok_l_signs (T : Txt K mg) (C_l_dealt : Ca P w K mg base cls ts 1 ("_law_dealt" : Str) st_l_dealt ps_l_dealt f_l_dealt) (C_l_pick : Ca P w K mg base cls ts 2 ("_law_pick" : Str) st_l_pick ps_l_pick f_l_pick) {f : Addr} {cdv : Value} {fd : FuncData} (D : Kd K mg ("_law_signs" : Str) st_l_signs f cdv fd) : Ca P w K mg base cls ts 3 ("_law_signs" : Str) st_l_signs ps_l_signs f_l_signs :=
  ⟨f, cdv, fd, D, D.fn sc_l_signs fun A outer s H E hg hr tk =>
    (ss_cons (s_set (i := 1) sc_l_signs.nd rfl (Or.inr rfl) e_str)
    (ss_one (s_ret (e_meth (.inr (.inl rfl)) PySem.F.plainAttrs_str PySem.F.slot_str_join PySem.F.type_str_join mt_join join_ok e_str (a_cons (e_comp (own := [(("_law_turn" : Str), 2)]) rfl sc_l_signs.nd (i_range1 (by rfl) T.b_range (e_ca C_l_dealt bd_l_dealt hg (hr.mono (by decide)) tk (by rfl) (a_cons (e_var 0) (a_cons e_int a_nil)))) (blkOk_by (N := N_l_signs) (sc := defScope st_l_signs) (by decide +kernel)) (by decide) (fun _ _ _ _ _ => (g_name (i := 2) sc_l_signs.nd rfl (Or.inl rfl))) (fun _ _ _ _ _ => ts_nil) (fun _ _ _ _ _ => (e_ca C_l_pick bd_l_pick hg (hr.mono (by decide)) L2.takes0 (by rfl) (a_cons (e_var 0) (a_cons (e_var 1) a_nil))))) a_nil)))))⟩
theorem ok_show_compound (T : Txt K mg) {k : Nat} {c1 : FN} (C_show_worth : Ca P w K mg base cls ts k ("show_worth" : Str) st_show_worth ps_show_worth c1) {f : Addr} {cdv : Value} {fd : FuncData} (D : Kd K mg ("show_compound" : Str) st_show_compound f cdv fd) : Ca P w K mg base cls ts (k + 1) ("show_compound" : Str) st_show_compound ps_show_compound (f_show_compound c1) :=
  ⟨f, cdv, fd, D, D.fn sc_show_compound fun A outer s H E hg hr tk =>
    (ss_cons (s_star (i := 2) (j := 3) rfl sc_show_compound.nd rfl rfl (Or.inl rfl) (Or.inl rfl) (e_var 0))
    (ss_cons (s_if (t_cmp (op_eq2 hr.units) opEq2_ok (e_var 2) e_str (by rfl))
      (ss_one (s_ret (e_bin op_addM opAdd_ok (e_bin op_addM opAdd_ok e_str (e_meth (.inr (.inl rfl)) PySem.F.plainAttrs_str PySem.F.slot_str_join PySem.F.type_str_join mt_join join_ok e_str (a_cons (e_comp (own := [(("part" : Str), 4)]) rfl sc_show_compound.nd (i_any (e_ix (e_var 3) e_int)) (blkOk_by (N := N_show_compound) (sc := defScope st_show_compound) (by decide +kernel)) (by decide) (fun _ _ _ _ _ => (g_name (i := 4) sc_show_compound.nd rfl (Or.inl rfl))) (fun _ _ _ _ _ => ts_nil) (fun _ _ _ _ _ => (e_ca C_show_worth bd_show_worth hg hr L2.takes0 (by rfl) (a_cons (e_var 4) a_nil)))) a_nil))) e_str)))
      ss_nil)
    (ss_cons (s_if (t_cmp (op_eq2 hr.units) opEq2_ok (e_var 2) e_str (by rfl))
      (ss_one (s_ret (e_bin op_addM opAdd_ok e_str (e_callTy call_str_int strI_ok (by rfl) T.b_str boot_str (a_cons (e_ix (e_var 3) e_int) a_nil)))))
      ss_nil)
    (ss_cons (s_set (i := 1) sc_show_compound.nd rfl (Or.inl rfl) (e_ifExp (t_cmp (op_eq2 hr.units) opEq2_ok (e_var 2) e_str (by rfl)) e_str e_str))
    (ss_one (s_ret (e_meth (.inr (.inl rfl)) PySem.F.plainAttrs_str PySem.F.slot_str_join PySem.F.type_str_join mt_join join_ok (e_var 1) (a_cons (e_var 3) a_nil))))))))⟩
theorem ok_show_worth (T : Txt K mg) {fa : Addr} {cda : Value} {fda : FuncData} (Da : Kd K mg ("show_compound" : Str) st_show_compound fa cda fda) {f : Addr} {cdv : Value} {fd : FuncData} (D : Kd K mg ("show_worth" : Str) st_show_worth f cdv fd) : ∀ n : Nat, Ca P w K mg base cls ts (2 * n) ("show_worth" : Str) st_show_worth ps_show_worth (f_show_worth n)
  | 0 => ⟨f, cdv, fd, D, FnG.zero⟩
  | n + 1 => by
    have C_show_compound := ok_show_compound T (ok_show_worth T Da D n) Da
    show Ca P w K mg base cls ts ((2 * n + 1) + 1) ("show_worth" : Str) st_show_worth ps_show_worth (f_show_worth (n + 1))
    exact
  ⟨f, cdv, fd, D, D.fn sc_show_worth fun A outer s H E hg hr tk =>
    (ss_cons (s_if (t_cmp op_isM opIs_ok (e_var 0) e_non (by rfl))
      (ss_one (s_ret e_str))
      ss_nil)
    (ss_cons (s_if (t_val (e_callB call_isi isi_ok (by rfl) T.b_isinstance (by decide +kernel) (a_cons (e_var 0) (a_cons (e_bty (by rfl) T.b_bool boot_bool) a_nil))))
      (ss_one (s_ret (e_ifExp (t_tru (e_var 0)) e_str e_str)))
      ss_nil)
    (ss_cons (s_if (t_val (e_callB call_isi isi_ok (by rfl) T.b_isinstance (by decide +kernel) (a_cons (e_var 0) (a_cons (e_bty (by rfl) T.b_int boot_int) a_nil))))
      (ss_one (s_ret (e_callTy call_str_int strI_ok (by rfl) T.b_str boot_str (a_cons (e_var 0) a_nil))))
      ss_nil)
    (ss_cons (s_if (t_val (e_callB call_isi isi_ok (by rfl) T.b_isinstance (by decide +kernel) (a_cons (e_var 0) (a_cons (e_bty (by rfl) T.b_str boot_str) a_nil))))
      (ss_one (s_ret (e_fq (e_var 0))))
      ss_nil)
    (ss_one (s_ret (e_ca C_show_compound bd_show_compound hg hr tk (by rfl) (a_cons (e_var 0) a_nil))))))))⟩
theorem ok_end_of_quoted (T : Txt K mg) {f : Addr} {cdv : Value} {fd : FuncData} (D : Kd K mg ("end_of_quoted" : Str) st_end_of_quoted f cdv fd) : Ca P w K mg base cls ts 1 ("end_of_quoted" : Str) st_end_of_quoted ps_end_of_quoted f_end_of_quoted :=
  ⟨f, cdv, fd, D, D.fn sc_end_of_quoted fun A outer s H E hg hr tk =>
    (ss_cons (s_set (i := 2) sc_end_of_quoted.nd rfl (Or.inl rfl) (e_meth (.inr (.inl rfl)) PySem.F.plainAttrs_str PySem.F.slot_str_find PySem.F.type_str_find mt_find3 find3_ok (e_var 0) (a_cons e_str (a_cons (e_bin op_addM opAdd_ok (e_var 1) e_int) a_nil))))
    (ss_cons (s_if (t_cmp op_ltM opLt_ok (e_var 2) e_int (by rfl))
      (ss_one s_stuck)
      ss_nil)
    (ss_one (s_ret (e_bin op_addM opAdd_ok (e_var 2) e_int)))))⟩
theorem ok_end_of_piece (T : Txt K mg) (C_end_of_quoted : Ca P w K mg base cls ts 1 ("end_of_quoted" : Str) st_end_of_quoted ps_end_of_quoted f_end_of_quoted) {f : Addr} {cdv : Value} {fd : FuncData} (D : Kd K mg ("end_of_piece" : Str) st_end_of_piece f cdv fd) : Ca P w K mg base cls ts 2 ("end_of_piece" : Str) st_end_of_piece ps_end_of_piece f_end_of_piece :=
  ⟨f, cdv, fd, D, D.fn sc_end_of_piece fun A outer s H E hg hr tk =>
    (ss_cons (s_if (t_cmp (op_eq2 hr.units) opEq2_ok (e_ix (e_var 0) (e_var 1)) e_str (by rfl))
      (ss_one (s_ret (e_ca C_end_of_quoted bd_end_of_quoted hg (hr.mono (by decide)) tk (by rfl) (a_cons (e_var 0) (a_cons (e_var 1) a_nil)))))
      ss_nil)
    (ss_cons (s_set (i := 2) sc_end_of_piece.nd rfl (Or.inl rfl) (e_bin op_addM opAdd_ok (e_var 1) e_int))
    (ss_cons (s_if (t_cmp (op_in2 (hu65 hr)) opIn2_ok (e_ix (e_var 0) (e_var 1)) (e_globS (by rfl) T.g_PARTING_SIGNS) (by rfl))
      (ss_one (s_ret (e_var 2)))
      ss_nil)
    (ss_cons (s_while (passes_of rfl) (t_pw (w_and (t_cmp op_ltM opLt_ok (e_var 2) (e_callB call_lenM len_ok (by rfl) T.b_len PySem.boot_len (a_cons (e_var 0) a_nil)) (by rfl)) (w_and1 (t_cmp (op_notIn2 (hu65 hr)) opNotIn2_ok (e_ix (e_var 0) (e_var 2)) (e_globS (by rfl) T.g_PARTING_SIGNS) (by rfl))))) (ss_one (s_aug (i := 2) sc_end_of_piece.nd rfl (Or.inl rfl) iop_addM opIAdd_ok e_int)))
    (ss_one (s_ret (e_var 2)))))))⟩
theorem ok_pieces_of (T : Txt K mg) (C_end_of_piece : Ca P w K mg base cls ts 2 ("end_of_piece" : Str) st_end_of_piece ps_end_of_piece f_end_of_piece) {f : Addr} {cdv : Value} {fd : FuncData} (D : Kd K mg ("pieces_of" : Str) st_pieces_of f cdv fd) : Ca P w K mg base cls ts 3 ("pieces_of" : Str) st_pieces_of ps_pieces_of f_pieces_of :=
  ⟨f, cdv, fd, D, D.fn sc_pieces_of fun A outer s H E hg hr tk =>
    (ss_cons (s_set (i := 1) sc_pieces_of.nd rfl (Or.inl rfl) (e_lst a_nil))
    (ss_cons (s_set (i := 2) sc_pieces_of.nd rfl (Or.inl rfl) e_int)
    (ss_cons (s_while (passes_of rfl) (t_cmp op_ltM opLt_ok (e_var 2) (e_callB call_lenM len_ok (by rfl) T.b_len PySem.boot_len (a_cons (e_var 0) a_nil)) (by rfl)) (ss_cons (s_set (i := 3) sc_pieces_of.nd rfl (Or.inl rfl) (e_ca C_end_of_piece bd_end_of_piece hg (hr.mono (by decide)) tk (by rfl) (a_cons (e_var 0) (a_cons (e_var 2) a_nil))))
    (ss_cons (s_expr (e_meth (.inl rfl) PySem.F.plainAttrs_list PySem.F.slot_list_append PySem.F.type_list_append mt_append append_ok (e_var 1) (a_cons (e_cut (e_var 0) (o_some (e_var 2)) (o_some (e_var 3))) a_nil)))
    (ss_one (s_set (i := 2) sc_pieces_of.nd rfl (Or.inl rfl) (e_var 3))))))
    (ss_one (s_ret (e_comp (own := [(("piece" : Str), 4)]) rfl sc_pieces_of.nd (i_any (e_var 1)) (blkOk_by (N := N_pieces_of) (sc := defScope st_pieces_of) (by decide +kernel)) (by decide) (fun _ _ _ _ _ => (g_name (i := 4) sc_pieces_of.nd rfl (Or.inl rfl))) (fun _ _ _ _ _ => (ts_one (t_cmp (op_neM hr.units) opNe_ok (e_var 4) e_str (by rfl)))) (fun _ _ _ _ _ => (e_var 4))))))))⟩
theorem ok_trees_of (T : Txt K mg) {V : FV} (hV : HV K w V mg) (C_pieces_of : Ca P w K mg base cls ts 3 ("pieces_of" : Str) st_pieces_of ps_pieces_of f_pieces_of) {f : Addr} {cdv : Value} {fd : FuncData} (D : Kd K mg ("trees_of" : Str) st_trees_of f cdv fd) : Ca P w K mg base cls ts 4 ("trees_of" : Str) st_trees_of ps_trees_of (f_trees_of V) :=
  ⟨f, cdv, fd, D, D.fn sc_trees_of fun A outer s H E hg hr tk =>
    (ss_cons (s_set (i := 1) sc_trees_of.nd rfl (Or.inl rfl) (e_lst (a_cons (e_tup (a_cons e_str (a_cons (e_lst a_nil) a_nil))) a_nil)))
    (ss_cons (s_for (passes_of rfl) rfl (i_any (e_ca C_pieces_of bd_pieces_of hg (hr.mono (by decide)) tk (by rfl) (a_cons (e_var 0) a_nil))) (g_name (i := 2) sc_trees_of.nd rfl (Or.inl rfl)) (ss_cons (s_if (t_cmp (op_in2 (hu65 hr)) opIn2_ok (e_var 2) (e_tup (a_cons e_str (a_cons e_str a_nil))) (by rfl))
      (ss_one (s_expr (e_meth (.inl rfl) PySem.F.plainAttrs_list PySem.F.slot_list_append PySem.F.type_list_append mt_append append_ok (e_var 1) (a_cons (e_tup (a_cons (e_var 2) (a_cons (e_lst a_nil) a_nil))) a_nil))))
      (ss_one (s_if (t_inTab hV.td_CLOSED (e_var 2) (e_fun (by rfl) hV.md_CLOSED) (by rfl))
      (ss_cons (s_asg (e_meth0 (.inl rfl) PySem.F.plainAttrs_list PySem.F.slot_list_pop PySem.F.type_list_pop mt_pop pop_ok (e_var 1)) (g_tup rfl (gs_cons (g_name (i := 3) sc_trees_of.nd rfl (Or.inl rfl)) (gs_cons (g_name (i := 4) sc_trees_of.nd rfl (Or.inl rfl)) gs_nil))))
    (ss_cons (s_if (t_cmp (op_neM hr.units) opNe_ok (e_var 3) (e_ixTab hV.td_CLOSED (e_fun (by rfl) hV.md_CLOSED) (e_var 2)) (by rfl))
      (ss_one s_stuck)
      ss_nil)
    (ss_one (s_expr (e_meth (.inl rfl) PySem.F.plainAttrs_list PySem.F.slot_list_append PySem.F.type_list_append mt_append append_ok (e_ix (e_ix (e_var 1) (e_neg e_int)) e_int) (a_cons (e_tup (a_cons (e_var 3) (a_cons (e_callTy call_tuple_of tuple_ok (by rfl) T.b_tuple boot_tuple (a_cons (e_var 4) a_nil)) a_nil))) a_nil))))))
      (ss_one (s_expr (e_meth (.inl rfl) PySem.F.plainAttrs_list PySem.F.slot_list_append PySem.F.type_list_append mt_append append_ok (e_ix (e_ix (e_var 1) (e_neg e_int)) e_int) (a_cons (e_var 2) a_nil)))))))
    (ss_one (s_if (t_cmp op_gtM opGt_ok (e_bin op_subM opSub_ok (e_callB call_lenM len_ok (by rfl) T.b_len PySem.boot_len (a_cons (e_var 1) a_nil)) e_int) (e_globE (by rfl) T.g_MOST_OPEN) (by rfl))
      (ss_one s_stuck)
      ss_nil))))
    (ss_cons (s_if (t_cmp op_gtM opGt_ok (e_callB call_lenM len_ok (by rfl) T.b_len PySem.boot_len (a_cons (e_var 1) a_nil)) e_int (by rfl))
      (ss_one s_stuck)
      ss_nil)
    (ss_one (s_ret (e_ix (e_ix (e_var 1) e_int) e_int))))))⟩
theorem ok_only_tree (T : Txt K mg) {V : FV} (hV : HV K w V mg) (C_trees_of : Ca P w K mg base cls ts 4 ("trees_of" : Str) st_trees_of ps_trees_of (f_trees_of V)) {f : Addr} {cdv : Value} {fd : FuncData} (D : Kd K mg ("only_tree" : Str) st_only_tree f cdv fd) : Ca P w K mg base cls ts 5 ("only_tree" : Str) st_only_tree ps_only_tree (f_only_tree V) :=
  ⟨f, cdv, fd, D, D.fn sc_only_tree fun A outer s H E hg hr tk =>
    (ss_cons (s_set (i := 1) sc_only_tree.nd rfl (Or.inl rfl) (e_ca C_trees_of bd_trees_of hg (hr.mono (by decide)) tk (by rfl) (a_cons (e_var 0) a_nil)))
    (ss_cons (s_if (t_cmp (op_neM hr.units) opNe_ok (e_callB call_lenM len_ok (by rfl) T.b_len PySem.boot_len (a_cons (e_var 1) a_nil)) e_int (by rfl))
      (ss_one s_stuck)
      ss_nil)
    (ss_one (s_ret (e_ix (e_var 1) e_int)))))⟩
theorem ok_is_short_row (T : Txt K mg) {f : Addr} {cdv : Value} {fd : FuncData} (D : Kd K mg ("is_short_row" : Str) st_is_short_row f cdv fd) : Ca P w K mg base cls ts 1 ("is_short_row" : Str) st_is_short_row ps_is_short_row f_is_short_row :=
  ⟨f, cdv, fd, D, D.fn sc_is_short_row fun A outer s H E hg hr tk =>
    (ss_cons (s_if (t_pw (w_or (t_not (t_val (e_callB call_isi isi_ok (by rfl) T.b_isinstance (by decide +kernel) (a_cons (e_var 0) (a_cons (e_bty (by rfl) T.b_tuple boot_tuple) a_nil))))) (w_or1 (t_cmp (op_neM hr.units) opNe_ok (e_callB call_lenM len_ok (by rfl) T.b_len PySem.boot_len (a_cons (e_var 0) a_nil)) e_int (by rfl)))))
      (ss_one (s_ret e_bl))
      ss_nil)
    (ss_cons (s_asg (e_var 0) (g_tup rfl (gs_cons (g_name (i := 1) sc_is_short_row.nd rfl (Or.inl rfl)) (gs_cons (g_name (i := 2) sc_is_short_row.nd rfl (Or.inl rfl)) gs_nil))))
    (ss_one (s_ret (e_and (e_cmp (op_eq2 hr.units) opEq2_ok (e_var 1) e_str (by rfl)) (e_and (e_callB call_isi isi_ok (by rfl) T.b_isinstance (by decide +kernel) (a_cons (e_var 2) (a_cons (e_bty (by rfl) T.b_tuple boot_tuple) a_nil))) (e_one (e_cmp op_leM opLe_ok (e_callB call_lenM len_ok (by rfl) T.b_len PySem.boot_len (a_cons (e_var 2) a_nil)) (e_globE (by rfl) T.g_ROW_PARTS) (by rfl)))))))))⟩
theorem ok_is_whole (T : Txt K mg) {f : Addr} {cdv : Value} {fd : FuncData} (D : Kd K mg ("is_whole" : Str) st_is_whole f cdv fd) : Ca P w K mg base cls ts 1 ("is_whole" : Str) st_is_whole ps_is_whole f_is_whole :=
  ⟨f, cdv, fd, D, D.fn sc_is_whole fun A outer s H E hg hr tk =>
    (ss_one (s_ret (e_and (e_callB call_isi isi_ok (by rfl) T.b_isinstance (by decide +kernel) (a_cons (e_var 0) (a_cons (e_bty (by rfl) T.b_int boot_int) a_nil))) (e_one (e_not (e_callB call_isi isi_ok (by rfl) T.b_isinstance (by decide +kernel) (a_cons (e_var 0) (a_cons (e_bty (by rfl) T.b_bool boot_bool) a_nil))))))))⟩
theorem ok_is_short_text (T : Txt K mg) {c Pt : Addr} (TB : GxR.TabB base mg c Pt) (hP : Pt ∈ ts) {f : Addr} {fd : FuncData} (D : Kd K mg ("is_short_text" : Str) st_is_short_text f (.ref c) fd) : Ca P w K mg base cls ts 1 ("is_short_text" : Str) st_is_short_text ps_is_short_text f_is_short_text :=
  ⟨f, (.ref c), fd, D, D.fn sc_is_short_text fun A outer s H E hg hr tk =>
    (ss_cons (s_if (t_pw (w_or (t_not (t_val (e_callB call_isi isi_ok (by rfl) T.b_isinstance (by decide +kernel) (a_cons (e_var 0) (a_cons (e_bty (by rfl) T.b_str boot_str) a_nil))))) (w_or1 (t_cmp op_gtM opGt_ok (e_callB call_lenM len_ok (by rfl) T.b_len PySem.boot_len (a_cons (e_var 0) a_nil)) (e_globE (by rfl) T.g_TEXT_SIGNS) (by rfl)))))
      (ss_one (s_ret e_bl))
      ss_nil)
    (ss_one (s_ret (e_allQ hr (by rfl) T.b_all TB rfl hP (genS_by2 (by decide +kernel)) (e_var 0) (elt_of (q_and (q_between rfl rfl) (q_one (q_notin2 (q_ord rfl rfl T.b_ord (q_sign rfl rfl)) (q_glob rfl rfl T.g_PERCENT) (q_glob rfl rfl T.g_QUOTE))))) (by intro _; rfl)))))⟩
theorem ok_is_plain_single (T : Txt K mg) (C_is_whole : Ca P w K mg base cls ts 1 ("is_whole" : Str) st_is_whole ps_is_whole f_is_whole) (C_is_short_text : Ca P w K mg base cls ts 1 ("is_short_text" : Str) st_is_short_text ps_is_short_text f_is_short_text) {f : Addr} {cdv : Value} {fd : FuncData} (D : Kd K mg ("is_plain_single" : Str) st_is_plain_single f cdv fd) : Ca P w K mg base cls ts 2 ("is_plain_single" : Str) st_is_plain_single ps_is_plain_single f_is_plain_single :=
  ⟨f, cdv, fd, D, D.fn sc_is_plain_single fun A outer s H E hg hr tk =>
    (ss_cons (s_if (t_pw (w_or (t_cmp op_isM opIs_ok (e_var 0) e_non (by rfl)) (w_or1 (t_val (e_callB call_isi isi_ok (by rfl) T.b_isinstance (by decide +kernel) (a_cons (e_var 0) (a_cons (e_bty (by rfl) T.b_bool boot_bool) a_nil)))))))
      (ss_one (s_ret e_bl))
      ss_nil)
    (ss_cons (s_if (t_val (e_ca C_is_whole bd_is_whole hg (hr.mono (by decide)) tk (by rfl) (a_cons (e_var 0) a_nil)))
      (ss_one (s_ret (e_chain op_leM opLe_ok op_leM opLe_ok (e_neg (e_globE (by rfl) T.g_GREATEST)) (e_var 0) (e_globE (by rfl) T.g_GREATEST))))
      ss_nil)
    (ss_one (s_ret (e_ca C_is_short_text bd_is_short_text hg (hr.mono (by decide)) tk (by rfl) (a_cons (e_var 0) a_nil))))))⟩
theorem ok_is_thing (T : Txt K mg) (C_is_whole : Ca P w K mg base cls ts 1 ("is_whole" : Str) st_is_whole ps_is_whole f_is_whole) {f : Addr} {cdv : Value} {fd : FuncData} (D : Kd K mg ("is_thing" : Str) st_is_thing f cdv fd) : Ca P w K mg base cls ts 2 ("is_thing" : Str) st_is_thing ps_is_thing f_is_thing :=
  ⟨f, cdv, fd, D, D.fn sc_is_thing fun A outer s H E hg hr tk =>
    (ss_cons (s_if (t_pw (w_or (t_not (t_val (e_callB call_isi isi_ok (by rfl) T.b_isinstance (by decide +kernel) (a_cons (e_var 0) (a_cons (e_bty (by rfl) T.b_tuple boot_tuple) a_nil))))) (w_or1 (t_cmp (op_neM hr.units) opNe_ok (e_callB call_lenM len_ok (by rfl) T.b_len PySem.boot_len (a_cons (e_var 0) a_nil)) e_int (by rfl)))))
      (ss_one (s_ret e_bl))
      ss_nil)
    (ss_cons (s_asg (e_var 0) (g_tup rfl (gs_cons (g_name (i := 1) sc_is_thing.nd rfl (Or.inl rfl)) (gs_cons (g_name (i := 2) sc_is_thing.nd rfl (Or.inl rfl)) gs_nil))))
    (ss_one (s_ret (e_and (e_cmp (op_eq2 hr.units) opEq2_ok (e_var 1) e_str (by rfl)) (e_and (e_ca C_is_whole bd_is_whole hg (hr.mono (by decide)) tk (by rfl) (a_cons (e_var 2) a_nil)) (e_one (e_chain op_leM opLe_ok op_leM opLe_ok e_int (e_var 2) (e_globE (by rfl) T.g_GREATEST)))))))))⟩
theorem ok_is_name (T : Txt K mg) {c Pt : Addr} (TB : GxR.TabB base mg c Pt) (hP : Pt ∈ ts) {f : Addr} {fd : FuncData} (D : Kd K mg ("is_name" : Str) st_is_name f (.ref c) fd) : Ca P w K mg base cls ts 1 ("is_name" : Str) st_is_name ps_is_name f_is_name :=
  ⟨f, (.ref c), fd, D, D.fn sc_is_name fun A outer s H E hg hr tk =>
    (ss_cons (s_if (t_pw (w_or (t_not (t_val (e_callB call_isi isi_ok (by rfl) T.b_isinstance (by decide +kernel) (a_cons (e_var 0) (a_cons (e_bty (by rfl) T.b_str boot_str) a_nil))))) (w_or1 (t_not (t_chain op_leM opLe_ok op_leM opLe_ok e_int (e_callB call_lenM len_ok (by rfl) T.b_len PySem.boot_len (a_cons (e_var 0) a_nil)) (e_globE (by rfl) T.g_NAME_SIGNS))))))
      (ss_one (s_ret e_bl))
      ss_nil)
    (ss_one (s_ret (e_allS hr (by rfl) T.b_all TB rfl hP (genS_by (by decide +kernel)) (e_var 0) (elt_between rfl rfl) (by intro _; rfl)))))⟩
theorem ok_is_deed_or_kind (T : Txt K mg) (C_is_name : Ca P w K mg base cls ts 1 ("is_name" : Str) st_is_name ps_is_name f_is_name) {f : Addr} {cdv : Value} {fd : FuncData} (D : Kd K mg ("is_deed_or_kind" : Str) st_is_deed_or_kind f cdv fd) : Ca P w K mg base cls ts 2 ("is_deed_or_kind" : Str) st_is_deed_or_kind ps_is_deed_or_kind f_is_deed_or_kind :=
  ⟨f, cdv, fd, D, D.fn sc_is_deed_or_kind fun A outer s H E hg hr tk =>
    (ss_cons (s_if (t_pw (w_or (t_not (t_val (e_callB call_isi isi_ok (by rfl) T.b_isinstance (by decide +kernel) (a_cons (e_var 0) (a_cons (e_bty (by rfl) T.b_tuple boot_tuple) a_nil))))) (w_or1 (t_cmp (op_neM hr.units) opNe_ok (e_callB call_lenM len_ok (by rfl) T.b_len PySem.boot_len (a_cons (e_var 0) a_nil)) e_int (by rfl)))))
      (ss_one (s_ret e_bl))
      ss_nil)
    (ss_cons (s_asg (e_var 0) (g_tup rfl (gs_cons (g_name (i := 1) sc_is_deed_or_kind.nd rfl (Or.inl rfl)) (gs_cons (g_name (i := 2) sc_is_deed_or_kind.nd rfl (Or.inl rfl)) (gs_cons (g_name (i := 3) sc_is_deed_or_kind.nd rfl (Or.inl rfl)) gs_nil)))))
    (ss_one (s_ret (e_and (e_cmp (op_in2 (hu65 hr)) opIn2_ok (e_var 1) (e_tup (a_cons e_str (a_cons e_str a_nil))) (by rfl)) (e_and (e_ca C_is_name bd_is_name hg (hr.mono (by decide)) tk (by rfl) (a_cons (e_var 2) a_nil)) (e_one (e_ca C_is_name bd_is_name hg (hr.mono (by decide)) tk (by rfl) (a_cons (e_var 3) a_nil)))))))))⟩
theorem ok_is_single (T : Txt K mg) (C_is_plain_single : Ca P w K mg base cls ts 2 ("is_plain_single" : Str) st_is_plain_single ps_is_plain_single f_is_plain_single) (C_is_thing : Ca P w K mg base cls ts 2 ("is_thing" : Str) st_is_thing ps_is_thing f_is_thing) (C_is_deed_or_kind : Ca P w K mg base cls ts 2 ("is_deed_or_kind" : Str) st_is_deed_or_kind ps_is_deed_or_kind f_is_deed_or_kind) {f : Addr} {cdv : Value} {fd : FuncData} (D : Kd K mg ("is_single" : Str) st_is_single f cdv fd) : Ca P w K mg base cls ts 3 ("is_single" : Str) st_is_single ps_is_single f_is_single :=
  ⟨f, cdv, fd, D, D.fn sc_is_single fun A outer s H E hg hr tk =>
    (ss_one (s_ret (e_or (e_ca C_is_plain_single bd_is_plain_single hg (hr.mono (by decide)) tk (by rfl) (a_cons (e_var 0) a_nil)) (e_or (e_ca C_is_thing bd_is_thing hg (hr.mono (by decide)) tk (by rfl) (a_cons (e_var 0) a_nil)) (e_one (e_ca C_is_deed_or_kind bd_is_deed_or_kind hg (hr.mono (by decide)) tk (by rfl) (a_cons (e_var 0) a_nil)))))))⟩
theorem ok_is_built_of (T : Txt K mg) {V : FV} (hV : HV K w V mg) (C_is_short_row : Ca P w K mg base cls ts 1 ("is_short_row" : Str) st_is_short_row ps_is_short_row f_is_short_row) (C_is_single : Ca P w K mg base cls ts 3 ("is_single" : Str) st_is_single ps_is_single f_is_single) {f : Addr} {cdv : Value} {fd : FuncData} (D : Kd K mg ("is_built_of" : Str) st_is_built_of f cdv fd) : Ca P w K mg base cls ts 4 ("is_built_of" : Str) st_is_built_of ps_is_built_of (f_is_built_of V) :=
  ⟨f, cdv, fd, D, D.fn sc_is_built_of fun A outer s H E hg hr tk =>
    (ss_cons (s_set (i := 2) sc_is_built_of.nd rfl (Or.inl rfl) (e_lst (a_cons (e_tup (a_cons (e_var 0) (a_cons e_int a_nil))) a_nil)))
    (ss_cons (s_set (i := 3) sc_is_built_of.nd rfl (Or.inl rfl) e_int)
    (ss_cons (s_while (passes_of rfl) (t_pw (w_and (t_tru (e_var 2)) (w_and1 (t_cmp op_leM opLe_ok (e_var 3) (e_globE (by rfl) T.g_WORTHS_IN_ALL) (by rfl))))) (ss_cons (s_asg (e_meth0 (.inl rfl) PySem.F.plainAttrs_list PySem.F.slot_list_pop PySem.F.type_list_pop mt_pop pop_ok (e_var 2)) (g_tup rfl (gs_cons (g_name (i := 4) sc_is_built_of.nd rfl (Or.inl rfl)) (gs_cons (g_name (i := 5) sc_is_built_of.nd rfl (Or.inr rfl)) gs_nil))))
    (ss_cons (s_aug (i := 3) sc_is_built_of.nd rfl (Or.inl rfl) iop_addM opIAdd_ok e_int)
    (ss_one (s_if (t_pw (w_and (t_val (e_ca C_is_short_row bd_is_short_row hg (hr.mono (by decide)) tk (by rfl) (a_cons (e_var 4) a_nil))) (w_and1 (t_cmp op_leM opLe_ok (e_var 5) (e_globE (by rfl) T.g_ROWS_DEEP) (by rfl)))))
      (ss_one (s_expr (e_meth (.inl rfl) PySem.F.plainAttrs_list PySem.F.slot_list_extend PySem.F.type_list_extend mt_extend extend_ok (e_var 2) (a_cons (e_comp (own := [(("inner" : Str), 6)]) rfl sc_is_built_of.nd (i_any (e_ix (e_var 4) e_int)) (blkOk_by (N := N_is_built_of) (sc := defScope st_is_built_of) (by decide +kernel)) (by decide) (fun _ _ _ _ _ => (g_name (i := 6) sc_is_built_of.nd rfl (Or.inl rfl))) (fun _ _ _ _ _ => ts_nil) (fun _ _ _ _ _ => (e_tup (a_cons (e_var 6) (a_cons (e_bin op_addM opAdd_ok (e_var 5) e_int) a_nil))))) a_nil))))
      (ss_one (s_if (t_not (t_val (e_callV (k := 3) (fun f c q => held_of1 C_is_single bd_is_single hV.m_is_single (by decide) f c q) hg (hr.mono (by decide)) tk rfl (a_cons (e_var 4) a_nil))))
      (ss_one (s_ret e_bl))
      ss_nil)))))))
    (ss_one (s_ret (e_cmp op_leM opLe_ok (e_var 3) (e_globE (by rfl) T.g_WORTHS_IN_ALL) (by rfl)))))))⟩
theorem ok_is_worth (T : Txt K mg) {V : FV} (hV : HV K w V mg) (C_is_built_of : Ca P w K mg base cls ts 4 ("is_built_of" : Str) st_is_built_of ps_is_built_of (f_is_built_of V)) {f : Addr} {cdv : Value} {fd : FuncData} (D : Kd K mg ("is_worth" : Str) st_is_worth f cdv fd) : Ca P w K mg base cls ts 5 ("is_worth" : Str) st_is_worth ps_is_worth (f_is_worth V) :=
  ⟨f, cdv, fd, D, D.fn sc_is_worth fun A outer s H E hg hr tk =>
    (ss_one (s_ret (e_ca C_is_built_of bd_is_built_of hg (hr.mono (by decide)) tk (by rfl) (a_cons (e_var 0) (a_cons (e_fun (by rfl) hV.m_is_single) a_nil)))))⟩
theorem ok_whole_of (T : Txt K mg) {f : Addr} {cdv : Value} {fd : FuncData} (D : Kd K mg ("whole_of" : Str) st_whole_of f cdv fd) : Ca P w K mg base cls ts 1 ("whole_of" : Str) st_whole_of ps_whole_of f_whole_of :=
  ⟨f, cdv, fd, D, D.fn sc_whole_of fun A outer s H E hg hr tk =>
    (ss_cons (s_set (i := 1) sc_whole_of.nd rfl (Or.inl rfl) (e_meth (.inr (.inl rfl)) PySem.F.plainAttrs_str PySem.F.slot_str_removeprefix PySem.F.type_str_removeprefix mt_removeprefix removepre_ok (e_var 0) (a_cons e_str a_nil)))
    (ss_cons (s_if (t_pw (w_or (t_not (t_val (e_meth0 (.inr (.inl rfl)) PySem.F.plainAttrs_str PySem.F.slot_str_isascii PySem.F.type_str_isascii mt_isascii isascii_ok (e_var 1)))) (w_or (t_not (t_val (e_meth0 (.inr (.inl rfl)) PySem.F.plainAttrs_str PySem.F.slot_str_isdigit PySem.F.type_str_isdigit mt_isdigit isdigit_ok (e_var 1)))) (w_or1 (t_cmp op_gtM opGt_ok (e_callB call_lenM len_ok (by rfl) T.b_len PySem.boot_len (a_cons (e_var 1) a_nil)) (e_globE (by rfl) T.g_MOST_FIGURES) (by rfl))))))
      (ss_one s_stuck)
      ss_nil)
    (ss_one (s_ret (e_callTy call_intS intS_ok (by rfl) T.b_int boot_int (a_cons (e_var 0) a_nil))))))⟩
theorem ok_single_of (T : Txt K mg) {V : FV} (hV : HV K w V mg) (C_whole_of : Ca P w K mg base cls ts 1 ("whole_of" : Str) st_whole_of ps_whole_of f_whole_of) {f : Addr} {cdv : Value} {fd : FuncData} (D : Kd K mg ("single_of" : Str) st_single_of f cdv fd) : Ca P w K mg base cls ts 3 ("single_of" : Str) st_single_of ps_single_of (f_single_of V) :=
  ⟨f, cdv, fd, D, D.fn sc_single_of fun A outer s H E hg hr tk =>
    (ss_cons (s_if (t_inTab hV.td_WORDS (e_var 0) (e_fun (by rfl) hV.md_WORDS) (by rfl))
      (ss_one (s_ret (e_ixTab hV.td_WORDS (e_fun (by rfl) hV.md_WORDS) (e_var 0))))
      ss_nil)
    (ss_cons (s_if (t_val (e_meth (.inr (.inl rfl)) PySem.F.plainAttrs_str PySem.F.slot_str_startswith PySem.F.type_str_startswith mt_startswith starts_ok (e_var 0) (a_cons e_str a_nil)))
      (ss_one (s_ret (e_cut (e_var 0) (o_some e_int) (o_some (e_neg e_int)))))
      ss_nil)
    (ss_cons (s_if (t_val (e_meth (.inr (.inl rfl)) PySem.F.plainAttrs_str PySem.F.slot_str_startswith PySem.F.type_str_startswith mt_startswith starts_ok (e_var 0) (a_cons e_str a_nil)))
      (ss_one (s_ret (e_tup (a_cons e_str (a_cons (e_ca C_whole_of bd_whole_of hg (hr.mono (by decide)) tk (by rfl) (a_cons (e_cut (e_var 0) (o_some e_int) o_none) a_nil)) a_nil)))))
      ss_nil)
    (ss_cons (s_for (passes_of rfl) rfl (i_any (e_tup (a_cons (e_tup (a_cons e_str (a_cons e_str a_nil))) (a_cons (e_tup (a_cons e_str (a_cons e_str a_nil))) a_nil)))) (g_tup rfl (gs_cons (g_name (i := 1) sc_single_of.nd rfl (Or.inl rfl)) (gs_cons (g_name (i := 2) sc_single_of.nd rfl (Or.inl rfl)) gs_nil))) (ss_cons (s_asg (e_meth (.inr (.inl rfl)) PySem.F.plainAttrs_str PySem.F.slot_str_partition PySem.F.type_str_partition mt_partition part_ok (e_var 0) (a_cons (e_var 2) a_nil)) (g_tup rfl (gs_cons (g_name (i := 3) sc_single_of.nd rfl (Or.inl rfl)) (gs_cons (g_name (i := 4) sc_single_of.nd rfl (Or.inl rfl)) (gs_cons (g_name (i := 5) sc_single_of.nd rfl (Or.inl rfl)) gs_nil)))))
    (ss_one (s_if (t_tru (e_var 4))
      (ss_one (s_ret (e_tup (a_cons (e_var 1) (a_cons (e_var 3) (a_cons (e_var 5) a_nil))))))
      ss_nil))))
    (ss_one (s_ret (e_ca C_whole_of bd_whole_of hg (hr.mono (by decide)) tk (by rfl) (a_cons (e_var 0) a_nil))))))))⟩
theorem ok_worth_of (T : Txt K mg) {V : FV} (hV : HV K w V mg) (C_single_of : Ca P w K mg base cls ts 3 ("single_of" : Str) st_single_of ps_single_of (f_single_of V)) {f : Addr} {cdv : Value} {fd : FuncData} (D : Kd K mg ("worth_of" : Str) st_worth_of f cdv fd) : ∀ n : Nat, Ca P w K mg base cls ts (3 + n) ("worth_of" : Str) st_worth_of ps_worth_of (f_worth_of V n)
  | 0 => ⟨f, cdv, fd, D, FnG.zero⟩
  | n + 1 => by
    have C_worth_of := ok_worth_of T hV C_single_of D n
    exact ⟨f, cdv, fd, D, D.fn sc_worth_of fun A outer s H E hg hr tk =>
      (ss_cons (s_if (t_val (e_callB call_isi isi_ok (by rfl) T.b_isinstance (by decide +kernel) (a_cons (e_var 0) (a_cons (e_bty (by rfl) T.b_str boot_str) a_nil))))
      (ss_one (s_ret (e_ca C_single_of bd_single_of hg (hr.mono (Nat.le_trans (by decide : 3 ≤ 3) (Nat.le_add_right _ _))) tk (by rfl) (a_cons (e_var 0) a_nil))))
      ss_nil)
    (ss_cons (s_asg (e_var 0) (g_tup rfl (gs_cons (g_name (i := 1) sc_worth_of.nd rfl (Or.inl rfl)) (gs_cons (g_name (i := 2) sc_worth_of.nd rfl (Or.inl rfl)) gs_nil))))
    (ss_cons (s_if (t_cmp (op_neM hr.units) opNe_ok (e_var 1) e_str (by rfl))
      (ss_one s_stuck)
      ss_nil)
    (ss_one (s_ret (e_tup (a_cons e_str (a_cons (e_callTy call_tuple_of tuple_ok (by rfl) T.b_tuple boot_tuple (a_cons (e_comp (own := [(("part" : Str), 3)]) rfl sc_worth_of.nd (i_any (e_var 2)) (blkOk_by (N := N_worth_of) (sc := defScope st_worth_of) (by decide +kernel)) (by decide) (fun _ _ _ _ _ => (g_name (i := 3) sc_worth_of.nd rfl (Or.inl rfl))) (fun _ _ _ _ _ => ts_nil) (fun _ _ _ _ _ => (e_ca C_worth_of bd_worth_of hg hr L2.takes0 (by rfl) (a_cons (e_var 3) a_nil)))) a_nil)) a_nil))))))))⟩
theorem ok_read_worth (T : Txt K mg) {V : FV} (hV : HV K w V mg) (C_worth_of : Ca P w K mg base cls ts 33 ("worth_of" : Str) st_worth_of ps_worth_of (f_worth_of V 30)) (C_only_tree : Ca P w K mg base cls ts 5 ("only_tree" : Str) st_only_tree ps_only_tree (f_only_tree V)) (C_is_worth : Ca P w K mg base cls ts 5 ("is_worth" : Str) st_is_worth ps_is_worth (f_is_worth V)) (C_show_worth : Ca P w K mg base cls ts 60 ("show_worth" : Str) st_show_worth ps_show_worth (f_show_worth 30)) {f : Addr} {cdv : Value} {fd : FuncData} (D : Kd K mg ("read_worth" : Str) st_read_worth f cdv fd) : Ca P w K mg base cls ts 61 ("read_worth" : Str) st_read_worth ps_read_worth (f_read_worth V) :=
  ⟨f, cdv, fd, D, D.fn sc_read_worth fun A outer s H E hg hr tk =>
    (ss_cons (s_if (t_not (t_val (e_callB call_isi isi_ok (by rfl) T.b_isinstance (by decide +kernel) (a_cons (e_var 0) (a_cons (e_bty (by rfl) T.b_str boot_str) a_nil)))))
      (ss_one s_stuck)
      ss_nil)
    (ss_cons (s_set (i := 1) sc_read_worth.nd rfl (Or.inl rfl) (e_ca C_worth_of bd_worth_of hg (hr.mono (by decide)) tk (by rfl) (a_cons (e_ca C_only_tree bd_only_tree hg (hr.mono (by decide)) tk (by rfl) (a_cons (e_var 0) a_nil)) a_nil)))
    (ss_cons (s_if (t_pw (w_or (t_not (t_val (e_ca C_is_worth bd_is_worth hg (hr.mono (by decide)) tk (by rfl) (a_cons (e_var 1) a_nil)))) (w_or1 (t_cmp (op_neM hr.units) opNe_ok (e_ca C_show_worth bd_show_worth hg (hr.mono (by decide)) tk (by rfl) (a_cons (e_var 1) a_nil)) (e_var 0) (by rfl)))))
      (ss_one s_stuck)
      ss_nil)
    (ss_one (s_ret (e_var 1))))))⟩
theorem ok_l_text_of (T : Txt K mg) {f : Addr} {cdv : Value} {fd : FuncData} (D : Kd K mg ("_law_text_of" : Str) st_l_text_of f cdv fd) : ∀ n : Nat, Ca P w K mg base cls ts (0 + n) ("_law_text_of" : Str) st_l_text_of ps_l_text_of (f_l_text_of n)
  | 0 => ⟨f, cdv, fd, D, FnG.zero⟩
  | n + 1 => by
    have C_l_text_of := ok_l_text_of T D n
    exact ⟨f, cdv, fd, D, D.fn sc_l_text_of fun A outer s H E hg hr tk =>
      (ss_cons (s_if (t_cmp op_isM opIs_ok (e_var 0) e_non (by rfl))
      (ss_one (s_ret e_str))
      ss_nil)
    (ss_cons (s_if (t_val (e_callB call_isi isi_ok (by rfl) T.b_isinstance (by decide +kernel) (a_cons (e_var 0) (a_cons (e_bty (by rfl) T.b_bool boot_bool) a_nil))))
      (ss_one (s_ret (e_ix (e_lst (a_cons e_str (a_cons e_str a_nil))) (e_callTy call_intS intS_ok (by rfl) T.b_int boot_int (a_cons (e_var 0) a_nil)))))
      ss_nil)
    (ss_cons (s_if (t_val (e_callB call_isi isi_ok (by rfl) T.b_isinstance (by decide +kernel) (a_cons (e_var 0) (a_cons (e_bty (by rfl) T.b_int boot_int) a_nil))))
      (ss_one (s_ret (e_callTy call_str_int strI_ok (by rfl) T.b_str boot_str (a_cons (e_var 0) a_nil))))
      ss_nil)
    (ss_cons (s_if (t_val (e_callB call_isi isi_ok (by rfl) T.b_isinstance (by decide +kernel) (a_cons (e_var 0) (a_cons (e_bty (by rfl) T.b_str boot_str) a_nil))))
      (ss_one (s_ret (e_bin op_addM opAdd_ok (e_bin op_addM opAdd_ok e_str (e_var 0)) e_str)))
      ss_nil)
    (ss_cons (s_if (t_cmp (op_eq2 hr.units) opEq2_ok (e_ix (e_var 0) e_int) e_str (by rfl))
      (ss_cons (s_set (i := 1) sc_l_text_of.nd rfl (Or.inl rfl) e_str)
    (ss_cons (s_for (passes_of rfl) rfl (i_any (e_ix (e_var 0) e_int)) (g_name (i := 2) sc_l_text_of.nd rfl (Or.inl rfl)) (ss_one (s_set (i := 1) sc_l_text_of.nd rfl (Or.inl rfl) (e_bin op_addM opAdd_ok (e_bin op_addM opAdd_ok (e_var 1) e_str) (e_ca C_l_text_of bd_l_text_of hg hr tk (by rfl) (a_cons (e_var 2) a_nil))))))
    (ss_one (s_ret (e_bin op_addM opAdd_ok (e_bin op_addM opAdd_ok e_str (e_cut (e_var 1) (o_some e_int) o_none)) e_str)))))
      ss_nil)
    (ss_one (s_ret (e_ifExp (t_cmp (op_eq2 hr.units) opEq2_ok (e_ix (e_var 0) e_int) e_str (by rfl)) (e_bin op_addM opAdd_ok e_str (e_callTy call_str_int strI_ok (by rfl) T.b_str boot_str (a_cons (e_ix (e_var 0) e_int) a_nil))) (e_bin op_addM opAdd_ok (e_bin op_addM opAdd_ok (e_ix (e_var 0) e_int) (e_ixD (hu1 hr) (e_d2 e_str e_str) (e_ix (e_var 0) e_int))) (e_ix (e_var 0) e_int))))))))))⟩
theorem ok_l_right (T : Txt K mg) {V : FV} (hV : HV K w V mg) (C_l_text_of : Ca P w K mg base cls ts 30 ("_law_text_of" : Str) st_l_text_of ps_l_text_of (f_l_text_of 30)) (C_show_worth : Ca P w K mg base cls ts 60 ("show_worth" : Str) st_show_worth ps_show_worth (f_show_worth 30)) (C_read_worth : Ca P w K mg base cls ts 61 ("read_worth" : Str) st_read_worth ps_read_worth (f_read_worth V)) {f : Addr} {cdv : Value} {fd : FuncData} (D : Kd K mg ("_law_right" : Str) st_l_right f cdv fd) : Ca P w K mg base cls ts 62 ("_law_right" : Str) st_l_right ps_l_right (f_l_right V) :=
  ⟨f, cdv, fd, D, D.fn sc_l_right fun A outer s H E hg hr tk =>
    (ss_cons (s_par2 (i := 3) (j := 4) rfl sc_l_right.nd rfl rfl (by decide) rfl rfl (e_callB (call_reprX hg hr.units) repr_ok2 (by rfl) T.b_repr (by decide +kernel) (a_cons (e_var 0) a_nil)) (e_ca C_l_text_of bd_l_text_of hg (hr.mono (by decide)) tk (by rfl) (a_cons (e_var 0) a_nil)) rfl)
    (ss_cons (s_set (i := 1) sc_l_right.nd rfl (Or.inl rfl) (e_lst (a_cons (e_ca C_show_worth bd_show_worth hg (hr.mono (by decide)) tk (by rfl) (a_cons (e_var 0) a_nil)) (a_cons (e_caK (gv := pm0) (gV := pm0) (gD := pm0) C_show_worth bk_show_worth_0 hg (hr.mono (by decide)) tk (by rfl) pmV0 (fun _ _ => pmD0) (k_cons (e_var 0) k_nil) (aLenS aLen0)) (a_cons (e_ca C_show_worth bd_show_worth hg (hr.mono (by decide)) tk (by rfl) (a_cons (e_var 0) a_nil)) a_nil)))))
    (ss_cons (s_set (i := 2) sc_l_right.nd rfl (Or.inl rfl) (e_lst (a_cons (e_ca C_read_worth bd_read_worth hg (hr.mono (by decide)) tk (by rfl) (a_cons (e_var 4) a_nil)) (a_cons (e_caK (gv := pm0) (gV := pm0) (gD := pm0) C_read_worth bk_read_worth_0 hg (hr.mono (by decide)) tk (by rfl) pmV0 (fun _ _ => pmD0) (k_cons (e_var 4) k_nil) (aLenS aLen0)) a_nil))))
    (ss_one (s_ret (e_and (e_cmp (op_eq2 hr.units) opEq2_ok (e_callB (call_reprX hg hr.units) repr_ok2 (by rfl) T.b_repr (by decide +kernel) (a_cons (e_var 1) a_nil)) (e_callB (call_reprX hg hr.units) repr_ok2 (by rfl) T.b_repr (by decide +kernel) (a_cons (e_bin op_mulM opMul_ok (e_lst (a_cons (e_var 4) a_nil)) e_int) a_nil)) (by rfl)) (e_and (e_cmp (op_eq2 hr.units) opEq2_ok (e_callB (call_reprX hg hr.units) repr_ok2 (by rfl) T.b_repr (by decide +kernel) (a_cons (e_var 2) a_nil)) (e_callB (call_reprX hg hr.units) repr_ok2 (by rfl) T.b_repr (by decide +kernel) (a_cons (e_lst (a_cons (e_var 0) (a_cons (e_var 0) a_nil))) a_nil)) (by rfl)) (e_one (e_cmp (op_eq2 hr.units) opEq2_ok (e_callB (call_reprX hg hr.units) repr_ok2 (by rfl) T.b_repr (by decide +kernel) (a_cons (e_var 0) a_nil)) (e_var 3) (by rfl))))))))))⟩
theorem fn_law (T : Txt K mg) {V : FV} (hV : HV K w V mg) (C_l_begun : Ca P w K mg base cls ts 1 ("_law_begun" : Str) st_l_begun ps_l_begun f_l_begun) (C_l_drawn : Ca P w K mg base cls ts 34 ("_law_drawn" : Str) st_l_drawn ps_l_drawn (f_l_drawn 30)) (C_l_greatest : Ca P w K mg base cls ts 5 ("_law_greatest" : Str) st_l_greatest ps_l_greatest f_l_greatest) (C_l_alike_looks : Ca P w K mg base cls ts 1 ("_law_alike_looks" : Str) st_l_alike_looks ps_l_alike_looks f_l_alike_looks) (C_l_signs : Ca P w K mg base cls ts 3 ("_law_signs" : Str) st_l_signs ps_l_signs f_l_signs) (C_l_right : Ca P w K mg base cls ts 62 ("_law_right" : Str) st_l_right ps_l_right (f_l_right V)) {f : Addr} {cdv : Value} {fd : FuncData} (D : Kd K mg ("law" : Str) st_law f cdv fd) : FnG P w K mg base cls ts 63 f fd ps_law (f_law V) :=
  D.fn sc_law fun A outer s H E hg hr tk =>
    (ss_cons (s_set (i := 1) sc_law.nd rfl (Or.inr rfl) (e_ca C_l_begun bd_l_begun hg (hr.mono (by decide)) tk (by rfl) (a_cons (e_var 0) a_nil)))
    (ss_cons (s_set (i := 2) sc_law.nd rfl (Or.inl rfl) (e_bin op_addM opAdd_ok (e_bin op_addM opAdd_ok (e_comp (own := [(("_law_turn" : Str), 4)]) rfl sc_law.nd (i_range1 (by rfl) T.b_range e_int) (blkOk_by (N := N_law) (sc := defScope st_law) (by decide +kernel)) (by decide) (fun _ _ _ _ _ => (g_name (i := 4) sc_law.nd rfl (Or.inl rfl))) (fun _ _ _ _ _ => ts_nil) (fun _ _ _ _ _ => (e_ca C_l_drawn bd_l_drawn hg (hr.mono (by decide)) L2.takes0 (by rfl) (a_cons (e_var 1) (a_cons e_int a_nil))))) (e_ca C_l_greatest bd_l_greatest hg (hr.mono (by decide)) tk (by rfl) (a_cons (e_var 1) a_nil))) (e_ca0 C_l_alike_looks bd_l_alike_looks hg (hr.mono (by decide)) tk (by rfl))))
    (ss_cons (s_set (i := 2) sc_law.nd rfl (Or.inl rfl) (e_bin op_addM opAdd_ok (e_bin op_addM opAdd_ok (e_var 2) (e_comp (own := [(("_law_turn" : Str), 4)]) rfl sc_law.nd (i_range1 (by rfl) T.b_range e_int) (blkOk_by (N := N_law) (sc := defScope st_law) (by decide +kernel)) (by decide) (fun _ _ _ _ _ => (g_name (i := 4) sc_law.nd rfl (Or.inl rfl))) (fun _ _ _ _ _ => ts_nil) (fun _ _ _ _ _ => (e_ca C_l_signs bd_l_signs hg (hr.mono (by decide)) L2.takes0 (by rfl) (a_cons (e_var 1) a_nil))))) (e_lst (a_cons (e_tup (a_cons e_str (a_cons (e_callTy call_tuple_of tuple_ok (by rfl) T.b_tuple boot_tuple (a_cons (e_comp (own := [(("_law_turn" : Str), 4)]) rfl sc_law.nd (i_range1 (by rfl) T.b_range e_int) (blkOk_by (N := N_law) (sc := defScope st_law) (by decide +kernel)) (by decide) (fun _ _ _ _ _ => (g_name (i := 4) sc_law.nd rfl (Or.inl rfl))) (fun _ _ _ _ _ => ts_nil) (fun _ _ _ _ _ => (e_ca C_l_signs bd_l_signs hg (hr.mono (by decide)) L2.takes0 (by rfl) (a_cons (e_var 1) a_nil)))) a_nil)) a_nil))) a_nil))))
    (ss_one (s_ret (e_cmp (op_eq2 hr.units) opEq2_ok (e_comp (own := [(("_law_it" : Str), 3)]) rfl sc_law.nd (i_any (e_bin op_addM opAdd_ok (e_var 2) (e_rev (e_var 2)))) (blkOk_by (N := N_law) (sc := defScope st_law) (by decide +kernel)) (by decide) (fun _ _ _ _ _ => (g_name (i := 3) sc_law.nd rfl (Or.inl rfl))) (fun _ _ _ _ _ => (ts_one (t_not (t_val (e_ca C_l_right bd_l_right hg (hr.mono (by decide)) L2.takes0 (by rfl) (a_cons (e_var 3) a_nil)))))) (fun _ _ _ _ _ => (e_var 3))) (e_lst a_nil) (by rfl)))))))
end
end K04

namespace K04
open Mi L2 PySem PySem.Spec PyProof.Rows
theorem dealt_eq : f_l_dealt = fDealt := rfl
theorem begun_eq : f_l_begun = fBegun := rfl
theorem pick_eq : f_l_pick = fPick := rfl

/-! ### what may be asked for -/
inductive Fair (h : AH) : D → Prop
  | non : Fair h .non
  | bl (b : Bool) : Fair h (.bl b)
  | int (i : Int) : Fair h (.int i)
  | str (x : Str) : x.length ≤ 100000 → PyData.strOk x = true → Fair h (.str x)
  | tup (ds : List D) : ds.length ≤ 1000 → (∀ d ∈ ds, Fair h d) → Fair h (.tup ds)
  | lst (n : Nat) (ds : List D) : h[n]? = some (.lst ds) → Fair h (.ref n)
  | dic (n : Nat) (kvs : List (Key × D)) : h[n]? = some (.dic kvs) → Fair h (.ref n)
theorem Fair.pre {h h' : AH} (p : h <+: h') : ∀ {d : D}, Fair h d → Fair h' d
  | _, .non => .non
  | _, .bl b => .bl b
  | _, .int i => .int i
  | _, .str x a b => .str x a b
  | _, .tup ds a b => .tup ds a fun d hd => Fair.pre p (b d hd)
  | _, .lst n ds e => .lst n ds (getElem_pre p e)
  | _, .dic n kvs e => .dic n kvs (getElem_pre p e)
def kinds : List String := ["NoneType", "bool", "int", "str", "tuple", "list", "dict"]
theorem Fair.kind {h : AH} {d : D} (f : Fair h d) : ∃ t ∈ kinds, tyD d h = some t := by
  cases f with
  | non => exact ⟨"NoneType", by simp [kinds], rfl⟩
  | bl b => exact ⟨"bool", by simp [kinds], rfl⟩
  | int i => exact ⟨"int", by simp [kinds], rfl⟩
  | str x a b => exact ⟨"str", by simp [kinds], rfl⟩
  | tup ds a b => exact ⟨"tuple", by simp [kinds], rfl⟩
  | lst n ds e => exact ⟨"list", by simp [kinds], by simp only [tyD, e]⟩
  | dic n kvs e => exact ⟨"dict", by simp [kinds], by simp only [tyD, e]⟩
def kt (t T : String) : Bool := t == T || (t == "bool" && T == "int")
theorem kit_all : (kinds.all fun t => ["int", "bool", "str", "tuple"].all fun T => kitB t T == some (kt t T)) = true := by decide +kernel
theorem kit_kt {t T : String} (h1 : t ∈ kinds) (h2 : T ∈ ["int", "bool", "str", "tuple"]) : kitB t T = some (kt t T) :=
  eq_of_beq (List.all_eq_true.mp (List.all_eq_true.mp kit_all t h1) T h2)
/-- isinstance(x, T) -/
def isT (T : String) : D → Bool
  | .non => false
  | .bl _ => T == "bool" || T == "int"
  | .int _ => T == "int"
  | .str _ => T == "str"
  | .tup _ => T == "tuple"
  | _ => false
theorem isi_ev {ε : AEnv} {h h1 : AH} {F : EF} {d : D} {T : String} (e : F ε h = .ok d h1) (f : Fair h1 d) (hT : T ∈ ["int", "bool", "str", "tuple"]) : cCall fIsi (aCons F (aCons (cC (.ty T)) aNil)) ε h = .ok (.bl (isT T d)) h1 := by
  obtain ⟨t, ht, et⟩ := f.kind
  refine (cCall_eq (aCons_eq e (aCons_eq rfl aNil_eq))).trans ?_
  have key : kt t T = isT T d := by
    simp only [List.mem_cons, List.not_mem_nil, or_false] at hT
    cases f with
    | lst n ds e1 =>
      simp only [tyD, e1] at et
      cases et
      rcases hT with rfl | rfl | rfl | rfl <;> rfl
    | dic n ds e1 =>
      simp only [tyD, e1] at et
      cases et
      rcases hT with rfl | rfl | rfl | rfl <;> rfl
    | _ => cases et; rcases hT with rfl | rfl | rfl | rfl <;> rfl
  simp only [fIsi, et, kit_kt ht hT, key]
theorem isi_t {ε : AEnv} {h h1 : AH} {F : EF} {d : D} {T : String} (e : F ε h = .ok d h1) (f : Fair h1 d) (hT : T ∈ ["int", "bool", "str", "tuple"]) : tVal (cCall fIsi (aCons F (aCons (cC (.ty T)) aNil))) ε h = .ok (isT T d) h1 := tVal_eq (isi_ev e f hT)
theorem cNot_bl {F : EF} {ε : AEnv} {h h1 : AH} {b : Bool} (e : F ε h = .ok (.bl b) h1) : cNot F ε h = .ok (.bl (!b)) h1 := by
  unfold cNot
  rw [e, Res.bind_ok]
  rfl
theorem cAnd_bl {F G : EF} {ε : AEnv} {h h1 h2 : AH} {a b : Bool} (e1 : F ε h = .ok (.bl a) h1) (e2 : a = true → G ε h1 = .ok (.bl b) h2) (e3 : a = false → h2 = h1) : cAnd F G ε h = .ok (.bl (a && b)) h2 := by
  cases a with
  | true => exact (cAnd_t e1).trans (e2 rfl)
  | false => rw [e3 rfl]; exact cAnd_f e1
theorem cOr_bl {F G : EF} {ε : AEnv} {h h1 h2 : AH} {a b : Bool} (e1 : F ε h = .ok (.bl a) h1) (e2 : a = false → G ε h1 = .ok (.bl b) h2) (e3 : a = true → h2 = h1) : cOr F G ε h = .ok (.bl (a || b)) h2 := by
  unfold cOr
  rw [e1, Res.bind_ok]
  cases a with
  | false => exact e2 rfl
  | true => rw [e3 rfl]; rfl
/-! ### is_whole, is_name -/
def wholeD : D → Bool
  | .int _ => true
  | _ => false
theorem whole_ok {h : AH} {d : D} (f : Fair h d) : f_is_whole [d] h = .ok (.bl (wholeD d)) h := by
  have e1 := isi_ev (ε := [some d]) (F := cVar 0) (T := "int") rfl f (by simp)
  have e2 := isi_ev (ε := [some d]) (F := cVar 0) (T := "bool") rfl f (by simp)
  have q := cAnd_bl e1 (b := !isT "bool" d) (fun _ => cNot_bl e2) (fun _ => rfl)
  refine runB_ret rfl (sRet_eq (q.trans ?_))
  cases d <;> rfl
def nameB (x : Str) : Bool := decide (1 ≤ x.length) && decide (x.length ≤ 8) && x.cps.toList.all (between "a" "z")
def nameD : D → Bool
  | .str x => nameB x
  | _ => false
theorem len_strE {ε : AEnv} {h h1 : AH} {F : EF} {x : Str} (e : F ε h = .ok (.str x) h1) (hx : x.length ≤ 100000) : cCall fLen (aCons F aNil) ε h = .ok (.int x.length) h1 := by
  have hx2 : x.length ≤ sizeLine := by rw [sizeLine_eq]; omega
  refine (cCall_eq (aCons_eq e aNil_eq)).trans ?_
  simp only [fLen, if_pos hx2]
theorem chain_le {ε : AEnv} {h : AH} {F G I : EF} {a b c : Int} (e1 : F ε h = .ok (.int a) h) (e2 : G ε h = .ok (.int b) h) (e3 : I ε h = .ok (.int c) h) : cChain opLe opLe F G I ε h = .ok (.bl (decide (a ≤ b) && decide (b ≤ c))) h := by
  unfold cChain
  rw [e1, Res.bind_ok, e2, Res.bind_ok]
  have q : opLe (.int a) (.int b) h = .ok (.bl (decide (a ≤ b))) h := rfl
  rw [q, Res.bind_ok]
  cases c1 : decide (a ≤ b) with
  | false => rfl
  | true =>
    show (I ε h).bind _ = _
    rw [e3, Res.bind_ok]
    rfl
theorem isName_ok {h : AH} {d : D} (f : Fair h d) : f_is_name [d] h = .ok (.bl (nameD d)) h := by
  have q := isi_t (ε := [some d]) (F := cVar 0) (T := "str") rfl f (by simp)
  have no : isT "str" d = false → f_is_name [d] h = .ok (.bl false) h := fun e => by
    rw [e] at q
    exact runB_ret rfl (sSeq_ret ((sIf_t (tOr_t (tNot_eq q))).trans (sRet_eq rfl)))
  cases f with
  | str x hx ho =>
    have ch := tVal_eq (chain_le (ε := [some (.str x)]) (h := h) (F := cC (.int 1)) (I := cC (.int 8)) rfl (len_strE (F := cVar 0) rfl hx) rfl)
    have t2 := (tOr_f (tNot_eq q)).trans (tNot_eq ch)
    have e0 : (decide ((1 : Int) ≤ x.length) && decide ((x.length : Int) ≤ 8)) = (decide (1 ≤ x.length) && decide (x.length ≤ 8)) := by
      rw [Bool.eq_iff_iff]
      simp only [Bool.and_eq_true, decide_eq_true_eq]
      omega
    rw [e0] at t2
    cases c : (decide (1 ≤ x.length) && decide (x.length ≤ 8)) with
    | false =>
      rw [c] at t2
      have e : nameD (.str x) = false := by show nameB x = false; unfold nameB; rw [c, Bool.false_and]
      rw [e]
      exact runB_ret rfl (sSeq_ret ((sIf_t t2).trans (sRet_eq rfl)))
    | true =>
      rw [c] at t2
      have e : nameD (.str x) = x.cps.toList.all (between "a" "z") := by show nameB x = _; unfold nameB; rw [c, Bool.true_and]
      rw [e]
      exact runB_ret rfl ((sSeq_nx ((sIf_f t2).trans rfl)).trans (sRet_eq rfl))
  | _ => exact no rfl
/-! ### texts, plain ones, things, deeds and kinds -/
def plainSign (c : Nat) : Bool := between " " "~" c && !([(37 : Int), 39].any (· == ((c : Nat) : Int)))
def shortText : D → Bool
  | .str x => decide (x.length ≤ 20) && x.cps.toList.all plainSign
  | _ => false
theorem shortText_ok {h : AH} {d : D} (f : Fair h d) : f_is_short_text [d] h = .ok (.bl (shortText d)) h := by
  have q := isi_t (ε := [some d]) (F := cVar 0) (T := "str") rfl f (by simp)
  have no : isT "str" d = false → f_is_short_text [d] h = .ok (.bl false) h := fun e => by
    rw [e] at q
    exact runB_ret rfl (sSeq_ret ((sIf_t (tOr_t (tNot_eq q))).trans (sRet_eq rfl)))
  cases f with
  | str x hx ho =>
    have g : tVal (cBin opGt (cCall fLen (aCons (cVar 0) aNil)) (cC (.int 20))) [some (.str x)] h = .ok (decide ((20 : Int) < x.length)) h := tVal_eq ((cBin_eq (len_strE (F := cVar 0) rfl hx) rfl).trans rfl)
    have t2 := (tOr_f (tNot_eq q)).trans g
    by_cases c : x.length ≤ 20
    · rw [decide_eq_false (show ¬ (20 : Int) < x.length by omega)] at t2
      have e : shortText (.str x) = x.cps.toList.all plainSign := by show (decide (x.length ≤ 20) && _) = _; rw [decide_eq_true c, Bool.true_and]
      rw [e]
      exact runB_ret rfl ((sSeq_nx ((sIf_f t2).trans rfl)).trans (sRet_eq rfl))
    · rw [decide_eq_true (show (20 : Int) < x.length by omega)] at t2
      have e : shortText (.str x) = false := by show (decide (x.length ≤ 20) && _) = _; rw [decide_eq_false c, Bool.false_and]
      rw [e]
      exact runB_ret rfl (sSeq_ret ((sIf_t t2).trans (sRet_eq rfl)))
  | _ => exact no rfl
def plainSingle : D → Bool
  | .non => true
  | .bl _ => true
  | .int i => decide (-1000000000000000 ≤ i) && decide (i ≤ 1000000000000000)
  | d => shortText d
theorem is_non {h : AH} {d : D} (f : Fair h d) {ε : AEnv} {F : EF} (e : F ε h = .ok d h) : tVal (cBin opIs F (cC .non)) ε h = .ok (match d with | .non => true | _ => false) h := by
  refine tVal_eq ((cBin_eq e rfl).trans ?_)
  cases f <;> rfl
theorem plainSingle_ok {h : AH} {d : D} (f : Fair h d) : f_is_plain_single [d] h = .ok (.bl (plainSingle d)) h := by
  have q1 := is_non f (ε := [some d]) (F := cVar 0) rfl
  have q2 := isi_t (ε := [some d]) (F := cVar 0) (T := "bool") rfl f (by simp)
  have q3 : tVal (cFn f_is_whole (aCons (cVar 0) aNil)) [some d] h = .ok (wholeD d) h := tVal_eq ((cFn_eq (aCons_eq rfl aNil_eq)).trans (whole_ok f))
  have rest : (tOr' (tVal (cBin opIs (cVar 0) (cC .non))) (tVal (cCall fIsi (aCons (cVar 0) (aCons (cC (.ty "bool")) aNil))))) [some d] h = .ok false h → wholeD d = false → plainSingle d = shortText d → f_is_plain_single [d] h = .ok (.bl (plainSingle d)) h := fun e1 e2 e3 => by
    rw [e2] at q3
    rw [e3]
    exact runB_ret rfl ((sSeq_nx ((sIf_f e1).trans rfl)).trans ((sSeq_nx ((sIf_f q3).trans rfl)).trans (sRet_eq ((cFn_eq (aCons_eq rfl aNil_eq)).trans (shortText_ok f)))))
  cases f with
  | non => exact runB_ret rfl (sSeq_ret ((sIf_t (tOr_t q1)).trans (sRet_eq rfl)))
  | bl b => exact runB_ret rfl (sSeq_ret ((sIf_t ((tOr_f q1).trans q2)).trans (sRet_eq rfl)))
  | int i => exact runB_ret rfl ((sSeq_nx ((sIf_f ((tOr_f q1).trans q2)).trans rfl)).trans (sSeq_ret ((sIf_t q3).trans (sRet_eq (chain_le (F := cNeg (cC (.int 1000000000000000))) (G := cVar 0) (I := cC (.int 1000000000000000)) rfl rfl rfl)))))
  | str x a b => exact rest ((tOr_f q1).trans q2) rfl rfl
  | tup ds a b => exact rest ((tOr_f q1).trans q2) rfl rfl
  | lst n ds e => exact rest ((tOr_f q1).trans q2) rfl rfl
  | dic n ds e => exact rest ((tOr_f q1).trans q2) rfl rfl
/-- x == 'z' -/
def isStr (z : Str) : D → Bool
  | .str x => decide (x = z)
  | _ => false
theorem eq_str {h h1 : AH} {d : D} (f : Fair h1 d) {ε : AEnv} {F : EF} {z : Str} (e : F ε h = .ok d h1) : cBin opEq2 F (cC (.str z)) ε h = .ok (.bl (isStr z d)) h1 := by
  refine (cBin_eq e rfl).trans ?_
  cases f with
  | lst n ds e1 => simp [opEq2, eqX, isBox, e1, isStr]
  | dic n ds e1 => simp [opEq2, eqX, isBox, e1, isStr]
  | _ => simp [opEq2, eqX, isBox, isStr, opEq, scalEq]
theorem len_tupE {ε : AEnv} {h h1 : AH} {F : EF} {ds : List D} (e : F ε h = .ok (.tup ds) h1) : cCall fLen (aCons F aNil) ε h = .ok (.int ds.length) h1 := (cCall_eq (aCons_eq e aNil_eq)).trans rfl
/-- the head of the defs that part a tuple of n: not so -/
theorem part_no {h : AH} {d : D} {n : Nat} {ε : AEnv} {F : EF} (f : Fair h d) (e : F ε h = .ok d h) (k : ∀ ds, d = .tup ds → ds.length ≠ n) :
    (tOr' (tNot' (tVal (cCall fIsi (aCons F (aCons (cC (.ty "tuple")) aNil))))) (tVal (cBin opNe (cCall fLen (aCons F aNil)) (cC (.int n))))) ε h = .ok true h := by
  have q := isi_t (T := "tuple") e f (by simp)
  cases f with
  | tup ds a b =>
    refine (tOr_f (tNot_eq q)).trans (tVal_eq ((cBin_eq (len_tupE e) rfl).trans ?_))
    have : ((ds.length : Int)) ≠ n := fun z => k ds rfl (by omega)
    simp [opNe, scalEq, this]
  | _ => exact tOr_t (tNot_eq q)
theorem part_yes {h : AH} {ds : List D} {ε : AEnv} {F : EF} (f : Fair h (.tup ds)) (e : F ε h = .ok (.tup ds) h) {n : Nat} (hn : ds.length = n) :
    (tOr' (tNot' (tVal (cCall fIsi (aCons F (aCons (cC (.ty "tuple")) aNil))))) (tVal (cBin opNe (cCall fLen (aCons F aNil)) (cC (.int n))))) ε h = .ok false h := by
  have q := isi_t (T := "tuple") e f (by simp)
  refine (tOr_f (tNot_eq q)).trans (tVal_eq ((cBin_eq (len_tupE e) rfl).trans ?_))
  subst hn
  simp [opNe, scalEq]
def numB : D → Bool
  | .int i => decide (0 ≤ i) && decide (i ≤ 1000000000000000)
  | _ => false
def thingB : D → Bool
  | .tup [w, k] => isStr "thing" w && numB k
  | _ => false
theorem thing_ok {h : AH} {d : D} (f : Fair h d) : f_is_thing [d] h = .ok (.bl (thingB d)) h := by
  have no : thingB d = false → (∀ ds, d = .tup ds → ds.length ≠ 2) → f_is_thing [d] h = .ok (.bl (thingB d)) h := fun e k => by
    rw [e]
    exact runB_ret rfl (sSeq_ret ((sIf_t (part_no f (ε := [some d, none, none]) (F := cVar 0) rfl k)).trans (sRet_eq rfl)))
  cases d with
  | tup ds =>
    match ds, f with
    | [w, k], f =>
      obtain ⟨fw, fk⟩ : Fair h w ∧ Fair h k := by
        cases f with
        | tup _ _ g => exact ⟨g w (by simp), g k (by simp)⟩
      have t := part_yes f (ε := [some (.tup [w, k]), none, none]) (F := cVar 0) rfl (n := 2) rfl
      have q1 := eq_str fw (ε := [some (.tup [w, k]), some w, some k]) (F := cVar 1) (z := "thing") rfl
      have q2 : cFn f_is_whole (aCons (cVar 2) aNil) [some (.tup [w, k]), some w, some k] h = .ok (.bl (wholeD k)) h := (cFn_eq (aCons_eq rfl aNil_eq)).trans (whole_ok fk)
      refine runB_ret rfl ((sSeq_nx ((sIf_f t).trans rfl)).trans ((sSeq_nx (h1 := h) (ε1 := [some (.tup [w, k]), some w, some k]) rfl).trans (sRet_eq ?_)))
      have q3 : cAnd (cFn f_is_whole (aCons (cVar 2) aNil)) (cChain opLe opLe (cC (.int 0)) (cVar 2) (cC (.int 1000000000000000))) [some (.tup [w, k]), some w, some k] h = .ok (.bl (numB k)) h := by
        cases k with
        | int i => exact cAnd_bl (a := true) (b := decide (0 ≤ i) && decide (i ≤ 1000000000000000)) q2 (fun _ => chain_le (F := cC (.int 0)) (G := cVar 2) (I := cC (.int 1000000000000000)) rfl rfl rfl) fun _ => rfl
        | _ => exact cAnd_f q2
      exact cAnd_bl q1 (fun _ => q3) fun _ => rfl
    | [], f => exact no rfl fun ds e => by cases e; simp
    | [_], f => exact no rfl fun ds e => by cases e; simp
    | _ :: _ :: _ :: _, f => exact no rfl fun ds e => by cases e; simp
  | _ => exact no rfl fun ds e => by cases e
def deedB : D → Bool
  | .tup [w, a, b] => (isStr "deed" w || isStr "kind" w) && (nameD a && nameD b)
  | _ => false
theorem in_flat {h : AH} {d : D} {v : V} {z1 z2 : Str} (e1 : flat d = some v) (e2 : isBox d h = false) : opIn2 d (.tup [.str z1, .str z2]) h = .ok (.bl (inV v [.str z1, .str z2])) h := by
  have e3 : inX d (.tup [.str z1, .str z2]) h = false := by
    show (isBox d h && _) = false
    rw [e2, Bool.false_and]
  have e4 : inD d (.tup [.str z1, .str z2]) h = some (inV v [.str z1, .str z2]) := by
    unfold inD
    simp only [seqD, e1]
    rfl
  unfold opIn2
  rw [if_neg (by rw [e3]; exact Bool.false_ne_true)]
  unfold opIn
  rw [e4]
theorem in_two {h h1 : AH} {d : D} (f : Fair h1 d) {ε : AEnv} {F : EF} {z1 z2 : Str} (e : F ε h = .ok d h1) : cBin opIn2 F (cTup (aCons (cC (.str z1)) (aCons (cC (.str z2)) aNil))) ε h = .ok (.bl (isStr z1 d || isStr z2 d)) h1 := by
  have t : cTup (aCons (cC (.str z1)) (aCons (cC (.str z2)) aNil)) ε h1 = .ok (.tup [.str z1, .str z2]) h1 := cTup_eq rfl (by rw [sizeLine_eq]; exact Nat.le_of_ble_eq_true rfl)
  refine (cBin_eq e t).trans ?_
  have fl : (omap asStr [.str z1, .str z2]).isSome = true := rfl
  have bx : isBox d h1 = true → isStr z1 d = false → isStr z2 d = false → opIn2 d (.tup [.str z1, .str z2]) h1 = .ok (.bl (isStr z1 d || isStr z2 d)) h1 := fun k1 k2 k3 => by
    have e3 : inX d (.tup [.str z1, .str z2]) h1 = true := by
      show (isBox d h1 && _) = true
      rw [k1, fl]; rfl
    unfold opIn2
    rw [if_pos e3, k2, k3]
    rfl
  cases f with
  | lst n ds e1 => exact bx (by simp [isBox, e1]) rfl rfl
  | dic n ds e1 => exact bx (by simp [isBox, e1]) rfl rfl
  | tup ds a b => exact bx rfl rfl rfl
  | str x a b =>
    refine (in_flat (v := .str x) rfl rfl).trans ?_
    congr 2
    have e2 : ∀ z : Str, (z == x) = isStr z (.str x) := fun z => by
      show _ = decide (x = z)
      rw [Bool.eq_iff_iff, beq_iff_eq, decide_eq_true_eq]
      exact eq_comm
    rw [← e2, ← e2]
    simp [inV, eqV]
  | non => exact (in_flat (v := .non) rfl rfl).trans (by congr 2)
  | bl b => exact (in_flat (v := .bl b) rfl rfl).trans (by congr 2)
  | int i => exact (in_flat (v := .int i) rfl rfl).trans (by congr 2)
theorem deed_ok {h : AH} {d : D} (f : Fair h d) : f_is_deed_or_kind [d] h = .ok (.bl (deedB d)) h := by
  have no : deedB d = false → (∀ ds, d = .tup ds → ds.length ≠ 3) → f_is_deed_or_kind [d] h = .ok (.bl (deedB d)) h := fun e k => by
    rw [e]
    exact runB_ret rfl (sSeq_ret ((sIf_t (part_no f (ε := [some d, none, none, none]) (F := cVar 0) rfl k)).trans (sRet_eq rfl)))
  cases d with
  | tup ds =>
    match ds, f with
    | [w, a, b], f =>
      obtain ⟨fw, fa, fb⟩ : Fair h w ∧ Fair h a ∧ Fair h b := by
        cases f with
        | tup _ _ g => exact ⟨g w (by simp), g a (by simp), g b (by simp)⟩
      have t := part_yes f (ε := [some (.tup [w, a, b]), none, none, none]) (F := cVar 0) rfl (n := 3) rfl
      have q1 := in_two fw (ε := [some (.tup [w, a, b]), some w, some a, some b]) (F := cVar 1) (z1 := "deed") (z2 := "kind") rfl
      have q2 : cFn f_is_name (aCons (cVar 2) aNil) [some (.tup [w, a, b]), some w, some a, some b] h = .ok (.bl (nameD a)) h := (cFn_eq (aCons_eq rfl aNil_eq)).trans (isName_ok fa)
      have q3 : cFn f_is_name (aCons (cVar 3) aNil) [some (.tup [w, a, b]), some w, some a, some b] h = .ok (.bl (nameD b)) h := (cFn_eq (aCons_eq rfl aNil_eq)).trans (isName_ok fb)
      refine runB_ret rfl ((sSeq_nx ((sIf_f t).trans rfl)).trans ((sSeq_nx (h1 := h) (ε1 := [some (.tup [w, a, b]), some w, some a, some b]) rfl).trans (sRet_eq ?_)))
      exact cAnd_bl q1 (fun _ => cAnd_bl q2 (fun _ => q3) fun _ => rfl) fun _ => rfl
    | [], f => exact no rfl fun ds e => by cases e; simp
    | [_], f => exact no rfl fun ds e => by cases e; simp
    | [_, _], f => exact no rfl fun ds e => by cases e; simp
    | _ :: _ :: _ :: _ :: _, f => exact no rfl fun ds e => by cases e; simp
  | _ => exact no rfl fun ds e => by cases e
def singleB (d : D) : Bool := plainSingle d || (thingB d || deedB d)
theorem single_ok {h : AH} {d : D} (f : Fair h d) : f_is_single [d] h = .ok (.bl (singleB d)) h := by
  have q1 : cFn f_is_plain_single (aCons (cVar 0) aNil) [some d] h = .ok (.bl (plainSingle d)) h := (cFn_eq (aCons_eq rfl aNil_eq)).trans (plainSingle_ok f)
  have q2 : cFn f_is_thing (aCons (cVar 0) aNil) [some d] h = .ok (.bl (thingB d)) h := (cFn_eq (aCons_eq rfl aNil_eq)).trans (thing_ok f)
  have q3 : cFn f_is_deed_or_kind (aCons (cVar 0) aNil) [some d] h = .ok (.bl (deedB d)) h := (cFn_eq (aCons_eq rfl aNil_eq)).trans (deed_ok f)
  exact runB_ret rfl (sRet_eq (cOr_bl q1 (fun _ => cOr_bl q2 (fun _ => q3) fun _ => rfl) fun _ => rfl))
/-- the parts of a row of at most forty -/
def rowD : D → Option (List D)
  | .tup [w, .tup ps] => if isStr "row" w && decide (ps.length ≤ 40) then some ps else none
  | _ => none
theorem shortRow_ok {h : AH} {d : D} (f : Fair h d) : f_is_short_row [d] h = .ok (.bl (rowD d).isSome) h := by
  have no : rowD d = none → (∀ ds, d = .tup ds → ds.length ≠ 2) → f_is_short_row [d] h = .ok (.bl (rowD d).isSome) h := fun e k => by
    rw [e]
    exact runB_ret rfl (sSeq_ret ((sIf_t (part_no f (ε := [some d, none, none]) (F := cVar 0) rfl k)).trans (sRet_eq rfl)))
  cases d with
  | tup ds =>
    match ds, f with
    | [w, p], f =>
      obtain ⟨fw, fp⟩ : Fair h w ∧ Fair h p := by
        cases f with
        | tup _ _ g => exact ⟨g w (by simp), g p (by simp)⟩
      have t := part_yes f (ε := [some (.tup [w, p]), none, none]) (F := cVar 0) rfl (n := 2) rfl
      have q1 := eq_str fw (ε := [some (.tup [w, p]), some w, some p]) (F := cVar 1) (z := "row") rfl
      have q2 := isi_ev (ε := [some (.tup [w, p]), some w, some p]) (F := cVar 2) (T := "tuple") rfl fp (by simp)
      refine runB_ret rfl ((sSeq_nx ((sIf_f t).trans rfl)).trans ((sSeq_nx (h1 := h) (ε1 := [some (.tup [w, p]), some w, some p]) rfl).trans (sRet_eq ?_)))
      have fin : ∀ b : Bool, cAnd (cCall fIsi (aCons (cVar 2) (aCons (cC (.ty "tuple")) aNil))) (cBin opLe (cCall fLen (aCons (cVar 2) aNil)) (cC (.int 40))) [some (.tup [w, p]), some w, some p] h = .ok (.bl b) h → (isStr "row" w && b) = (rowD (.tup [w, p])).isSome →
          cAnd (cBin opEq2 (cVar 1) (cC (.str ("row" : Str)))) (cAnd (cCall fIsi (aCons (cVar 2) (aCons (cC (.ty "tuple")) aNil))) (cBin opLe (cCall fLen (aCons (cVar 2) aNil)) (cC (.int 40)))) [some (.tup [w, p]), some w, some p] h = .ok (.bl (rowD (.tup [w, p])).isSome) h := fun b e1 e2 => by
        rw [← e2]
        exact cAnd_bl q1 (fun _ => e1) fun _ => rfl
      cases p with
      | tup ps =>
        refine fin (decide (ps.length ≤ 40)) ((cAnd_t q2).trans ((cBin_eq (len_tupE (F := cVar 2) rfl) rfl).trans ?_)) ?_
        · show Res.ok (D.bl (decide ((ps.length : Int) ≤ 40))) h = _
          congr 2
          exact decide_eq_decide.mpr (by omega)
        · simp only [rowD]
          cases (isStr "row" w && decide (ps.length ≤ 40)) <;> rfl
      | _ => exact fin false (cAnd_f q2) (by rw [Bool.and_false]; rfl)
    | [], f => exact no rfl fun ds e => by cases e; simp
    | [_], f => exact no rfl fun ds e => by cases e; simp
    | _ :: _ :: _ :: _, f => exact no (by simp [rowD]) fun ds e => by cases e; simp
  | _ => exact no rfl fun ds e => by cases e
end K04

namespace K04
open Mi L2 PySem PySem.Spec PyProof.Rows
/-! ### how many worths a thing has, in r rows' depth -/
def cnt (fit : D → Bool) : Nat → D → Option Nat
  | 0, d => if fit d = true then some 1 else none
  | r + 1, d => match rowD d with
    | some ps => (omap (cnt fit r) ps).map fun ns => 1 + ns.sum
    | none => if fit d = true then some 1 else none
def cnts (fit : D → Bool) : List (D × Nat) → Option Nat
  | [] => some 0
  | q :: S => match cnt fit q.2 q.1, cnts fit S with
    | some a, some b => some (a + b)
    | _, _ => none
theorem cnts_app (fit : D → Bool) (T : List (D × Nat)) : ∀ S, cnts fit (S ++ T) = match cnts fit S, cnts fit T with | some a, some b => some (a + b) | _, _ => none
  | [] => by
    show cnts fit T = _
    cases cnts fit T <;> simp [cnts]
  | q :: S => by
    show (match cnt fit q.2 q.1, cnts fit (S ++ T) with | some a, some b => some (a + b) | _, _ => none) = _
    rw [cnts_app fit T S]
    show _ = match (match cnt fit q.2 q.1, cnts fit S with | some a, some b => some (a + b) | _, _ => none), cnts fit T with | some a, some b => some (a + b) | _, _ => none
    cases cnt fit q.2 q.1 <;> cases cnts fit S <;> cases cnts fit T <;> simp [Nat.add_assoc]
theorem cnts_map (fit : D → Bool) (r : Nat) : ∀ ps : List D, cnts fit (ps.map fun d => (d, r)) = (omap (cnt fit r) ps).map List.sum
  | [] => rfl
  | p :: ps => by
    show (match cnt fit r p, cnts fit (ps.map fun d => (d, r)) with | some a, some b => some (a + b) | _, _ => none) = _
    rw [cnts_map fit r ps]
    simp only [omap]
    cases cnt fit r p <;> cases omap (cnt fit r) ps <;> simp
theorem cnt_pos {fit : D → Bool} {r : Nat} {d : D} {n : Nat} (e : cnt fit r d = some n) : 1 ≤ n := by
  cases r with
  | zero =>
    simp only [cnt] at e
    split at e <;> cases e
    exact Nat.le_refl _
  | succ r =>
    simp only [cnt] at e
    split at e
    · obtain ⟨ns, _, rfl⟩ := Option.map_eq_some_iff.mp e
      omega
    · split at e <;> cases e
      exact Nat.le_refl _
def okB (fit : D → Bool) (m : Nat) (S : List (D × Nat)) : Bool := match cnts fit S with
  | some n => decide (m + n ≤ 200)
  | none => false
def pr (q : D × Nat) : D := .tup [q.1, .int (9 - q.2)]
theorem rowD_parts {h : AH} {d : D} {ps : List D} (f : Fair h d) (e : rowD d = some ps) : ps.length ≤ 40 ∧ (∀ p ∈ ps, Fair h p) ∧ ∃ w, d = .tup [w, .tup ps] := by
  unfold rowD at e
  split at e <;> first | (cases e; done) | skip
  split at e <;> cases e
  rename_i c
  rw [Bool.and_eq_true, decide_eq_true_eq] at c
  refine ⟨c.2, ?_, _, rfl⟩
  cases f with
  | tup _ _ g =>
    have := g (.tup ps) (by simp)
    cases this with
    | tup _ _ g2 => exact g2
/-- the part of a stack on top -/
theorem okB_top {fit : D → Bool} {m : Nat} {S : List (D × Nat)} {d : D} {r : Nat} (hm : m ≤ 200) :
    okB fit m (S ++ [(d, r)]) = match r, rowD d with
      | r + 1, some ps => okB fit (m + 1) (S ++ ps.map fun p => (p, r))
      | _, _ => if fit d = true then okB fit (m + 1) S else false := by
  have one : ∀ o : Option Nat, cnt fit r d = o → okB fit m (S ++ [(d, r)]) = match cnts fit S, o with | some a, some b => decide (m + (a + b) ≤ 200) | _, _ => false := fun o e => by
    unfold okB
    rw [cnts_app]
    simp only [cnts, e]
    cases cnts fit S <;> cases o <;> simp
  have leaf : cnt fit r d = (if fit d = true then some 1 else none) → okB fit m (S ++ [(d, r)]) = if fit d = true then okB fit (m + 1) S else false := fun e => by
    rw [one _ e]
    cases fit d with
    | false => cases cnts fit S <;> simp
    | true =>
      unfold okB
      cases cnts fit S with
      | none => simp
      | some a => simp only [if_true]; exact decide_eq_decide.mpr (by omega)
  cases r with
  | zero => exact leaf rfl
  | succ r =>
    cases e : rowD d with
    | none => exact leaf (by simp only [cnt, e])
    | some ps =>
      rw [one ((omap (cnt fit r) ps).map fun ns => 1 + ns.sum) (by simp only [cnt, e])]
      show _ = okB fit (m + 1) (S ++ ps.map fun p => (p, r))
      unfold okB
      rw [cnts_app, cnts_map]
      cases cnts fit S with
      | none => rfl
      | some a =>
        cases omap (cnt fit r) ps with
        | none => rfl
        | some ns =>
          refine decide_eq_decide.mpr ?_
          show m + (a + (1 + ns.sum)) ≤ 200 ↔ m + 1 + (a + ns.sum) ≤ 200
          omega
theorem okB_over {fit : D → Bool} {m : Nat} {S : List (D × Nat)} (hm : 200 < m) : okB fit m S = false := by
  unfold okB
  split
  · exact decide_eq_false (by omega)
  · rfl
theorem okB_nil {fit : D → Bool} {m : Nat} : okB fit m [] = decide (m ≤ 200) := rfl

/-! ### the while of is_built_of -/
def envB (d0 : D) (a : Addr) (n m : Nat) (p4 p5 : Option D) : AEnv := [some d0, some (.own a), some (.ref n), some (.int m), p4, p5, none]
def tB : TF := tAnd' (tTru (cVar 2)) (tVal (cBin opLe (cVar 3) (cC (.int 200))))
def bB (V : FV) : SF := (sSeq (sAsg (cMeth "list" mPop (cVar 2) aNil) (gT 2 (gCons' (gN 4) (gCons' (gN 5) gNil'))))
    (sSeq (sAug 3 opIAdd (cC (.int 1)))
    (sIf (tAnd' (tVal (cFn f_is_short_row (aCons (cVar 4) aNil))) (tVal (cBin opLe (cVar 5) (cC (.int 8)))))
      (sExpr (cMeth "list" mExtend (cVar 2) (aCons (cComp (iAny (cBin opIx (cVar 4) (cC (.int 1)))) (gN 6) tYes' (cTup (aCons (cVar 6) (aCons (cBin opAdd (cVar 5) (cC (.int 1))) aNil))) [6]) aNil)))
      (sIf (tNot' (tVal (cCallV 1 [(V.a_is_single, f_is_single)] (aCons (cVar 4) aNil))))
      (sRet (cC (.bl false)))
      sPass))))
theorem built_b (V : FV) : b_is_built_of V = (sSeq (sSet 2 (cLst (aCons (cTup (aCons (cVar 0) (aCons (cC (.int 1)) aNil))) aNil)))
    (sSeq (sSet 3 (cC (.int 0)))
    (sSeq (sWhile 300 tB (bB V)) (sRet (cBin opLe (cVar 3) (cC (.int 200))))))) := rfl
theorem tB_ok {d0 : D} {a : Addr} {n m : Nat} {p4 p5 : Option D} {h : AH} {xs : List D} (e : h[n]? = some (.lst xs)) : tB (envB d0 a n m p4 p5) h = .ok (!xs.isEmpty && decide (m ≤ 200)) h := by
  have q1 : tTru (cVar 2) (envB d0 a n m p4 p5) h = .ok (!xs.isEmpty) h := by
    have q : truD (.ref n) h = some (!xs.isEmpty) := by simp only [truD, e]
    show (Res.ok (D.ref n) h).bind _ = _
    rw [Res.bind_ok, q]
  have q2 : tVal (cBin opLe (cVar 3) (cC (.int 200))) (envB d0 a n m p4 p5) h = .ok (decide (m ≤ 200)) h := by
    refine tVal_eq ((cBin_eq rfl rfl).trans ?_)
    show Res.ok (D.bl (decide ((m : Int) ≤ 200))) h = _
    congr 2
    exact decide_eq_decide.mpr (by omega)
  cases c : (!xs.isEmpty) with
  | false => rw [c] at q1; exact tAnd_f q1
  | true => rw [c] at q1; exact (tAnd_t q1).trans q2
/-- what pop tells and leaves -/
theorem pop_ok {d0 : D} {a : Addr} {n m : Nat} {p4 p5 : Option D} {h : AH} {xs : List D} {d : D} {k : Int} (e : h[n]? = some (.lst (xs ++ [.tup [d, .int k]]))) :
    sAsg (cMeth "list" mPop (cVar 2) aNil) (gT 2 (gCons' (gN 4) (gCons' (gN 5) gNil'))) (envB d0 a n m p4 p5) h = .nx (envB d0 a n m (some d) (some (.int k))) (h.set n (.lst xs)) := by
  have q : cMeth "list" mPop (cVar 2) aNil (envB d0 a n m p4 p5) h = .ok (.tup [d, .int k]) (h.set n (.lst xs)) := by
    refine (cMeth_eq (d := .ref n) (ds := []) rfl (by simp [isTy, tyD, e]) rfl).trans ?_
    simp [mPop, e]
  unfold sAsg
  rw [q, Res.st_ok]
  rfl
theorem aug_ok {d0 : D} {a : Addr} {n m : Nat} {p4 p5 : Option D} {h : AH} : sAug 3 opIAdd (cC (.int 1)) (envB d0 a n m p4 p5) h = .nx (envB d0 a n (m + 1) p4 p5) h := rfl

/-- what extend does -/
theorem ext_ok {d0 : D} {a : Addr} {n m : Nat} {h : AH} {xs ps : List D} {w : D} {k : Int} (e : h[n]? = some (.lst xs)) (hs : xs.length + ps.length ≤ 50000) :
    sExpr (cMeth "list" mExtend (cVar 2) (aCons (cComp (iAny (cBin opIx (cVar 4) (cC (.int 1)))) (gN 6) tYes' (cTup (aCons (cVar 6) (aCons (cBin opAdd (cVar 5) (cC (.int 1))) aNil))) [6]) aNil)) (envB d0 a n m (some (.tup [w, .tup ps])) (some (.int k))) h
      = .nx (envB d0 a n m (some (.tup [w, .tup ps])) (some (.int k))) ((h ++ [O.lst (ps.map fun p => D.tup [p, .int (k + 1)])]).set n (.lst (xs ++ ps.map fun p => D.tup [p, .int (k + 1)]))) := by
  have hn : n < h.length := (List.getElem?_eq_some_iff.mp e).1
  have hit : iAny (cBin opIx (cVar 4) (cC (.int 1))) (envB d0 a n m (some (.tup [w, .tup ps])) (some (.int k))) h = .ok (.fix ps) h := rfl
  have c := cComp_filter (t := tYes') (F := cTup (aCons (cVar 6) (aCons (cBin opAdd (cVar 5) (cC (.int 1))) aNil))) (g := gN 6) (own := [6]) hit (by rw [sizeLine_eq]; omega)
    (fun p => [some d0, some (.own a), some (.ref n), some (.int m), some (.tup [w, .tup ps]), some (.int k), some p]) (fun _ => true) (fun p => .tup [p, .int (k + 1)]) (fun _ _ _ => rfl) (fun _ _ _ => rfl)
    (fun p _ h => cTup_eq (ds := [p, .int (k + 1)]) rfl (by rw [sizeLine_eq]; exact Nat.le_of_ble_eq_true rfl))
  rw [List.filter_eq_self.mpr fun _ _ => rfl] at c
  have ty : isTy "list" (.ref n) h = true := by simp [isTy, tyD, e]
  have q := cMeth_eq (f := mExtend) (F := cVar 2) (d := .ref n) (h1 := h) (ε := envB d0 a n m (some (.tup [w, .tup ps])) (some (.int k))) rfl ty (aCons_eq c aNil_eq)
  refine sExpr_eq (d := .non) (q.trans ?_)
  have e2 : (h ++ [O.lst (ps.map fun p => D.tup [p, .int (k + 1)])])[n]? = some (.lst xs) := by rw [List.getElem?_append_left hn]; exact e
  have e3 : (h ++ [O.lst (ps.map fun p => D.tup [p, .int (k + 1)])])[h.length]? = some (.lst (ps.map fun p => D.tup [p, .int (k + 1)])) := by simp
  simp only [mExtend, e2, e3, List.length_map]
  rw [if_pos (by rw [sizeLine_eq]; omega)]

/-- the def that is handed in -/
structure Fit (V : FV) (a : Addr) (fit : D → Bool) : Prop where
  ex : ∃ c : FN, [(V.a_is_single, f_is_single)].lookup a = some c ∧ ∀ d h, Fair h d → c [d] h = .ok (.bl (fit d)) h
theorem fit_single (V : FV) : Fit V V.a_is_single singleB := ⟨_, by simp [List.lookup], fun _ _ f => single_ok f⟩
/-- a turn of the while -/
theorem bB_ok {V : FV} {a : Addr} {fit : D → Bool} (hF : Fit V a fit) {d0 : D} {n m : Nat} {p4 p5 : Option D} {h h0 : AH} {S : List (D × Nat)} {d : D} {r : Nat} (hr : r ≤ 8) (hn : n = h0.length) (p : h0 <+: h) (fd : Fair h0 d) (e : h[n]? = some (.lst ((S ++ [(d, r)]).map pr))) (hs : S.length ≤ 40000) :
    match r, rowD d with
    | r + 1, some ps => ∃ h', h0 <+: h' ∧ h'[n]? = some (.lst ((S ++ ps.map fun p => (p, r)).map pr)) ∧ ∃ q4 q5, bB V (envB d0 a n m p4 p5) h = .nx (envB d0 a n (m + 1) q4 q5) h'
    | _, _ => if fit d = true then ∃ h', h0 <+: h' ∧ h'[n]? = some (.lst (S.map pr)) ∧ ∃ q4 q5, bB V (envB d0 a n m p4 p5) h = .nx (envB d0 a n (m + 1) q4 q5) h' else ∃ h', h0 <+: h' ∧ bB V (envB d0 a n m p4 p5) h = .ret (.bl false) h' := by
  subst hn
  have hn : h0.length < h.length := (List.getElem?_eq_some_iff.mp e).1
  have e0 : h[h0.length]? = some (.lst (S.map pr ++ [.tup [d, .int (9 - r)]])) := by rw [e, List.map_append]; rfl
  have p1 : h0 <+: h.set h0.length (.lst (S.map pr)) := by
    obtain ⟨t, rfl⟩ := p
    rw [List.set_append_right (h := Nat.le_refl _)]
    exact List.prefix_append _ _
  have e1 : (h.set h0.length (.lst (S.map pr)))[h0.length]? = some (O.lst (S.map pr)) := by simp [hn]
  have run := (sSeq_nx (b := sSeq (sAug 3 opIAdd (cC (.int 1)))
    (sIf (tAnd' (tVal (cFn f_is_short_row (aCons (cVar 4) aNil))) (tVal (cBin opLe (cVar 5) (cC (.int 8)))))
      (sExpr (cMeth "list" mExtend (cVar 2) (aCons (cComp (iAny (cBin opIx (cVar 4) (cC (.int 1)))) (gN 6) tYes' (cTup (aCons (cVar 6) (aCons (cBin opAdd (cVar 5) (cC (.int 1))) aNil))) [6]) aNil)))
      (sIf (tNot' (tVal (cCallV 1 [(V.a_is_single, f_is_single)] (aCons (cVar 4) aNil))))
      (sRet (cC (.bl false)))
      sPass))) (pop_ok (d0 := d0) (a := a) (m := m) (p4 := p4) (p5 := p5) e0)).trans (sSeq_nx aug_ok)
  generalize h.set h0.length (.lst (S.map pr)) = h1 at p1 e1 run
  have f1 : Fair h1 d := fd.pre p1
  have t1 : tVal (cFn f_is_short_row (aCons (cVar 4) aNil)) (envB d0 a h0.length (m + 1) (some d) (some (.int (9 - r)))) h1 = .ok (rowD d).isSome h1 := tVal_eq ((cFn_eq (aCons_eq rfl aNil_eq)).trans (shortRow_ok f1))
  have t2 : tVal (cBin opLe (cVar 5) (cC (.int 8))) (envB d0 a h0.length (m + 1) (some d) (some (.int (9 - r)))) h1 = .ok (decide (9 - (r : Int) ≤ 8)) h1 := tVal_eq ((cBin_eq rfl rfl).trans rfl)
  have leaf : (tAnd' (tVal (cFn f_is_short_row (aCons (cVar 4) aNil))) (tVal (cBin opLe (cVar 5) (cC (.int 8))))) (envB d0 a h0.length (m + 1) (some d) (some (.int (9 - r)))) h1 = .ok false h1 →
      if fit d = true then ∃ h', h0 <+: h' ∧ h'[h0.length]? = some (.lst (S.map pr)) ∧ ∃ q4 q5, bB V (envB d0 a h0.length m p4 p5) h = .nx (envB d0 a h0.length (m + 1) q4 q5) h' else ∃ h', h0 <+: h' ∧ bB V (envB d0 a h0.length m p4 p5) h = .ret (.bl false) h' := fun t => by
    obtain ⟨c, ec, hc⟩ := hF.ex
    have q : tVal (cCallV 1 [(V.a_is_single, f_is_single)] (aCons (cVar 4) aNil)) (envB d0 a h0.length (m + 1) (some d) (some (.int (9 - r)))) h1 = .ok (fit d) h1 := by
      refine tVal_eq ?_
      show (match ([(V.a_is_single, f_is_single)] : List (Addr × FN)).lookup a with | some c => ((aCons (cVar 4) aNil) (envB d0 a h0.length (m + 1) (some d) (some (.int (9 - r)))) h1).bind c | none => .stuck) = _
      rw [ec]
      exact hc d h1 f1
    have run := run.trans (sIf_f t)
    cases c : fit d with
    | true =>
      rw [c] at q
      rw [if_pos rfl]
      exact ⟨h1, p1, e1, some d, some (.int (9 - r)), run.trans ((sIf_f (tNot_eq q)).trans rfl)⟩
    | false =>
      rw [c] at q
      rw [if_neg Bool.false_ne_true]
      exact ⟨h1, p1, run.trans ((sIf_t (tNot_eq q)).trans (sRet_eq rfl))⟩
  cases r with
  | zero =>
    refine leaf ?_
    cases c : (rowD d).isSome with
    | false => rw [c] at t1; exact tAnd_f t1
    | true => rw [c] at t1; exact (tAnd_t t1).trans t2
  | succ r =>
    cases c : rowD d with
    | none =>
      rw [c] at t1
      exact leaf (tAnd_f t1)
    | some ps =>
      rw [c] at t1
      obtain ⟨hp, fp, w, rfl⟩ := rowD_parts f1 c
      rw [decide_eq_true (show 9 - ((r + 1 : Nat) : Int) ≤ 8 by omega)] at t2
      have ek : (9 - ((r + 1 : Nat) : Int)) + 1 = 9 - (r : Int) := by omega
      have x := ext_ok (d0 := d0) (a := a) (m := m + 1) (w := w) (ps := ps) (k := 9 - ((r + 1 : Nat) : Int)) e1 (by rw [List.length_map]; omega)
      rw [ek] at x
      have l1 : h0.length < h1.length := (List.getElem?_eq_some_iff.mp e1).1
      refine ⟨_, ?_, ?_, _, _, run.trans ((sIf_t ((tAnd_t t1).trans t2)).trans x)⟩
      · obtain ⟨t, rfl⟩ := p1
        rw [List.append_assoc, List.set_append_right (h := Nat.le_refl _)]
        exact List.prefix_append _ _
      · rw [List.getElem?_set_self (by rw [List.length_append]; omega), List.map_append, List.map_map]
        rfl
/-- the whole of the while and what is told behind it -/
theorem loopB {V : FV} {a : Addr} {fit : D → Bool} (hF : Fit V a fit) {d0 : D} {h0 : AH} : ∀ (fuel : Nat) (S : List (D × Nat)) (m : Nat) (h : AH) (p4 p5 : Option D), 202 ≤ fuel + m → m ≤ 201 → S.length ≤ 40 * m + 1 → (∀ q ∈ S, Fair h0 q.1 ∧ q.2 ≤ 8) → h0 <+: h → h[h0.length]? = some (.lst (S.map pr)) →
    ∃ h', h0 <+: h' ∧ ((∃ m' q4 q5, whileGo tB (bB V) fuel (envB d0 a h0.length m p4 p5) h = .nx (envB d0 a h0.length m' q4 q5) h' ∧ decide (m' ≤ 200) = okB fit m S) ∨ (whileGo tB (bB V) fuel (envB d0 a h0.length m p4 p5) h = .ret (.bl false) h' ∧ okB fit m S = false)) := by
  intro fuel
  induction fuel with
  | zero => intro S m h p4 p5 h1 h2; omega
  | succ fuel ih =>
    intro S m h p4 p5 h1 h2 hs hq p e
    have t := tB_ok (d0 := d0) (a := a) (m := m) (p4 := p4) (p5 := p5) e
    have go : whileGo tB (bB V) (fuel + 1) (envB d0 a h0.length m p4 p5) h = if (!(S.map pr).isEmpty && decide (m ≤ 200)) = true then match bB V (envB d0 a h0.length m p4 p5) h with
      | .nx ε2 h2 => whileGo tB (bB V) fuel ε2 h2
      | .cnt ε2 h2 => whileGo tB (bB V) fuel ε2 h2
      | .brk ε2 h2 => .nx ε2 h2
      | r => r
      else .nx (envB d0 a h0.length m p4 p5) h := by
      rw [whileGo, t, Res.st_ok]
      try (generalize bB V (envB d0 a h0.length m p4 p5) h = R; cases R <;> rfl)
    rcases List.eq_nil_or_concat S with rfl | ⟨T, x, rfl⟩
    · refine ⟨h, p, .inl ⟨m, p4, p5, ?_, okB_nil.symm⟩⟩
      rw [go]
      rfl
    · by_cases hm : m ≤ 200
      · obtain ⟨d, r⟩ := x
        rw [List.concat_eq_append] at e hs hq go ⊢
        have ne : (!((T ++ [(d, r)]).map pr).isEmpty && decide (m ≤ 200)) = true := by
          rw [decide_eq_true hm]
          simp
        rw [if_pos ne] at go
        obtain ⟨fd, hr⟩ := hq (d, r) (by simp)
        rw [List.length_append] at hs
        have hT : T.length ≤ 40 * m := by simpa using hs
        have b := bB_ok (V := V) hF (d0 := d0) (m := m) (p4 := p4) (p5 := p5) hr rfl p fd e (by omega)
        rw [okB_top hm]
        have leaf : (if fit d = true then ∃ h', h0 <+: h' ∧ h'[h0.length]? = some (.lst (T.map pr)) ∧ ∃ q4 q5, bB V (envB d0 a h0.length m p4 p5) h = .nx (envB d0 a h0.length (m + 1) q4 q5) h' else ∃ h', h0 <+: h' ∧ bB V (envB d0 a h0.length m p4 p5) h = .ret (.bl false) h') →
            ∃ h', h0 <+: h' ∧ ((∃ m' q4 q5, whileGo tB (bB V) (fuel + 1) (envB d0 a h0.length m p4 p5) h = .nx (envB d0 a h0.length m' q4 q5) h' ∧ decide (m' ≤ 200) = if fit d = true then okB fit (m + 1) T else false) ∨ (whileGo tB (bB V) (fuel + 1) (envB d0 a h0.length m p4 p5) h = .ret (.bl false) h' ∧ (if fit d = true then okB fit (m + 1) T else false) = false)) := fun b => by
          by_cases c : fit d = true
          · rw [if_pos c] at b
            obtain ⟨h', p', e', q4, q5, g⟩ := b
            rw [g] at go
            rw [go, if_pos c]
            exact ih T (m + 1) h' q4 q5 (by omega) (by omega) (by omega) (fun q hq' => hq q (List.mem_append_left _ hq')) p' e'
          · rw [if_neg c] at b
            obtain ⟨h', p', g⟩ := b
            rw [g] at go
            rw [go, if_neg c]
            exact ⟨h', p', .inr ⟨rfl, rfl⟩⟩
        cases r with
        | zero => exact leaf b
        | succ r =>
          cases c : rowD d with
          | none =>
            simp only [c] at b
            exact leaf b
          | some ps =>
            simp only [c] at b
            obtain ⟨hp, fp, w, _⟩ := rowD_parts fd c
            obtain ⟨h', p', e', q4, q5, g⟩ := b
            rw [g] at go
            rw [go]
            refine ih (T ++ ps.map fun p => (p, r)) (m + 1) h' q4 q5 (by omega) (by omega) (by rw [List.length_append, List.length_map]; omega) (fun q hq' => ?_) p' e'
            rcases List.mem_append.mp hq' with i | i
            · exact hq q (List.mem_append_left _ i)
            · obtain ⟨y, hy, rfl⟩ := List.mem_map.mp i
              exact ⟨fp y hy, by show r ≤ 8; omega⟩
      · refine ⟨h, p, .inl ⟨m, p4, p5, ?_, ?_⟩⟩
        · rw [go, if_neg (by rw [decide_eq_false hm, Bool.and_false]; exact Bool.false_ne_true)]
        · rw [okB_over (by omega), decide_eq_false hm]
theorem built_ok {V : FV} {a : Addr} {fit : D → Bool} (hF : Fit V a fit) {d : D} {h : AH} (f : Fair h d) : ∃ h', h <+: h' ∧ f_is_built_of V [d, .own a] h = .ok (.bl (okB fit 0 [(d, 8)])) h' := by
  obtain ⟨h', p, q⟩ := loopB (V := V) hF (d0 := d) (h0 := h) 300 [(d, 8)] 0 (h ++ [.lst [pr (d, 8)]]) none none (by omega) (by omega) (by simp) (by simpa using f) (List.prefix_append _ _) (by simp)
  refine ⟨h', p, runB_ret rfl ?_⟩
  rw [built_b]
  have s1 := sSet_eq (i := 2) (ε := [some d, some (.own a), none, none, none, none, none]) (h := h) (cLst_eq (ds := [pr (d, 8)]) (A := aCons (cTup (aCons (cVar 0) (aCons (cC (.int 1)) aNil))) aNil) (h1 := h) (aCons_eq (cTup_eq (ds := [d, .int 1]) rfl (by rw [sizeLine_eq]; exact Nat.le_of_ble_eq_true rfl)) aNil_eq) (by rw [sizeLine_eq]; exact Nat.le_of_ble_eq_true rfl))
  refine (sSeq_nx s1).trans ((sSeq_nx (sSet_eq rfl)).trans ?_)
  rcases q with ⟨m', q4, q5, e, c⟩ | ⟨e, c⟩
  · refine (sSeq_nx (a := sWhile 300 tB (bB V)) e).trans (sRet_eq ((cBin_eq rfl rfl).trans ?_))
    show Res.ok (D.bl (decide ((m' : Int) ≤ 200))) h' = _
    rw [← c]
    congr 2
    exact decide_eq_decide.mpr (by omega)
  · rw [c]
    exact sSeq_ret (a := sWhile 300 tB (bB V)) e
theorem isWorth_ok {V : FV} {d : D} {h : AH} (f : Fair h d) : ∃ h', h <+: h' ∧ f_is_worth V [d] h = .ok (.bl (okB singleB 0 [(d, 8)])) h' := by
  obtain ⟨h', p, e⟩ := built_ok (fit_single V) f
  exact ⟨h', p, runB_ret rfl (sRet_eq ((cFn_eq (aCons_eq rfl (aCons_eq rfl aNil_eq))).trans e))⟩
end K04

namespace K04
open Mi L2 PySem PySem.Spec PyProof.Rows
/-! ### texts of worths -/
abbrev S (l : List Nat) : Str := ⟨l.toArray⟩
def okc (c : Nat) : Prop := 32 ≤ c ∧ c ≤ 126 ∧ c ≠ 37 ∧ c ≠ 39
def nm (l : List Nat) : Prop := 1 ≤ l.length ∧ l.length ≤ 8 ∧ ∀ c ∈ l, 97 ≤ c ∧ c ≤ 122
def dg (k : Nat) : List Nat := (Nat.toDigits 10 k).map Char.toNat
def it : Int → List Nat
  | .ofNat k => dg k
  | .negSucc k => 45 :: dg (k + 1)
abbrev rowT (ds : List D) : D := .tup [.str "row", .tup ds]
def dkw (b : Bool) : Str := if b = true then "deed" else "kind"
inductive Lf : D → Prop
  | non : Lf .non
  | bl (b : Bool) : Lf (.bl b)
  | int (z : Int) : z.natAbs ≤ 10 ^ 15 → Lf (.int z)
  | str (l : List Nat) : l.length ≤ 20 → (∀ c ∈ l, okc c) → Lf (.str (S l))
  | thing (k : Nat) : k ≤ 10 ^ 15 → Lf (.tup [.str "thing", .int k])
  | dk (b : Bool) (m n : List Nat) : nm m → nm n → Lf (.tup [.str (dkw b), .str (S m), .str (S n)])
def lt : D → List Nat
  | .non => [110, 111, 110, 101]
  | .bl true => [121, 101, 115]
  | .bl false => [110, 111]
  | .int z => it z
  | .str x => 39 :: (x.cps.toList ++ [39])
  | .tup [.str _, .int k] => 35 :: it k
  | .tup [.str w, .str a, .str b] => a.cps.toList ++ (if w = "deed" then 46 else 58) :: b.cps.toList
  | _ => []
inductive V : Nat → D → Prop
  | leaf {n : Nat} {d : D} : Lf d → V n d
  | row {n : Nat} {ds : List D} : ds.length ≤ 40 → (∀ d ∈ ds, V n d) → V (n + 1) (rowT ds)
def sepL : List (List Nat) → List Nat
  | [] => []
  | [a] => a
  | a :: r => a ++ 32 :: sepL r
def tx : Nat → D → List Nat
  | n + 1, .tup [.str _, .tup ds] => 91 :: (sepL (ds.map (tx n)) ++ [93])
  | _, d => lt d
def cn : Nat → D → Nat
  | n + 1, .tup [.str _, .tup ds] => 1 + (ds.map (cn n)).sum
  | _, _ => 1
theorem tx_leaf {n : Nat} {d : D} (h : Lf d) : tx n d = lt d := by cases h <;> cases n <;> rfl
theorem tx_row {n : Nat} {ds : List D} : tx (n + 1) (rowT ds) = 91 :: (sepL (ds.map (tx n)) ++ [93]) := rfl
theorem cn_leaf {n : Nat} {d : D} (h : Lf d) : cn n d = 1 := by cases h <;> cases n <;> rfl
theorem cn_row {n : Nat} {ds : List D} : cn (n + 1) (rowT ds) = 1 + (ds.map (cn n)).sum := rfl
theorem V.up {n : Nat} {d : D} (w : V n d) : V (n + 1) d ∧ cn (n + 1) d = cn n d ∧ tx (n + 1) d = tx n d := by
  induction w with
  | leaf h => exact ⟨.leaf h, by rw [cn_leaf h, cn_leaf h], by rw [tx_leaf h, tx_leaf h]⟩
  | row h1 h2 ih =>
    refine ⟨.row h1 fun d hd => (ih d hd).1, ?_, ?_⟩
    · rw [cn_row, cn_row]
      congr 2
      exact List.map_congr_left fun d hd => (ih d hd).2.1
    · rw [tx_row, tx_row]
      congr 3
      exact List.map_congr_left fun d hd => (ih d hd).2.2
theorem V.mono {n m : Nat} {d : D} (w : V n d) (h : n ≤ m) : V m d ∧ cn m d = cn n d := by
  induction h with
  | refl => exact ⟨w, rfl⟩
  | step _ ih => exact ⟨ih.1.up.1, ih.1.up.2.1.trans ih.2⟩
/-! ### numbers' texts -/
theorem digit_of {k c : Nat} (h : c ∈ dg k) : 48 ≤ c ∧ c ≤ 57 := by
  obtain ⟨x, hx, rfl⟩ := List.mem_map.mp h
  have d : x.isDigit = true := Nat.isDigit_of_mem_toDigits (b := 10) (n := k) (by decide) (by decide) hx
  unfold Char.isDigit at d
  rw [Bool.and_eq_true, decide_eq_true_eq, decide_eq_true_eq] at d
  exact ⟨UInt32.le_iff_toNat_le.mp d.1, UInt32.le_iff_toNat_le.mp d.2⟩
theorem dg_ne (k : Nat) : dg k ≠ [] := by
  unfold dg
  intro e
  exact Nat.toDigits_ne_nil (b := 10) (n := k) (List.map_eq_nil_iff.mp e)
theorem it_str (z : Int) : (Str.ofString (toString z) : Str) = S (it z) := by
  have key : (Str.ofString (toString z) : Str).cps.toList = it z := by
    cases z with
    | ofNat m => exact PySem.W.KIN.signs_num m
    | negSucc m =>
      rw [signs_ofString]
      show List.map Char.toNat (("-" : String) ++ Nat.repr (m + 1)).toList = _
      rw [String.toList_append, List.map_append]
      have := PySem.W.KIN.signs_num (m + 1)
      rw [signs_ofString] at this
      show [45] ++ _ = 45 :: _
      rw [show Nat.repr (m + 1) = toString (((m + 1 : Nat) : Int)) from rfl, this]
      rfl
  rw [← key]
/-! ### leaves -/
theorem len_S (l : List Nat) : (S l).length = l.length := by simp [Str.length]
theorem asc_S {l : List Nat} {n : Nat} (h : l.length ≤ n) (k : ∀ c ∈ l, c < 128) : Asc n (S l) := ⟨by rw [len_S]; exact h, k⟩
theorem Lf.asc {l : List Nat} (k : ∀ c ∈ l, okc c) : ∀ c ∈ l, c < 128 := fun c hc => by have := (k c hc).2.1; omega
theorem nm.asc {l : List Nat} (k : nm l) : Asc 8 (S l) := asc_S k.2.1 fun c hc => by have := (k.2.2 c hc).2; omega
theorem dkw_asc (b : Bool) : Asc 4 (dkw b) := by
  cases b
  · exact ⟨by decide +kernel, by decide +kernel⟩
  · exact ⟨by decide +kernel, by decide +kernel⟩
theorem thing_asc : Asc 5 ("thing" : Str) := ⟨by decide +kernel, by decide +kernel⟩
theorem row_asc : Asc 3 ("row" : Str) := ⟨by decide +kernel, by decide +kernel⟩
theorem Asc.fair {h : AH} {n : Nat} {x : Str} (a : Asc n x) (hn : n ≤ 100000) : Fair h (.str x) := .str x (Nat.le_trans a.1 hn) a.ok
theorem Lf.fair {h : AH} {d : D} (w : Lf d) : Fair h d := by
  cases w with
  | non => exact .non
  | bl b => exact .bl b
  | int z _ => exact .int z
  | str l h1 h2 => exact Asc.fair (asc_S h1 (Lf.asc h2)) (by omega)
  | thing k h1 => exact .tup _ (by simp) (by
      intro d hd
      simp only [List.mem_cons, List.not_mem_nil, or_false] at hd
      rcases hd with rfl | rfl
      · exact Asc.fair thing_asc (by omega)
      · exact .int _)
  | dk b m n h1 h2 => exact .tup _ (by simp) (by
      intro d hd
      simp only [List.mem_cons, List.not_mem_nil, or_false] at hd
      rcases hd with rfl | rfl | rfl
      · exact Asc.fair (dkw_asc b) (by omega)
      · exact Asc.fair h1.asc (by omega)
      · exact Asc.fair h2.asc (by omega))
theorem V.fair {h : AH} {n : Nat} {d : D} (w : V n d) : Fair h d := by
  induction w with
  | leaf h => exact h.fair
  | row h1 h2 ih =>
    refine .tup _ (by simp) fun d hd => ?_
    simp only [List.mem_cons, List.not_mem_nil, or_false] at hd
    rcases hd with rfl | rfl
    · exact Asc.fair row_asc (by omega)
    · exact .tup _ (by omega) ih
theorem sign_ok {c : Nat} (h : okc c) : plainSign c = true := by
  obtain ⟨h1, h2, h3, h4⟩ := h
  have : ∀ c : Fin 127, 32 ≤ c.val → c.val ≠ 37 → c.val ≠ 39 → plainSign c.val = true := by decide +kernel
  exact this ⟨c, by omega⟩ h1 h3 h4
theorem name_ok {l : List Nat} (h : nm l) : nameB (S l) = true := by
  have : ∀ c : Fin 123, 97 ≤ c.val → between "a" "z" c.val = true := by decide +kernel
  unfold nameB
  rw [len_S]
  simp only [Bool.and_eq_true, decide_eq_true_eq, List.all_eq_true]
  exact ⟨⟨h.1, h.2.1⟩, fun c hc => this ⟨c, by have := (h.2.2 c hc).2; omega⟩ (h.2.2 c hc).1⟩
theorem Lf.single {d : D} (w : Lf d) : singleB d = true := by
  cases w with
  | non => rfl
  | bl b => rfl
  | int z h =>
    unfold singleB
    have : plainSingle (.int z) = true := by
      show (decide (-1000000000000000 ≤ z) && decide (z ≤ 1000000000000000)) = true
      rw [Bool.and_eq_true, decide_eq_true_eq, decide_eq_true_eq]
      constructor <;> omega
    rw [this, Bool.true_or]
  | str l h1 h2 =>
    unfold singleB
    have : plainSingle (.str (S l)) = true := by
      show (decide ((S l).length ≤ 20) && (S l).cps.toList.all plainSign) = true
      rw [len_S, Bool.and_eq_true, decide_eq_true_eq, List.all_eq_true]
      exact ⟨h1, fun c hc => sign_ok (h2 c hc)⟩
    rw [this, Bool.true_or]
  | thing k h1 =>
    unfold singleB
    have : thingB (.tup [.str "thing", .int k]) = true := by
      show (isStr "thing" (.str "thing") && (decide ((0 : Int) ≤ k) && decide ((k : Int) ≤ 1000000000000000))) = true
      rw [decide_eq_true (show (0 : Int) ≤ k by omega), decide_eq_true (show (k : Int) ≤ 1000000000000000 by omega)]
      decide +kernel
    rw [this, Bool.true_or, Bool.or_true]
  | dk b m n h1 h2 =>
    unfold singleB
    have : deedB (.tup [.str (dkw b), .str (S m), .str (S n)]) = true := by
      show ((isStr "deed" (.str (dkw b)) || isStr "kind" (.str (dkw b))) && (nameB (S m) && nameB (S n))) = true
      rw [name_ok h1, name_ok h2]
      cases b <;> decide +kernel
    rw [this, Bool.or_true, Bool.or_true]
theorem Lf.norow {d : D} (w : Lf d) : rowD d = none := by
  cases w <;> first | rfl | skip
theorem cnt_V {n : Nat} {d : D} (w : V n d) : cnt singleB n d = some (cn n d) := by
  induction w with
  | leaf h =>
    rename_i n d
    rw [cn_leaf h]
    cases n with
    | zero => simp only [cnt]; rw [if_pos h.single]
    | succ n => simp only [cnt, h.norow]; rw [if_pos h.single]
  | row h1 h2 ih =>
    rename_i n ds
    have e : rowD (rowT ds) = some ds := by
      show (if (isStr "row" (.str "row") && decide (ds.length ≤ 40)) = true then some ds else none) = _
      rw [decide_eq_true h1]
      rfl
    simp only [cnt, e]
    have o : ∀ {xs : List D}, (∀ d ∈ xs, cnt singleB n d = some (cn n d)) → omap (cnt singleB n) xs = some (xs.map (cn n)) := fun {xs} => by
      induction xs with
      | nil => intro _; rfl
      | cons x xs ih2 =>
        intro g
        simp only [omap, g x List.mem_cons_self, ih2 fun d hd => g d (List.mem_cons_of_mem _ hd), List.map_cons]
    rw [o ih, cn_row]
    rfl
theorem worth_ok {V' : FV} {d : D} {h : AH} (w : V 8 d) (hc : cn 8 d ≤ 200) : ∃ h', h <+: h' ∧ f_is_worth V' [d] h = .ok (.bl true) h' := by
  obtain ⟨h', p, e⟩ := isWorth_ok (V := V') (h := h) (d := d) w.fair
  refine ⟨h', p, e.trans ?_⟩
  unfold okB
  simp only [cnts, cnt_V w]
  rw [decide_eq_true (by omega)]
/-! ### how long the texts are -/
theorem it_len {z : Int} (h : z.natAbs ≤ 10 ^ 15) : (it z).length ≤ 17 := by
  have key : ∀ k : Nat, k ≤ 10 ^ 15 → (dg k).length ≤ 16 := fun k hk => by
    unfold dg
    rw [List.length_map]
    exact (Nat.length_toDigits_le_iff (by omega) (by omega)).mpr (by omega)
  cases z with
  | ofNat k => exact Nat.le_trans (key k h) (by omega)
  | negSucc k =>
    show (45 :: dg (k + 1)).length ≤ 17
    rw [List.length_cons]
    have := key (k + 1) h
    omega
end K04

namespace K04
open Mi L2 PySem PySem.Spec PyProof.Rows
/-! ### methods of texts, by signs -/
theorem find3_one {l : List Nat} {c i k : Nat} (hi : i ≤ k) (hk : l[k]? = some c) (hn : ∀ j, i ≤ j → j < k → l[j]? ≠ some c) : Txt.find3 (S l) (S [c]) i = k := by
  have hlt : k < l.length := (List.getElem?_eq_some_iff.mp hk).1
  have fi : PySem.fromIndex (S l).length (i : Int) = i := by
    unfold PySem.fromIndex
    rw [if_neg (by omega)]
    omega
  have at' : ∀ j, StrLaws.At (S l) (S [c]) (S l).length j ↔ l[j]? = some c := fun j => StrLaws.subAt_one (S l) c j
  have key : ∃ r, Builtin.Str.occurrences (S l) (S [c]) i (S l).length 1 = k :: r := by
    rw [StrLaws.occ_eq]
    rcases StrLaws.occ_first (S l) (S [c]) (S l).length 1 (Nat.le_refl _) (List.range' i ((S l).length + 1 - i)) i (fun j hj => by have := List.mem_range'.mp hj; omega) with ⟨h0, hno⟩ | ⟨pre, a, post, e, h0, ha, hno⟩
    · exact absurd ((at' k).mpr hk) (hno k (by rw [len_S]; simp only [List.mem_range', Nat.one_mul]; exact ⟨k - i, by omega, by omega⟩))
    · have el : ∀ j (hj : j < pre.length), pre[j]? = some (i + j) := fun j hj => by
        have : (List.range' i ((S l).length + 1 - i))[j]? = some pre[j] := by
          rw [e, List.getElem?_append_left hj]
          exact List.getElem?_eq_getElem hj
        have l2 := (List.getElem?_eq_some_iff.mp this)
        obtain ⟨q1, q2⟩ := l2
        rw [List.getElem_range'] at q2
        rw [List.getElem?_eq_getElem hj, ← q2]
        simp
      have ea : a = i + pre.length := by
        have : (List.range' i ((S l).length + 1 - i))[pre.length]? = some a := by rw [e]; simp
        obtain ⟨q1, q2⟩ := List.getElem?_eq_some_iff.mp this
        rw [List.getElem_range'] at q2
        omega
      have ka : a = k := by
        have la := (at' a).mp ha
        rcases Nat.lt_trichotomy a k with h | h | h
        · exact absurd la (hn a (by omega) h)
        · exact h
        · have hm : k ∈ pre := by
            have := el (k - i) (by omega)
            rw [show i + (k - i) = k by omega] at this
            exact List.mem_of_getElem? this
          exact absurd ((at' k).mpr hk) (hno k hm)
      subst ka
      generalize (forIn (List.range' i ((S l).length + 1 - i)) ((#[] : Array Nat), i) (StrLaws.occBody (S l) (S [c]) (S l).length 1)).run.fst = arr at h0
      have h1 : arr.toList[0]? = some a := by simpa using h0
      cases hL : arr.toList with
      | nil => rw [hL] at h1; cases h1
      | cons b t => rw [hL] at h1; simp at h1; rw [h1]; exact ⟨t, rfl⟩
  obtain ⟨r, e⟩ := key
  unfold Txt.find3
  rw [fi, e]
theorem starts_one (l : List Nat) (c : Nat) : Txt.startswith (S l) (S [c]) = decide (l.head? = some c) := by
  have h := StrLaws.subAt_one (S l) c 0
  unfold Txt.startswith
  rw [Bool.eq_iff_iff, Bool.and_eq_true, decide_eq_true_eq, decide_eq_true_eq, List.head?_eq_getElem?]
  exact h
theorem rmpre_no {l : List Nat} {c : Nat} (h : l.head? ≠ some c) : Txt.removeprefix (S l) (S [c]) = S l := by
  have q : ¬ (Builtin.Str.subAt (S l) (S [c]) 0 = true) := fun e => by
    cases l with
    | nil =>
      have : Builtin.Str.subAt (S []) (S [c]) 0 = false := by
        unfold Builtin.Str.subAt
        simp
      rw [this] at e
      cases e
    | cons x r =>
      have hl : 0 + (S [c]).length ≤ (S (x :: r)).length := by rw [len_S, len_S]; simp
      exact h (by rw [List.head?_eq_getElem?]; exact (StrLaws.subAt_one (S (x :: r)) c 0).mp ⟨hl, e⟩)
  unfold Txt.removeprefix
  rw [if_neg q]
  rfl
theorem rmpre_yes (l : List Nat) (c : Nat) : Txt.removeprefix (S (c :: l)) (S [c]) = S l := by
  have q : Builtin.Str.subAt (S (c :: l)) (S [c]) 0 = true := ((StrLaws.subAt_one (S (c :: l)) c 0).mpr rfl).2
  unfold Txt.removeprefix
  rw [if_pos q]
  unfold Txt.affix
  simp only [len_S, List.length_cons, List.length_nil]
  rw [if_neg (by simp)]
  refine TL.ext_tl ?_
  have := TL.tl_strSub_end (S (c :: l)) 1
  rw [len_S, List.length_cons] at this
  exact this
theorem ascii_S {l : List Nat} (h : ∀ c ∈ l, c < 128) : Txt.isascii (S l) = true := by
  unfold Txt.isascii
  rw [Array.all_eq_true']
  intro c hc
  rw [decide_eq_true_eq]
  exact h c (by simpa using hc)
theorem isdigit_S {l : List Nat} (h : ∀ c ∈ l, 48 ≤ c ∧ c ≤ 57) (hne : l ≠ []) : Txt.isdigit (S l) = true := by
  have dig : ∀ c : Fin 58, 48 ≤ c.val → Unicode.isDigit c.val = true := by decide +kernel
  unfold Txt.isdigit
  rw [Bool.and_eq_true, decide_eq_true_eq, len_S, Array.all_eq_true']
  refine ⟨List.length_pos_iff.mpr hne, fun c hc => ?_⟩
  have := h c (by simpa using hc)
  exact dig ⟨c, by omega⟩ this.1
theorem cut_S (l : List Nat) (i j : Nat) : cutS (S l) (some i) (some j) = S ((l.drop (min i l.length)).take (min j l.length - min i l.length)) := by
  unfold cutS
  rw [HT.sIx_nat, HT.sIx_nat, len_S]
theorem cut_from (l : List Nat) (i : Nat) : cutS (S l) (some i) none = S ((l.drop (min i l.length)).take (l.length - min i l.length)) := by
  unfold cutS
  rw [HT.sIx_nat, HT.sIx_none, len_S]
theorem cut_neg1 (l : List Nat) (i : Nat) : cutS (S l) (some i) (some (-1)) = S ((l.drop (min i l.length)).take (l.length - 1 - min i l.length)) := by
  unfold cutS
  rw [HT.sIx_nat, len_S]
  have : HT.sIx l.length l.length (some (-1)) = l.length - 1 := by
    unfold HT.sIx
    simp only
    rw [if_pos (by omega)]
    omega
  rw [this]
theorem num_back {z : Int} (h : z.natAbs ≤ 10 ^ 15) : PySem.intText? (S (it z)) = some z := by
  have hl := it_len h
  cases z with
  | ofNat k =>
    have e := PySem.intText_digits (x := S (dg k)) (fun c hc => digit_of hc) (dg_ne k) (by rw [len_S]; have : (dg k).length ≤ 17 := hl; omega)
    have v : PySem.NumText.digitsVal (S (dg k)).cps.toList = k := PySem.W.KIN.val_back k
    rw [v] at e
    exact e
  | negSucc k =>
    have e := PySem.intText_neg (x := S (45 :: dg (k + 1))) (cs := dg (k + 1)) rfl (fun c hc => digit_of hc) (dg_ne _) (by rw [len_S]; have : (45 :: dg (k + 1)).length ≤ 17 := hl; omega)
    have v : PySem.NumText.digitsVal (dg (k + 1)) = k + 1 := PySem.W.KIN.val_back (k + 1)
    rw [v] at e
    exact e
/-- the parting signs -/
def ptg (c : Nat) : Bool := c == 40 || c == 41 || c == 91 || c == 93 || c == 32 || c == 39
theorem in_ptg (c : Nat) : (!(Builtin.Str.occurrences "()[] '" (S [c]) 0 ("()[] '" : Str).length 1).isEmpty) = ptg c := by
  have := StrLaws.found_one "()[] '" c
  rw [show (⟨#[c]⟩ : Str) = S [c] from rfl] at this
  rw [this]
  have e : (("()[] '" : String) : Str).cps.toList = [40, 41, 91, 93, 32, 39] := by decide +kernel
  rw [e, Bool.eq_iff_iff, decide_eq_true_eq]
  simp [ptg, or_assoc]
end K04

namespace Mi
open L2 PySem PySem.Spec PyProof.Rows
/-- the same over any row that stays as it is -/
theorem cComp_any {iF : IF} {it : AIt} {g : TF'} {t : TF} {F : EF} {own : List Nat} {ε : AEnv} {h h1 : AH} {ds : List D} (hi : iF ε h = .ok it h1) (hit : it.len = ds.length) (hat : ∀ h, h1 <+: h → (∀ i, i < ds.length → it.item i h = ds[i]?) ∧ it.fin h = true) (hs : ds.length < sizeLine) (e : D → AEnv) (b : D → Bool) (y : D → D)
    (hg : ∀ d ∈ ds, ∀ h, g d (wipeA ε own) h = some (e d)) (ht : ∀ d ∈ ds, ∀ h, h1 <+: h → ∃ h', h <+: h' ∧ t (e d) h = .ok (b d) h') (hF : ∀ d ∈ ds, b d = true → ∀ h, h1 <+: h → ∃ h', h <+: h' ∧ F (e d) h = .ok (y d) h') :
    ∃ h', h1 <+: h' ∧ h'[h1.length]? = some (.lst ((ds.filter b).map y)) ∧ cComp iF g t F own ε h = .ok (.ref h1.length) h' := by
  have tk : ∀ i (hi : i < ds.length), ds.take (i + 1) = ds.take i ++ [ds[i]] := fun i hi => by rw [List.take_succ, List.getElem?_eq_getElem hi]; rfl
  obtain ⟨acc, h', e1, rfl, p, k⟩ := cComp_inv (it := it) (g := g) (t := t) (F := F) (own := own) hi (fun i acc h2 => acc = ((ds.take i).filter b).map y ∧ h1 <+: h2 ∧ h2[h1.length]? = some (.lst acc)) ds.length hit hs
    (by rintro i acc h2 ⟨_, _, k⟩; exact k)
    (by
      rintro i acc h2 ⟨rfl, _⟩
      rw [List.length_map]
      exact Nat.le_trans (List.length_filter_le _ _) (by rw [List.length_take]; exact Nat.min_le_left _ _))
    ⟨by simp, List.prefix_append _ _, by simp⟩
    (by
      rintro i acc h2 hlt ⟨rfl, p, k⟩
      have hm : ds[i] ∈ ds := List.getElem_mem hlt
      obtain ⟨h3, p3, e3⟩ := ht _ hm h2 p
      refine ⟨ds[i], e ds[i], b ds[i], h3, by rw [(hat h2 p).1 i hlt, List.getElem?_eq_getElem hlt], hg _ hm _, e3, ?_⟩
      cases q : b ds[i] with
      | false => exact .inl ⟨rfl, by rw [tk i hlt, List.filter_append]; simp [q], p.trans p3, getElem_pre p3 k⟩
      | true =>
        obtain ⟨h4, p4, e4⟩ := hF _ hm q h3 (p.trans p3)
        have k4 := getElem_pre p4 (getElem_pre p3 k)
        refine .inr ⟨rfl, y ds[i], h4, e4, k4, by rw [tk i hlt, List.filter_append]; simp [q], ?_, ?_⟩
        · obtain ⟨t4, rfl⟩ := (p.trans p3).trans p4
          rw [List.set_append_right (h := Nat.le_refl _)]
          exact List.prefix_append _ _
        · rw [List.getElem?_set_self (List.getElem?_eq_some_iff.mp k4).1])
    (by rintro acc h2 ⟨_, p, _⟩; exact (hat h2 p).2)
  rw [List.take_length] at k
  exact ⟨h', p, k, e1⟩
theorem live_at {h1 : AH} {n : Nat} {ds : List D} (e : h1[n]? = some (.lst ds)) : ∀ h, h1 <+: h → (∀ i, i < ds.length → (AIt.live n ds.length).item i h = ds[i]?) ∧ (AIt.live n ds.length).fin h = true := fun h p => by
  have k := getElem_pre p e
  exact ⟨fun i _ => by simp [AIt.item, k], by simp [AIt.fin, k]⟩
theorem iAny_live {F : EF} {ε : AEnv} {h h1 : AH} {n : Nat} {ds : List D} (e : F ε h = .ok (.ref n) h1) (k : h1[n]? = some (.lst ds)) : iAny F ε h = .ok (.live n ds.length) h1 := by
  unfold iAny
  rw [e, Res.bind_ok]
  simp only [itOf, k]
end Mi

namespace K04
open Mi L2 PySem PySem.Spec PyProof.Rows
/-! ### pieces of a text -/
inductive PcOk : List Nat → List Nat → Prop
  | q (b r : List Nat) : 39 ∉ b → PcOk (39 :: (b ++ [39])) r
  | s (c : Nat) (r : List Nat) : ptg c = true → c ≠ 39 → PcOk [c] r
  | w (c : Nat) (w r : List Nat) : ptg c = false → (∀ x ∈ w, ptg x = false) → (∀ x, r.head? = some x → ptg x = true) → PcOk (c :: w) r
def Pcs : List (List Nat) → List Nat → Prop
  | [], _ => True
  | p :: ps, r => PcOk p (ps.flatten ++ r) ∧ Pcs ps r
theorem Pcs.app : ∀ {a b : List (List Nat)} {r : List Nat}, Pcs a (b.flatten ++ r) → Pcs b r → Pcs (a ++ b) r
  | [], _, _, _, hb => hb
  | p :: ps, b, r, ha, hb => by
    refine ⟨?_, Pcs.app ha.2 hb⟩
    show PcOk p ((ps ++ b).flatten ++ r)
    rw [List.flatten_append, List.append_assoc]
    exact ha.1
theorem atI_nat {α : Type} {xs : List α} {k : Nat} (h : k < xs.length) : atI xs (k : Int) = xs[k]? := by
  unfold atI ixN
  rw [if_pos (by omega), if_pos (by omega)]
  rfl
theorem sgn {T : List Nat} {k c : Nat} (h : AH) (hT : T.length ≤ 100000) (e : T[k]? = some c) : opIx (.str (S T)) (.int (k : Int)) h = .ok (.str (S [c])) h := by
  have lk : k < T.length := (List.getElem?_eq_some_iff.mp e).1
  have q : atI (S T).cps.toList (k : Int) = some c := (atI_nat lk).trans e
  simp only [opIx, q, len_S]
  rw [if_pos (by rw [sizeLine_eq]; omega)]
theorem qs : ("'" : Str) = S [39] := by decide +kernel
theorem S_one {a b : Nat} : decide (S [a] = S [b]) = decide (a = b) := by
  rw [decide_eq_decide]
  constructor
  · intro e
    have := congrArg (fun x : Str => x.cps.toList) e
    simpa using this
  · intro e; rw [e]
theorem eq_sgn {c : Nat} {h : AH} : opEq2 (.str (S [c])) (.str "'") h = .ok (.bl (decide (c = 39))) h := by
  rw [qs]
  show Res.ok (D.bl (decide (S [c] = S [39]))) h = _
  rw [S_one]
theorem in_sgn {c : Nat} {h : AH} : opIn2 (.str (S [c])) (.str "()[] '") h = .ok (.bl (ptg c)) h := by
  show Res.ok (D.bl (!(Builtin.Str.occurrences "()[] '" (S [c]) 0 ("()[] '" : Str).length 1).isEmpty)) h = _
  rw [in_ptg]
theorem notin_sgn {c : Nat} {h : AH} : opNotIn2 (.str (S [c])) (.str "()[] '") h = .ok (.bl (!ptg c)) h := by
  show Res.ok (D.bl (!(!(Builtin.Str.occurrences "()[] '" (S [c]) 0 ("()[] '" : Str).length 1).isEmpty))) h = _
  rw [in_ptg]
theorem quoted_ok {A b r : List Nat} {h : AH} (hb : 39 ∉ b) (hT : (A ++ (39 :: (b ++ [39]) ++ r)).length ≤ 100000) :
    f_end_of_quoted [.str (S (A ++ (39 :: (b ++ [39]) ++ r))), .int A.length] h = .ok (.int ((A.length + (b.length + 2) : Nat) : Int)) h := by
  have k : (A ++ (39 :: (b ++ [39]) ++ r))[A.length + 1 + b.length]? = some 39 := by
    rw [List.getElem?_append_right (by omega), show A.length + 1 + b.length - A.length = b.length + 1 by omega]
    simp
  have no : ∀ j, A.length + 1 ≤ j → j < A.length + 1 + b.length → (A ++ (39 :: (b ++ [39]) ++ r))[j]? ≠ some 39 := fun j h1 h2 e => by
    obtain ⟨i, rfl⟩ : ∃ i, j = A.length + 1 + i := ⟨j - A.length - 1, by omega⟩
    rw [List.getElem?_append_right (by omega), show A.length + 1 + i - A.length = i + 1 by omega] at e
    simp only [List.cons_append, List.getElem?_cons_succ, List.append_assoc] at e
    rw [List.getElem?_append_left (by omega)] at e
    exact hb (List.mem_of_getElem? e)
  have f := find3_one (i := A.length + 1) (by omega) k no
  let T := A ++ (39 :: (b ++ [39]) ++ r)
  have q1 : sSet 2 (cMeth "str" mFind3 (cVar 0) (aCons (cC (.str ("'" : Str))) (aCons (cBin opAdd (cVar 1) (cC (.int 1))) aNil))) [some (.str (S T)), some (.int A.length), none] h = .nx [some (.str (S T)), some (.int A.length), some (.int ((A.length + 1 + b.length : Nat) : Int))] h := by
    refine sSet_eq (i := 2) ((cMeth_eq (d := .str (S T)) (ds := [.str "'", .int ((A.length : Int) + 1)]) rfl rfl (aCons_eq rfl (aCons_eq ((cBin_eq rfl rfl).trans rfl) aNil_eq))).trans ?_)
    show Res.ok (D.int (Txt.find3 (S T) "'" ((A.length : Int) + 1))) h = _
    rw [qs, show ((A.length : Int) + 1) = ((A.length + 1 : Nat) : Int) by omega, f]
  have q2 : tVal (cBin opLt (cVar 2) (cC (.int 0))) [some (.str (S T)), some (.int A.length), some (.int ((A.length + 1 + b.length : Nat) : Int))] h = .ok false h := by
    refine tVal_eq ((cBin_eq rfl rfl).trans ?_)
    show Res.ok (D.bl (decide (((A.length + 1 + b.length : Nat) : Int) < 0))) h = _
    rw [decide_eq_false (by omega)]
  refine runB_ret rfl ((sSeq_nx q1).trans ((sSeq_nx ((sIf_f q2).trans rfl)).trans (sRet_eq ((cBin_eq rfl rfl).trans ?_))))
  show Res.ok (D.int (((A.length + 1 + b.length : Nat) : Int) + 1)) h = _
  congr 2
  omega
theorem whileGo_steps {t : TF} {B : SF} (ε : Nat → AEnv) (H : Nat → AH) (n : Nat) (step : ∀ i, i < n → t (ε i) (H i) = .ok true (H i) ∧ B (ε i) (H i) = .nx (ε (i + 1)) (H (i + 1))) (stop : t (ε n) (H n) = .ok false (H n)) : ∀ (k m : Nat), k ≤ n → k < m → whileGo t B m (ε (n - k)) (H (n - k)) = .nx (ε n) (H n) := by
  intro k
  induction k with
  | zero =>
    intro m _ hm
    obtain ⟨m, rfl⟩ : ∃ g, m = g + 1 := ⟨m - 1, by omega⟩
    simp only [Nat.sub_zero, whileGo, stop, Res.st_ok]
    rfl
  | succ k ih =>
    intro m hk hm
    obtain ⟨m, rfl⟩ : ∃ g, m = g + 1 := ⟨m - 1, by omega⟩
    obtain ⟨s1, s2⟩ := step (n - (k + 1)) (by omega)
    have e : n - (k + 1) + 1 = n - k := by omega
    rw [e] at s2
    simp only [whileGo, s1, Res.st_ok, if_true, s2]
    exact ih m (by omega) (by omega)
theorem len_txt {T : List Nat} {ε : AEnv} {h : AH} (e : ε[0]? = some (some (.str (S T)))) (hT : T.length ≤ 100000) : cCall fLen (aCons (cVar 0) aNil) ε h = .ok (.int T.length) h := by
  have q := len_strE (ε := ε) (h := h) (h1 := h) (F := cVar 0) (x := S T) (by simp only [cVar, e]) (by rw [len_S]; exact hT)
  rw [len_S] at q
  exact q
theorem lt_int {a b : Nat} {h : AH} : opLt (.int (a : Int)) (.int (b : Int)) h = .ok (.bl (decide (a < b))) h := by
  show Res.ok (D.bl (decide ((a : Int) < (b : Int)))) h = _
  congr 2
  exact decide_eq_decide.mpr (by omega)
/-- where a piece ends -/
theorem piece_ok {A p r : List Nat} {h : AH} (hp : PcOk p r) (hT : (A ++ (p ++ r)).length ≤ 90000) : f_end_of_piece [.str (S (A ++ (p ++ r))), .int A.length] h = .ok (.int ((A.length + p.length : Nat) : Int)) h := by
  generalize eT : A ++ (p ++ r) = T at hT
  have first : ∀ {c : Nat} {q : List Nat}, p = c :: q → cBin opIx (cVar 0) (cVar 1) [some (.str (S T)), some (.int A.length), none] h = .ok (.str (S [c])) h := fun {c q} e => by
    refine (cBin_eq rfl rfl).trans (sgn h (by omega) ?_)
    rw [← eT, e, List.getElem?_append_right (Nat.le_refl _), Nat.sub_self]
    rfl
  cases hp with
  | q b _ hb =>
    have t1 : tVal (cBin opEq2 (cBin opIx (cVar 0) (cVar 1)) (cC (.str ("'" : Str)))) [some (.str (S T)), some (.int A.length), none] h = .ok true h := tVal_eq ((cBin_eq (first rfl) rfl).trans (eq_sgn.trans rfl))
    have q := quoted_ok (A := A) (r := r) (h := h) hb (by rw [eT]; omega)
    rw [eT] at q
    refine runB_ret rfl (sSeq_ret ((sIf_t t1).trans (sRet_eq ((cFn_eq rfl).trans (q.trans ?_)))))
    simp only [List.length_cons, List.length_append, List.length_nil]
  | s c _ hc h39 =>
    have t1 : tVal (cBin opEq2 (cBin opIx (cVar 0) (cVar 1)) (cC (.str ("'" : Str)))) [some (.str (S T)), some (.int A.length), none] h = .ok false h := by
      refine tVal_eq ((cBin_eq (first rfl) rfl).trans (eq_sgn.trans ?_))
      rw [decide_eq_false h39]
    have q2 : sSet 2 (cBin opAdd (cVar 1) (cC (.int 1))) [some (.str (S T)), some (.int A.length), none] h = .nx [some (.str (S T)), some (.int A.length), some (.int ((A.length : Int) + 1))] h := sSet_eq (i := 2) ((cBin_eq rfl rfl).trans rfl)
    have first2 : cBin opIx (cVar 0) (cVar 1) [some (.str (S T)), some (.int A.length), some (.int ((A.length : Int) + 1))] h = .ok (.str (S [c])) h := by
      refine (cBin_eq rfl rfl).trans (sgn h (by omega) ?_)
      rw [← eT, List.getElem?_append_right (Nat.le_refl _), Nat.sub_self]
      rfl
    have t2 : tVal (cBin opIn2 (cBin opIx (cVar 0) (cVar 1)) (cC (.str ("()[] '" : Str)))) [some (.str (S T)), some (.int A.length), some (.int ((A.length : Int) + 1))] h = .ok true h := by
      refine tVal_eq ((cBin_eq first2 rfl).trans (in_sgn.trans ?_))
      rw [hc]
    exact runB_ret rfl ((sSeq_nx ((sIf_f t1).trans rfl)).trans ((sSeq_nx q2).trans (sSeq_ret ((sIf_t t2).trans (sRet_eq rfl)))))
  | w c w _ hc hw hr =>
    have c39 : c ≠ 39 := fun e => by subst e; cases hc
    have t1 : tVal (cBin opEq2 (cBin opIx (cVar 0) (cVar 1)) (cC (.str ("'" : Str)))) [some (.str (S T)), some (.int A.length), none] h = .ok false h := by
      refine tVal_eq ((cBin_eq (first rfl) rfl).trans (eq_sgn.trans ?_))
      rw [decide_eq_false c39]
    have q2 : sSet 2 (cBin opAdd (cVar 1) (cC (.int 1))) [some (.str (S T)), some (.int A.length), none] h = .nx [some (.str (S T)), some (.int A.length), some (.int ((A.length + 1 + 0 : Nat) : Int))] h := sSet_eq (i := 2) ((cBin_eq rfl rfl).trans rfl)
    have first2 : cBin opIx (cVar 0) (cVar 1) [some (.str (S T)), some (.int A.length), some (.int ((A.length + 1 + 0 : Nat) : Int))] h = .ok (.str (S [c])) h := by
      refine (cBin_eq rfl rfl).trans (sgn h (by omega) ?_)
      rw [← eT, List.getElem?_append_right (Nat.le_refl _), Nat.sub_self]
      rfl
    have t2 : tVal (cBin opIn2 (cBin opIx (cVar 0) (cVar 1)) (cC (.str ("()[] '" : Str)))) [some (.str (S T)), some (.int A.length), some (.int ((A.length + 1 + 0 : Nat) : Int))] h = .ok false h := by
      refine tVal_eq ((cBin_eq first2 rfl).trans (in_sgn.trans ?_))
      rw [hc]
    let ε : Nat → AEnv := fun i => [some (.str (S T)), some (.int A.length), some (.int ((A.length + 1 + i : Nat) : Int))]
    have lenT : T.length = A.length + (w.length + 1 + r.length) := by
      rw [← eT]
      simp only [List.length_append, List.length_cons]
    have lenE : ∀ i, cCall fLen (aCons (cVar 0) aNil) (ε i) h = .ok (.int T.length) h := fun i => len_txt rfl (by omega)
    have at2 : ∀ i, i < w.length + r.length → ∃ d, T[A.length + 1 + i]? = some d ∧ (i < w.length → ptg d = false) ∧ (i = w.length → ptg d = true) ∧ cBin opNotIn2 (cBin opIx (cVar 0) (cVar 2)) (cC (.str ("()[] '" : Str))) (ε i) h = .ok (.bl (!ptg d)) h := fun i hi => by
      have e1 : T[A.length + 1 + i]? = (w ++ r)[i]? := by
        rw [← eT, List.getElem?_append_right (by omega), show A.length + 1 + i - A.length = i + 1 by omega]
        rfl
      have li : i < (w ++ r).length := by rw [List.length_append]; exact hi
      have e2 : (w ++ r)[i]? = some (w ++ r)[i] := List.getElem?_eq_getElem li
      refine ⟨(w ++ r)[i], e1.trans e2, fun hw' => ?_, fun he => ?_, ?_⟩
      · rw [List.getElem_append_left hw']
        exact hw _ (List.getElem_mem _)
      · subst he
        refine hr _ ?_
        rw [List.getElem_append_right (Nat.le_refl _), List.head?_eq_getElem?]
        simp only [Nat.sub_self]
        exact List.getElem?_eq_getElem _
      · exact (cBin_eq ((cBin_eq rfl rfl).trans (sgn h (by omega) (e1.trans e2))) rfl).trans notin_sgn
    have lt1 : ∀ i, tVal (cBin opLt (cVar 2) (cCall fLen (aCons (cVar 0) aNil))) (ε i) h = .ok (decide (A.length + 1 + i < T.length)) h := fun i => tVal_eq ((cBin_eq rfl (lenE i)).trans lt_int)
    have loop := whileGo_steps (t := tAnd' (tVal (cBin opLt (cVar 2) (cCall fLen (aCons (cVar 0) aNil)))) (tVal (cBin opNotIn2 (cBin opIx (cVar 0) (cVar 2)) (cC (.str ("()[] '" : Str)))))) (B := sAug 2 opIAdd (cC (.int 1))) ε (fun _ => h) w.length
      (fun i hi => by
        obtain ⟨d, _, g1, _, g3⟩ := at2 i (by omega)
        have l := lt1 i
        rw [decide_eq_true (by omega)] at l
        rw [g1 hi] at g3
        exact ⟨(tAnd_t l).trans (tVal_eq g3), rfl⟩)
      (by
        have l := lt1 w.length
        by_cases hr0 : r.length = 0
        · rw [decide_eq_false (by omega)] at l
          exact tAnd_f l
        · rw [decide_eq_true (by omega)] at l
          obtain ⟨d, _, _, g2, g3⟩ := at2 w.length (by omega)
          rw [g2 rfl] at g3
          exact (tAnd_t l).trans (tVal_eq g3)) w.length 100000 (Nat.le_refl _) (by omega)
    rw [Nat.sub_self] at loop
    refine runB_ret rfl ((sSeq_nx ((sIf_f t1).trans rfl)).trans ((sSeq_nx q2).trans ((sSeq_nx ((sIf_f t2).trans rfl)).trans ((sSeq_nx (a := sWhile 100000 _ _) loop).trans (sRet_eq ?_)))))
    show Res.ok (D.int ((A.length + 1 + w.length : Nat) : Int)) h = _
    congr 2
    simp only [List.length_cons]
    omega
def sts (ps : List (List Nat)) : List D := ps.map fun p => .str (S p)
def pcB : SF := (sSeq (sSet 3 (cFn f_end_of_piece (aCons (cVar 0) (aCons (cVar 2) aNil))))
    (sSeq (sExpr (cMeth "list" mAppend (cVar 1) (aCons (cCut (cVar 0) (oSome (cVar 2)) (oSome (cVar 3))) aNil)))
    (sSet 2 (cVar 3))))
def pcT : TF := tVal (cBin opLt (cVar 2) (cCall fLen (aCons (cVar 0) aNil)))
theorem PcOk.pos {p r : List Nat} (h : PcOk p r) : 1 ≤ p.length := by cases h <;> simp
theorem pc_turn {A p r : List Nat} {s : Nat} {acc : List D} {x3 x4 : Option D} {h : AH} (hp : PcOk p r) (hT : (A ++ (p ++ r)).length ≤ 90000) (k : h[s]? = some (.lst acc)) (hs : acc.length ≤ 100000) :
    pcB [some (.str (S (A ++ (p ++ r)))), some (.ref s), some (.int A.length), x3, x4] h = .nx [some (.str (S (A ++ (p ++ r)))), some (.ref s), some (.int ((A ++ p).length : Nat)), some (.int ((A ++ p).length : Nat)), x4] (h.set s (.lst (acc ++ [.str (S p)]))) := by
  have e := piece_ok (h := h) hp hT
  have lT : (A ++ (p ++ r)).length = A.length + (p.length + r.length) := by simp only [List.length_append]
  have cut : cutS (S (A ++ (p ++ r))) (some (A.length : Int)) (some ((A.length + p.length : Nat) : Int)) = S p := by
    rw [cut_S, Nat.min_eq_left (by omega), Nat.min_eq_left (by omega), List.drop_left, show A.length + p.length - A.length = p.length by omega, List.take_left]
  generalize A ++ (p ++ r) = T at e lT cut hT
  have q1 : sSet 3 (cFn f_end_of_piece (aCons (cVar 0) (aCons (cVar 2) aNil))) [some (.str (S T)), some (.ref s), some (.int A.length), x3, x4] h = .nx [some (.str (S T)), some (.ref s), some (.int A.length), some (.int ((A.length + p.length : Nat) : Int)), x4] h :=
    sSet_eq (i := 3) ((cFn_eq (A := aCons (cVar 0) (aCons (cVar 2) aNil)) rfl).trans e)
  have q2 : sExpr (cMeth "list" mAppend (cVar 1) (aCons (cCut (cVar 0) (oSome (cVar 2)) (oSome (cVar 3))) aNil)) [some (.str (S T)), some (.ref s), some (.int A.length), some (.int ((A.length + p.length : Nat) : Int)), x4] h = .nx [some (.str (S T)), some (.ref s), some (.int A.length), some (.int ((A.length + p.length : Nat) : Int)), x4] (h.set s (.lst (acc ++ [.str (S p)]))) := by
    refine sExpr_eq (d := .non) ((cMeth_eq (h1 := h) (h2 := h) (d := .ref s) (ds := [.str (S p)]) rfl (by simp [isTy, tyD, k]) (aCons_eq ((cCut_eq (h1 := h) (h2 := h) (h3 := h) (d := .str (S T)) (l := some (A.length : Int)) (u := some ((A.length + p.length : Nat) : Int)) rfl rfl rfl).trans ?_) aNil_eq)).trans ?_)
    · simp only [Mi.cutD, len_S, cut]
      rw [if_pos (by rw [sizeLine_eq]; omega)]
    · simp only [mAppend, k]
      rw [if_pos (by rw [sizeLine_eq]; omega)]
  rw [List.length_append]
  exact (sSeq_nx q1).trans ((sSeq_nx q2).trans (sSet_eq rfl))
theorem pc_loop {s : Nat} {x4 : Option D} {T : List Nat} (hT : T.length ≤ 90000) : ∀ (ps : List (List Nat)) (A : List Nat) (acc : List D) (x3 : Option D) (h : AH) (m : Nat), Pcs ps [] → A ++ ps.flatten = T → h[s]? = some (.lst acc) → acc.length + ps.length ≤ 100000 → ps.length < m →
    ∃ x3', whileGo pcT pcB m [some (.str (S T)), some (.ref s), some (.int A.length), x3, x4] h = .nx [some (.str (S T)), some (.ref s), some (.int T.length), x3', x4] (h.set s (.lst (acc ++ sts ps)))
  | [], A, acc, x3, h, m, _, eT, k, _, hm => by
    obtain ⟨m, rfl⟩ : ∃ g, m = g + 1 := ⟨m - 1, by omega⟩
    rw [List.flatten_nil, List.append_nil] at eT
    subst eT
    have t : pcT [some (.str (S A)), some (.ref s), some (.int A.length), x3, x4] h = .ok false h := by
      refine tVal_eq ((cBin_eq rfl (len_txt rfl (by omega))).trans (lt_int.trans ?_))
      rw [decide_eq_false (by omega)]
    refine ⟨x3, ?_⟩
    simp only [whileGo, t, Res.st_ok, sts, List.map_nil, List.append_nil]
    have hs : s < h.length := (List.getElem?_eq_some_iff.mp k).1
    have : h.set s (.lst acc) = h := by
      refine List.ext_getElem? fun j => ?_
      by_cases e : s = j
      · subst e; rw [List.getElem?_set_self hs, k]
      · rw [List.getElem?_set_ne e]
    rw [this]
    rfl
  | p :: ps, A, acc, x3, h, m, hp, eT, k, hs, hm => by
    obtain ⟨m, rfl⟩ : ∃ g, m = g + 1 := ⟨m - 1, by omega⟩
    simp only [List.length_cons] at hm hs
    have pos := hp.1.pos
    have eT' : A ++ (p ++ ps.flatten) = T := eT
    have lT : T.length = A.length + (p.length + ps.flatten.length) := by rw [← eT']; simp only [List.length_append]
    have t : pcT [some (.str (S T)), some (.ref s), some (.int A.length), x3, x4] h = .ok true h := by
      refine tVal_eq ((cBin_eq rfl (len_txt rfl (by omega))).trans (lt_int.trans ?_))
      rw [decide_eq_true (by omega)]
    have q := pc_turn (A := A) (p := p) (r := ps.flatten) (s := s) (acc := acc) (x3 := x3) (x4 := x4) (h := h) (by have := hp.1; rw [List.append_nil] at this; exact this) (by rw [eT']; exact hT) k (by omega)
    rw [eT'] at q
    have hs' : s < h.length := (List.getElem?_eq_some_iff.mp k).1
    obtain ⟨x3', e⟩ := pc_loop hT ps (A ++ p) (acc ++ [.str (S p)]) (some (.int ((A ++ p).length : Nat))) (h.set s (.lst (acc ++ [.str (S p)]))) m hp.2 (by rw [List.append_assoc]; exact eT') (List.getElem?_set_self hs') (by rw [List.length_append]; simp only [List.length_singleton]; omega) (by omega)
    refine ⟨x3', ?_⟩
    simp only [whileGo, t, Res.st_ok, if_true, q]
    rw [e, List.set_set, List.append_assoc]
    rfl
theorem pieces_ok {ps : List (List Nat)} {h : AH} (hp : Pcs ps []) (hT : ps.flatten.length ≤ 90000) (hn : ps.length ≤ 90000) : ∃ h' s, h <+: h' ∧ h.length ≤ s ∧ f_pieces_of [.str (S ps.flatten)] h = .ok (.ref s) h' ∧ h'[s]? = some (.lst (sts (ps.filter fun p => decide (p ≠ [32])))) := by
  have q1 : sSet 1 (cLst aNil) [some (.str (S ps.flatten)), none, none, none, none] h = .nx [some (.str (S ps.flatten)), some (.ref h.length), none, none, none] (h ++ [.lst []]) := sSet_eq (i := 1) (cLst_eq (ds := []) rfl (Nat.zero_le _))
  have q2 : sSet 2 (cC (.int 0)) [some (.str (S ps.flatten)), some (.ref h.length), none, none, none] (h ++ [.lst []]) = .nx [some (.str (S ps.flatten)), some (.ref h.length), some (.int (([] : List Nat).length : Nat)), none, none] (h ++ [.lst []]) := sSet_eq rfl
  obtain ⟨x3', e⟩ := pc_loop (s := h.length) (x4 := none) hT ps [] [] none (h ++ [.lst []]) 100000 hp rfl get_last (by simp only [List.length_nil]; omega) (by omega)
  have eh : (h ++ [O.lst []]).set h.length (.lst ([] ++ sts ps)) = h ++ [.lst (sts ps)] := by
    rw [List.set_append_right (h := Nat.le_refl _), Nat.sub_self]
    rfl
  rw [eh] at e
  have k : (h ++ [O.lst (sts ps)])[h.length]? = some (.lst (sts ps)) := get_last
  obtain ⟨h', p, k', c⟩ := cComp_any (g := gN 4) (t := tVal (cBin opNe (cVar 4) (cC (.str (" " : Str))))) (F := cVar 4) (own := [4]) (ε := [some (.str (S ps.flatten)), some (.ref h.length), some (.int ps.flatten.length), x3', none]) (iAny_live (F := cVar 1) rfl k) rfl (live_at k) (by rw [sizeLine_eq, sts, List.length_map]; omega)
    (fun d => [some (.str (S ps.flatten)), some (.ref h.length), some (.int ps.flatten.length), x3', some d]) (fun d => match d with | .str x => decide (x ≠ " ") | _ => true) (fun d => d) (fun _ _ _ => rfl)
    (fun d hd h2 _ => by
      obtain ⟨p, _, rfl⟩ := List.mem_map.mp hd
      refine ⟨h2, List.prefix_refl _, tVal_eq ((cBin_eq rfl rfl).trans ?_)⟩
      show Res.ok (D.bl (!decide (S p = " "))) h2 = _
      simp)
    (fun d _ _ h2 _ => ⟨h2, List.prefix_refl _, rfl⟩)
  have ef : ((sts ps).filter fun d => match d with | .str x => decide (x ≠ " ") | _ => true).map (fun d => d) = sts (ps.filter fun p => decide (p ≠ [32])) := by
    rw [List.map_id']
    unfold sts
    rw [List.filter_map]
    congr 1
    refine List.filter_congr fun p _ => ?_
    have e32 : (" " : Str) = S [32] := by decide +kernel
    show decide (S p ≠ " ") = decide (p ≠ [32])
    rw [e32, decide_eq_decide]
    constructor
    · intro h e; exact h (by rw [e])
    · intro h e; exact h (by have := congrArg (fun x : Str => x.cps.toList) e; simpa using this)
  rw [ef] at k'
  exact ⟨h', _, (List.prefix_append _ _).trans p, by rw [List.length_append]; omega, runB_ret rfl ((sSeq_nx q1).trans ((sSeq_nx q2).trans ((sSeq_nx (a := sWhile 100000 pcT pcB) e).trans (sRet_eq c)))), k'⟩
end K04

namespace K04
open Mi L2 PySem PySem.Spec PyProof.Rows
/-! ### the pieces of a worth's text -/
theorem lt_word {d : D} (w : Lf d) : (∃ b, lt d = 39 :: (b ++ [39]) ∧ 39 ∉ b) ∨ ∃ c r, lt d = c :: r ∧ ptg c = false ∧ ∀ x ∈ r, ptg x = false := by
  have dig : ∀ c : Nat, 48 ≤ c ∧ c ≤ 57 → ptg c = false := fun c ⟨h1, h2⟩ => by
    have : ∀ c : Fin 58, 48 ≤ c.val → ptg c.val = false := by decide +kernel
    exact this ⟨c, by omega⟩ h1
  have let' : ∀ c : Nat, 97 ≤ c ∧ c ≤ 122 → ptg c = false := fun c ⟨h1, h2⟩ => by
    have : ∀ c : Fin 123, 97 ≤ c.val → ptg c.val = false := by decide +kernel
    exact this ⟨c, by omega⟩ h1
  have num : ∀ z : Int, ∃ c r, it z = c :: r ∧ ptg c = false ∧ ∀ x ∈ r, ptg x = false := fun z => by
    cases z with
    | ofNat k =>
      cases e : dg k with
      | nil => exact absurd e (dg_ne k)
      | cons c r =>
        have q : ∀ x ∈ c :: r, ptg x = false := fun x hx => dig x (digit_of (k := k) (by rw [e]; exact hx))
        exact ⟨c, r, e, q c List.mem_cons_self, fun x hx => q x (List.mem_cons_of_mem _ hx)⟩
    | negSucc k => exact ⟨45, dg (k + 1), rfl, rfl, fun x hx => dig x (digit_of hx)⟩
  cases w with
  | non => exact .inr ⟨_, _, rfl, by decide, by decide⟩
  | bl b => cases b <;> exact .inr ⟨_, _, rfl, by decide, by decide⟩
  | int z _ => exact .inr (num z)
  | str l _ h => exact .inl ⟨l, rfl, fun hm => (h 39 hm).2.2.2 rfl⟩
  | thing k _ =>
    obtain ⟨c, r, e, h1, h2⟩ := num k
    refine .inr ⟨35, it k, rfl, rfl, fun x hx => ?_⟩
    rw [e] at hx
    rcases List.mem_cons.mp hx with rfl | hx
    · exact h1
    · exact h2 x hx
  | dk b m n hm hn =>
    cases m with
    | nil => exact absurd hm.1 (by simp)
    | cons c r =>
      refine .inr ⟨c, r ++ (if dkw b = "deed" then 46 else 58) :: n, rfl, let' c (hm.2.2 c List.mem_cons_self), fun x hx => ?_⟩
      rcases List.mem_append.mp hx with hx | hx
      · exact let' x (hm.2.2 x (List.mem_cons_of_mem _ hx))
      · rcases List.mem_cons.mp hx with rfl | hx
        · split <;> rfl
        · exact let' x (hn.2.2 x hx)
theorem lt_pc {d : D} (w : Lf d) {r : List Nat} (hr : ∀ x, r.head? = some x → ptg x = true) : PcOk (lt d) r := by
  rcases lt_word w with ⟨b, e, h⟩ | ⟨c, q, e, h1, h2⟩
  · rw [e]; exact .q b r h
  · rw [e]; exact .w c q r h1 h2 hr
theorem lt_ne {d : D} (w : Lf d) {c : Nat} (hc : ptg c = true) (h39 : c ≠ 39) : lt d ≠ [c] := by
  rcases lt_word w with ⟨b, e, h⟩ | ⟨x, q, e, h1, h2⟩
  · rw [e]
    intro h
    injection h with h1 h2
    exact h39 h1.symm
  · rw [e]
    intro h
    injection h with h3 h4
    subst h3
    rw [hc] at h1
    cases h1
def sepP : List (List (List Nat)) → List (List Nat)
  | [] => []
  | [a] => a
  | a :: r => a ++ [32] :: sepP r
def pc : Nat → D → List (List Nat)
  | n + 1, .tup [.str _, .tup ds] => [91] :: (sepP (ds.map (pc n)) ++ [[93]])
  | _, d => [lt d]
def tks : Nat → D → List (List Nat)
  | n + 1, .tup [.str _, .tup ds] => [91] :: ((ds.map (tks n)).flatten ++ [[93]])
  | _, d => [lt d]
def tree : Nat → D → D
  | n + 1, .tup [.str _, .tup ds] => .tup [.str "[", .tup (ds.map (tree n))]
  | _, d => .str (S (lt d))
theorem pc_leaf {n : Nat} {d : D} (h : Lf d) : pc n d = [lt d] := by cases h <;> cases n <;> rfl
theorem tks_leaf {n : Nat} {d : D} (h : Lf d) : tks n d = [lt d] := by cases h <;> cases n <;> rfl
theorem tree_leaf {n : Nat} {d : D} (h : Lf d) : tree n d = .str (S (lt d)) := by cases h <;> cases n <;> rfl
theorem pc_row {n : Nat} {ds : List D} : pc (n + 1) (rowT ds) = [91] :: (sepP (ds.map (pc n)) ++ [[93]]) := rfl
theorem tks_row {n : Nat} {ds : List D} : tks (n + 1) (rowT ds) = [91] :: ((ds.map (tks n)).flatten ++ [[93]]) := rfl
theorem tree_row {n : Nat} {ds : List D} : tree (n + 1) (rowT ds) = .tup [.str "[", .tup (ds.map (tree n))] := rfl
theorem sep_flat : ∀ {n : Nat} {ds : List D}, (∀ d ∈ ds, (pc n d).flatten = tx n d) → (sepP (ds.map (pc n))).flatten = sepL (ds.map (tx n))
  | _, [], _ => rfl
  | n, [a], h => by
    simp only [List.map_cons, List.map_nil, sepP, sepL]
    exact h a (by simp)
  | n, a :: b :: r, h => by
    have ih := sep_flat (n := n) (ds := b :: r) fun d hd => h d (List.mem_cons_of_mem _ hd)
    simp only [List.map_cons] at ih ⊢
    simp only [sepP, sepL, List.flatten_append, List.flatten_cons, List.cons_append, List.nil_append] at ih ⊢
    rw [ih, h a (by simp)]
theorem pc_flat {n : Nat} {d : D} (w : V n d) : (pc n d).flatten = tx n d := by
  induction w with
  | leaf h => rw [pc_leaf h, tx_leaf h]; simp
  | row h1 h2 ih => rw [pc_row, tx_row, List.flatten_cons, List.flatten_append, sep_flat ih]; rfl
theorem sep_pcs {n : Nat} : ∀ {ds : List D} {r : List Nat}, (∀ d ∈ ds, ∀ r : List Nat, (∀ x, r.head? = some x → ptg x = true) → Pcs (pc n d) r) → (∀ x, r.head? = some x → ptg x = true) → Pcs (sepP (ds.map (pc n))) r
  | [], _, _, _ => trivial
  | [a], r, h, hr => h a (by simp) r hr
  | a :: b :: q, r, h, hr => by
    have ih := sep_pcs (n := n) (ds := b :: q) (fun d hd => h d (List.mem_cons_of_mem _ hd)) hr
    show Pcs (pc n a ++ [32] :: sepP ((b :: q).map (pc n))) r
    refine Pcs.app (h a (by simp) _ ?_) ⟨.s 32 _ rfl (by decide), ih⟩
    intro x hx
    cases hx
    rfl
theorem pc_pcs {n : Nat} {d : D} (w : V n d) : ∀ {r : List Nat}, (∀ x, r.head? = some x → ptg x = true) → Pcs (pc n d) r := by
  induction w with
  | leaf h =>
    intro r hr
    rw [pc_leaf h]
    exact ⟨by simpa using lt_pc h hr, trivial⟩
  | row h1 h2 ih =>
    intro r hr
    rw [pc_row]
    refine ⟨.s 91 _ rfl (by decide), Pcs.app (sep_pcs (fun d hd r hr => ih d hd hr) ?_) ⟨.s 93 _ rfl (by decide), trivial⟩⟩
    intro x hx
    cases hx
    rfl
theorem pc_tks {n : Nat} {d : D} (w : V n d) : (pc n d).filter (fun p => decide (p ≠ [32])) = tks n d := by
  induction w with
  | leaf h =>
    rw [pc_leaf h, tks_leaf h, List.filter_cons, decide_eq_true (lt_ne h rfl (by decide))]
    rfl
  | row h1 h2 ih =>
    rename_i n ds
    have key : ∀ {ds : List D}, (∀ d ∈ ds, (pc n d).filter (fun p => decide (p ≠ [32])) = tks n d) → (sepP (ds.map (pc n))).filter (fun p => decide (p ≠ [32])) = (ds.map (tks n)).flatten := by
      intro ds
      induction ds with
      | nil => intro _; rfl
      | cons a r ih2 =>
        intro g
        cases r with
        | nil => simp only [List.map_cons, List.map_nil, sepP, List.flatten_cons, List.flatten_nil, List.append_nil]; exact g a (by simp)
        | cons b q =>
          have ih3 := ih2 fun d hd => g d (List.mem_cons_of_mem _ hd)
          show (pc n a ++ [32] :: sepP ((b :: q).map (pc n))).filter _ = tks n a ++ ((b :: q).map (tks n)).flatten
          rw [List.filter_append, g a (by simp), List.filter_cons, ih3]
          simp
    rw [pc_row, tks_row, List.filter_cons, List.filter_append, key ih]
    simp
/-! ### bounds, by how many worths it has -/
theorem sumle {ds : List D} {f g : D → Nat} (h : ∀ d ∈ ds, f d ≤ g d) : (ds.map f).sum ≤ (ds.map g).sum := by
  induction ds with
  | nil => exact Nat.le_refl _
  | cons a r ih =>
    simp only [List.map_cons, List.sum_cons]
    exact Nat.add_le_add (h a (by simp)) (ih fun d hd => h d (List.mem_cons_of_mem _ hd))
theorem lt_len {d : D} (w : Lf d) : 1 ≤ (lt d).length ∧ (lt d).length ≤ 25 := by
  have i1 : ∀ z : Int, 1 ≤ (it z).length := fun z => by
    cases z with
    | ofNat k => exact List.length_pos_iff.mpr (dg_ne k)
    | negSucc k => simp [it]
  cases w with
  | non => decide
  | bl b => cases b <;> decide
  | int z h => exact ⟨i1 z, Nat.le_trans (it_len h) (by omega)⟩
  | str l h _ => simp only [lt, List.length_cons, List.length_append, List.length_nil]; omega
  | thing k h =>
    have := it_len (z := k) (by omega)
    simp only [lt, List.length_cons]
    omega
  | dk b m n hm hn =>
    have h1 := hm.2.1
    have h2 := hn.2.1
    simp only [lt, List.length_cons, List.length_append]
    omega
theorem sepL_len : ∀ xs : List (List Nat), (sepL xs).length ≤ (xs.map fun l => l.length + 1).sum
  | [] => Nat.le_refl _
  | [a] => by simp [sepL]
  | a :: b :: r => by
    have ih := sepL_len (b :: r)
    simp only [sepL, List.length_append, List.length_cons, List.map_cons, List.sum_cons] at ih ⊢
    omega
theorem tx_len {n : Nat} {d : D} (w : V n d) : (tx n d).length + 1 ≤ 30 * cn n d := by
  induction w with
  | leaf h => rw [tx_leaf h, cn_leaf h]; have := (lt_len h).2; omega
  | row h1 h2 ih =>
    rename_i n ds
    rw [tx_row, cn_row]
    have s1 := sepL_len (ds.map (tx n))
    rw [List.map_map] at s1
    have s2 := sumle (f := (fun l => l.length + 1) ∘ tx n) (g := fun d => 30 * cn n d) ih
    have s3 : (ds.map fun d => 30 * cn n d).sum = 30 * (ds.map (cn n)).sum := by
      clear ih h1 h2 s1 s2
      induction ds with
      | nil => rfl
      | cons a r ih => simp only [List.map_cons, List.sum_cons, ih, Nat.mul_add]
    simp only [List.length_cons, List.length_append, List.length_nil]
    omega
theorem tks_len {n : Nat} {d : D} (w : V n d) : (tks n d).length ≤ 3 * cn n d := by
  induction w with
  | leaf h => rw [tks_leaf h, cn_leaf h]; simp
  | row h1 h2 ih =>
    rename_i n ds
    rw [tks_row, cn_row]
    have s1 : ((ds.map (tks n)).flatten).length = (ds.map fun d => (tks n d).length).sum := by rw [List.length_flatten, List.map_map]; rfl
    have s2 := sumle ih
    have s3 : (ds.map fun d => 3 * cn n d).sum = 3 * (ds.map (cn n)).sum := by
      clear ih h1 h2 s1 s2
      induction ds with
      | nil => rfl
      | cons a r ih => simp only [List.map_cons, List.sum_cons, ih, Nat.mul_add]
    simp only [List.length_cons, List.length_append, List.length_nil]
    omega
end K04

namespace K04
open Mi L2 PySem PySem.Spec PyProof.Rows
/-! ### the trees of a text -/
theorem Pcs.len : ∀ {ps : List (List Nat)} {r : List Nat}, Pcs ps r → ps.length ≤ ps.flatten.length
  | [], _, _ => Nat.le_refl _
  | p :: ps, r, h => by
    have := h.1.pos
    have ih := Pcs.len h.2
    simp only [List.length_cons, List.flatten_cons, List.length_append]
    omega
abbrev Fr := Str × Nat × List D
def frD (f : Fr) : D := .tup [.str f.1, .ref f.2.1]
structure Stk (h0 h : AH) (s tk : Nat) (TK : List D) (fs : List Fr) : Prop where
  st : h[s]? = some (.lst (fs.map frD))
  tk' : h[tk]? = some (.lst TK)
  at' : ∀ f ∈ fs, h[f.2.1]? = some (.lst f.2.2)
  nd : (s :: tk :: fs.map (·.2.1)).Nodup
  few : fs.length ≤ 100
  pre : h0 <+: h
  ls : h0.length ≤ s
  lf : ∀ f ∈ fs, h0.length ≤ f.2.1
theorem set_ne {h : AH} {i j : Nat} {o : O} (hij : i ≠ j) : (h.set i o)[j]? = h[j]? := List.getElem?_set_ne hij
theorem set_eq {h : AH} {i : Nat} {o x : O} (e : h[i]? = some x) : (h.set i o)[i]? = some o := List.getElem?_set_self (List.getElem?_eq_some_iff.mp e).1
/-- a thing behind those of the uppermost frame -/
theorem pre_set {h0 h : AH} {i : Nat} {o : O} (p : h0 <+: h) (hi : h0.length ≤ i) : h0 <+: h.set i o := by
  obtain ⟨t, rfl⟩ := p
  rw [List.set_append_right (h := hi)]
  exact List.prefix_append _ _
theorem Stk.add {h0 h : AH} {s tk : Nat} {TK : List D} {fs : List Fr} {b : Str} {r : Nat} {L : List D} (S0 : Stk h0 h s tk TK (fs ++ [(b, r, L)])) (x : D) : Stk h0 (h.set r (.lst (L ++ [x]))) s tk TK (fs ++ [(b, r, L ++ [x])]) := by
  have nd := S0.nd
  have n1 : r ≠ s := fun e => by subst e; simp at nd
  have n2 : r ≠ tk := fun e => by subst e; simp at nd
  have e := S0.at' (b, r, L) (by simp)
  refine ⟨?_, ?_, fun f hf => ?_, ?_, ?_, pre_set S0.pre (S0.lf (b, r, L) (by simp)), S0.ls, fun f hf => ?_⟩
  · rw [set_ne n1, S0.st]; simp [frD]
  · rw [set_ne n2]; exact S0.tk'
  · rcases List.mem_append.mp hf with hf | hf
    · have n3 : r ≠ f.2.1 := fun e => by
        simp only [List.map_append, List.map_cons, List.map_nil] at nd
        have nd2 := (List.nodup_cons.mp (List.nodup_cons.mp nd).2).2
        exact (List.nodup_append.mp nd2).2.2 _ (List.mem_map.mpr ⟨f, hf, rfl⟩) _ (by simp) e.symm
      rw [set_ne n3]
      exact S0.at' f (by simp [hf])
    · rw [List.mem_singleton.mp hf]
      exact set_eq e
  · simpa using nd
  · have := S0.few; simpa using this
  · rcases List.mem_append.mp hf with hf | hf
    · exact S0.lf f (by simp [hf])
    · rw [List.mem_singleton.mp hf]; exact S0.lf (b, r, L) (by simp)
theorem Stk.push {h0 h : AH} {s tk : Nat} {TK : List D} {fs : List Fr} (S0 : Stk h0 h s tk TK fs) (hs : fs.length < 100) (b : Str) : Stk h0 ((h ++ [O.lst []]).set s (.lst (fs.map frD ++ [frD (b, h.length, [])]))) s tk TK (fs ++ [(b, h.length, [])]) := by
  have ls : s < h.length := (List.getElem?_eq_some_iff.mp S0.st).1
  have lt' : tk < h.length := (List.getElem?_eq_some_iff.mp S0.tk').1
  have nd := S0.nd
  have nst : s ≠ tk := fun e => by subst e; simp at nd
  have lf : ∀ f ∈ fs, f.2.1 < h.length := fun f hf => (List.getElem?_eq_some_iff.mp (S0.at' f hf)).1
  have nsf : ∀ f ∈ fs, s ≠ f.2.1 := fun f hf e => by
    have := (List.nodup_cons.mp nd).1
    exact this (List.mem_cons_of_mem _ (List.mem_map.mpr ⟨f, hf, e.symm⟩))
  have lh : h0.length ≤ h.length := List.IsPrefix.length_le S0.pre
  refine ⟨?_, ?_, fun f hf => ?_, ?_, ?_, pre_set (S0.pre.trans (List.prefix_append _ _)) S0.ls, S0.ls, fun f hf => ?_⟩
  · rw [set_eq (get_old S0.st)]; simp
  · rw [set_ne nst]; exact get_old S0.tk'
  · rcases List.mem_append.mp hf with hf | hf
    · rw [set_ne (nsf f hf)]; exact get_old (S0.at' f hf)
    · rw [List.mem_singleton.mp hf, set_ne (by show s ≠ h.length; omega)]
      exact get_last
  · simp only [List.map_append, List.map_cons, List.map_nil]
    have n1 := List.nodup_cons.mp nd
    have n2 := List.nodup_cons.mp n1.2
    refine List.nodup_cons.mpr ⟨fun hm => ?_, List.nodup_cons.mpr ⟨fun hm => ?_, List.nodup_append.mpr ⟨n2.2, by simp, fun a ha c hc => ?_⟩⟩⟩
    · rcases List.mem_cons.mp hm with e | hm
      · exact nst e
      · rcases List.mem_append.mp hm with hm | hm
        · exact n1.1 (List.mem_cons_of_mem _ hm)
        · have := List.mem_singleton.mp hm; omega
    · rcases List.mem_append.mp hm with hm | hm
      · exact n2.1 hm
      · have := List.mem_singleton.mp hm; omega
    · obtain ⟨f, hf, rfl⟩ := List.mem_map.mp ha
      have := lf f hf
      have := List.mem_singleton.mp hc
      omega
  · simp only [List.length_append, List.length_singleton]; omega
  · rcases List.mem_append.mp hf with hf | hf
    · exact S0.lf f hf
    · rw [List.mem_singleton.mp hf]; exact lh
theorem Stk.pop {h0 h : AH} {s tk : Nat} {TK : List D} {fs : List Fr} {f : Fr} (S0 : Stk h0 h s tk TK (fs ++ [f])) : Stk h0 (h.set s (.lst (fs.map frD))) s tk TK fs := by
  have nd := S0.nd
  have nst : s ≠ tk := fun e => by subst e; simp at nd
  have nsf : ∀ g ∈ fs, s ≠ g.2.1 := fun g hg e => by
    have := (List.nodup_cons.mp nd).1
    exact this (List.mem_cons_of_mem _ (List.mem_map.mpr ⟨g, by simp [hg], e.symm⟩))
  refine ⟨set_eq S0.st, by rw [set_ne nst]; exact S0.tk', fun g hg => by rw [set_ne (nsf g hg)]; exact S0.at' g (by simp [hg]), ?_, ?_, pre_set S0.pre S0.ls, S0.ls, fun g hg => S0.lf g (by simp [hg])⟩
  · simp only [List.map_append] at nd
    have n1 := List.nodup_cons.mp nd
    have n2 := List.nodup_cons.mp n1.2
    refine List.nodup_cons.mpr ⟨fun hm => n1.1 ?_, List.nodup_cons.mpr ⟨fun hm => n2.1 (List.mem_append_left _ hm), (List.nodup_append.mp n2.2).1⟩⟩
    rcases List.mem_cons.mp hm with e | hm
    · rw [e]; exact List.mem_cons_self
    · exact List.mem_cons_of_mem _ (List.mem_append_left _ hm)
  · have := S0.few; simp only [List.length_append, List.length_singleton] at this; omega
end K04

namespace K04
open Mi L2 PySem PySem.Spec PyProof.Rows
/-! ### the turns of trees_of -/
def app1 (F : EF) : SF := sExpr (cMeth "list" mAppend (cBin opIx (cBin opIx (cVar 1) (cNeg (cC (.int 1)))) (cC (.int 1))) (aCons F aNil))
def chk : SF := sIf (tVal (cBin opGt (cBin opSub (cCall fLen (aCons (cVar 1) aNil)) (cC (.int 1))) (cC (.int 160)))) sStuck sPass
def trIf (V' : FV) : SF := (sIf (tVal (cBin opIn2 (cVar 2) (cTup (aCons (cC (.str ("(" : Str))) (aCons (cC (.str ("[" : Str))) aNil)))))
      (sExpr (cMeth "list" mAppend (cVar 1) (aCons (cTup (aCons (cVar 2) (aCons (cLst aNil) aNil))) aNil)))
      (sIf (tVal (cBin (opInTab V'.d_CLOSED tab_CLOSED) (cVar 2) (cC (.own V'.d_CLOSED))))
      (sSeq (sAsg (cMeth "list" mPop (cVar 1) aNil) (gT 2 (gCons' (gN 3) (gCons' (gN 4) gNil'))))
    (sSeq (sIf (tVal (cBin opNe (cVar 3) (cBin (opIxTab V'.d_CLOSED tab_CLOSED) (cC (.own V'.d_CLOSED)) (cVar 2))))
      sStuck
      sPass)
    (app1 (cTup (aCons (cVar 3) (aCons (cCall fTuple (aCons (cVar 4) aNil)) aNil))))))
      (app1 (cVar 2))))
def trB (V' : FV) : SF := sSeq (trIf V') chk
theorem trees_b (V' : FV) : b_trees_of V' = (sSeq (sSet 1 (cLst (aCons (cTup (aCons (cC (.str ("" : Str))) (aCons (cLst aNil) aNil))) aNil)))
    (sSeq (sFor (iAny (cFn f_pieces_of (aCons (cVar 0) aNil))) (gN 2) (trB V'))
    (sSeq (sIf (tVal (cBin opGt (cCall fLen (aCons (cVar 1) aNil)) (cC (.int 1))))
      sStuck
      sPass)
    (sRet (cBin opIx (cBin opIx (cVar 1) (cC (.int 0))) (cC (.int 1))))))) := rfl
abbrev En (T : List Nat) (s : Nat) (x2 x3 x4 : Option D) : AEnv := [some (.str (S T)), some (.ref s), x2, x3, x4]
theorem chk_ok {T : List Nat} {s : Nat} {x2 x3 x4 : Option D} {h : AH} {xs : List D} (k : h[s]? = some (.lst xs)) (hx : xs.length ≤ 120) : chk (En T s x2 x3 x4) h = .nx (En T s x2 x3 x4) h := by
  have l : cCall fLen (aCons (cVar 1) aNil) (En T s x2 x3 x4) h = .ok (.int xs.length) h := (cCall_eq (aCons_eq (x := .ref s) rfl aNil_eq)).trans (by simp only [fLen, k])
  have t : tVal (cBin opGt (cBin opSub (cCall fLen (aCons (cVar 1) aNil)) (cC (.int 1))) (cC (.int 160))) (En T s x2 x3 x4) h = .ok false h := by
    refine tVal_eq ((cBin_eq ((cBin_eq l rfl).trans rfl) rfl).trans ?_)
    show Res.ok (D.bl (decide ((xs.length : Int) - 1 > 160))) h = _
    rw [decide_eq_false (by omega)]
  exact (sIf_f t).trans rfl
theorem last_ix {h : AH} {s : Nat} {xs : List D} {x : D} (k : h[s]? = some (.lst (xs ++ [x]))) : opIx (.ref s) (.int (-1)) h = .ok x h := by
  have a : atI (xs ++ [x]) (-1 : Int) = some x := by
    unfold atI ixN
    have l : (xs ++ [x]).length = xs.length + 1 := by simp
    rw [l, if_neg (by omega), if_pos (by omega)]
    have e : ((-1 : Int) + ((xs.length + 1 : Nat) : Int)).toNat = xs.length := by omega
    rw [Option.bind_some, e]
    simp
  simp only [opIx, seqD, k, a]
/-- what is appended to the uppermost frame's list -/
theorem app1_ok {F : EF} {T : List Nat} {s tk : Nat} {TK : List D} {fs : List Fr} {b : Str} {r : Nat} {L : List D} {x2 x3 x4 : Option D} {h0 h : AH} {x : D} (S0 : Stk h0 h s tk TK (fs ++ [(b, r, L)])) (hL : L.length ≤ 1000) (e : F (En T s x2 x3 x4) h = .ok x h) :
    app1 F (En T s x2 x3 x4) h = .nx (En T s x2 x3 x4) (h.set r (.lst (L ++ [x]))) := by
  have st := S0.st
  rw [List.map_append] at st
  have q1 : cBin opIx (cVar 1) (cNeg (cC (.int 1))) (En T s x2 x3 x4) h = .ok (.tup [.str b, .ref r]) h := (cBin_eq rfl rfl).trans (last_ix st)
  have q2 : cBin opIx (cBin opIx (cVar 1) (cNeg (cC (.int 1)))) (cC (.int 1)) (En T s x2 x3 x4) h = .ok (.ref r) h := (cBin_eq q1 rfl).trans rfl
  have k := S0.at' (b, r, L) (by simp)
  have k' : h[r]? = some (.lst L) := k
  refine sExpr_eq (d := .non) ((cMeth_eq (h1 := h) (h2 := h) (d := .ref r) (ds := [x]) q2 (by simp [isTy, tyD, k']) (aCons_eq e aNil_eq)).trans ?_)
  simp only [mAppend, k']
  rw [if_pos (by rw [sizeLine_eq]; omega)]
theorem fairS {h : AH} {l : List Nat} (hl : l.length ≤ 25) (ha : ∀ c ∈ l, c < 128) : Fair h (.str (S l)) := Asc.fair (asc_S hl ha) (by omega)
theorem isStr_S {l : List Nat} {z : Str} {m : List Nat} (e : z = S m) : isStr z (.str (S l)) = decide (l = m) := by
  subst e
  show decide (S l = S m) = _
  rw [decide_eq_decide]
  exact ⟨fun h => by have := congrArg (fun x : Str => x.cps.toList) h; simpa using this, fun h => by rw [h]⟩
theorem br : ("(" : Str) = S [40] ∧ ("[" : Str) = S [91] ∧ (")" : Str) = S [41] ∧ ("]" : Str) = S [93] := by decide +kernel
theorem open_t {T : List Nat} {s : Nat} {l : List Nat} {x3 x4 : Option D} {h : AH} (f : Fair h (.str (S l))) : tVal (cBin opIn2 (cVar 2) (cTup (aCons (cC (.str ("(" : Str))) (aCons (cC (.str ("[" : Str))) aNil)))) (En T s (some (.str (S l))) x3 x4) h = .ok (decide (l = [40]) || decide (l = [91])) h := by
  have q := in_two (ε := En T s (some (.str (S l))) x3 x4) (h := h) (h1 := h) (F := cVar 2) (z1 := "(") (z2 := "[") f rfl
  rw [isStr_S br.1, isStr_S br.2.1] at q
  exact tVal_eq q
theorem tab_c {l : List Nat} : tabAt tab_CLOSED (S l) = if l = [41] then some (.str "(") else if l = [93] then some (.str "[") else none := by
  have e1 : ((")" : Str) == S l) = decide (l = [41]) := by
    rw [br.2.2.1, Bool.eq_iff_iff, beq_iff_eq, decide_eq_true_eq]
    exact ⟨fun h => by have := congrArg (fun x : Str => x.cps.toList) h; simpa using this.symm, fun h => by rw [h]⟩
  have e2 : (("]" : Str) == S l) = decide (l = [93]) := by
    rw [br.2.2.2, Bool.eq_iff_iff, beq_iff_eq, decide_eq_true_eq]
    exact ⟨fun h => by have := congrArg (fun x : Str => x.cps.toList) h; simpa using this.symm, fun h => by rw [h]⟩
  unfold tabAt tab_CLOSED
  simp only [List.find?_cons, e1, e2, List.find?_nil]
  by_cases c1 : l = [41]
  · simp [c1]
  · by_cases c2 : l = [93] <;> simp [c1, c2]
theorem close_t {V' : FV} {T : List Nat} {s : Nat} {l : List Nat} {x3 x4 : Option D} {h : AH} : tVal (cBin (opInTab V'.d_CLOSED tab_CLOSED) (cVar 2) (cC (.own V'.d_CLOSED))) (En T s (some (.str (S l))) x3 x4) h = .ok (tabAt tab_CLOSED (S l)).isSome h := by
  refine tVal_eq ((cBin_eq rfl rfl).trans ?_)
  simp only [opInTab, if_true]
theorem turn_leaf {V' : FV} {T : List Nat} {s tk : Nat} {TK : List D} {fs : List Fr} {b : Str} {r : Nat} {L : List D} {x3 x4 : Option D} {h0 h : AH} {l : List Nat} (S0 : Stk h0 h s tk TK (fs ++ [(b, r, L)])) (hL : L.length ≤ 1000) (f : Fair h (.str (S l))) (hl : l ≠ [40] ∧ l ≠ [41] ∧ l ≠ [91] ∧ l ≠ [93]) :
    trB V' (En T s (some (.str (S l))) x3 x4) h = .nx (En T s (some (.str (S l))) x3 x4) (h.set r (.lst (L ++ [.str (S l)]))) := by
  have t1 := open_t (T := T) (s := s) (x3 := x3) (x4 := x4) f
  rw [decide_eq_false hl.1, decide_eq_false hl.2.2.1] at t1
  have t2 := close_t (V' := V') (T := T) (s := s) (l := l) (x3 := x3) (x4 := x4) (h := h)
  rw [tab_c, if_neg hl.2.1, if_neg hl.2.2.2] at t2
  have S1 := S0.add (.str (S l))
  exact (sSeq_nx ((sIf_f t1).trans ((sIf_f t2).trans (app1_ok S0 hL rfl)))).trans (chk_ok S1.st (by rw [List.length_map]; have := S1.few; omega))
theorem turn_open {V' : FV} {T : List Nat} {s tk : Nat} {TK : List D} {fs : List Fr} {x3 x4 : Option D} {h0 h : AH} (S0 : Stk h0 h s tk TK fs) (hs : fs.length < 100) :
    trB V' (En T s (some (.str (S [91]))) x3 x4) h = .nx (En T s (some (.str (S [91]))) x3 x4) ((h ++ [O.lst []]).set s (.lst (fs.map frD ++ [frD (S [91], h.length, [])]))) := by
  have t1 := open_t (T := T) (s := s) (x3 := x3) (x4 := x4) (fairS (h := h) (l := [91]) (by simp) (by simp))
  rw [decide_eq_true (show ([91] : List Nat) = [91] from rfl), Bool.or_true] at t1
  have S1 := S0.push hs (S [91])
  have k : (h ++ [O.lst []])[s]? = some (.lst (fs.map frD)) := get_old S0.st
  have z : ∀ {j : Nat}, j ≤ 1000 → j ≤ sizeLine := fun q => by rw [sizeLine_eq]; omega
  have q : sExpr (cMeth "list" mAppend (cVar 1) (aCons (cTup (aCons (cVar 2) (aCons (cLst aNil) aNil))) aNil)) (En T s (some (.str (S [91]))) x3 x4) h = .nx (En T s (some (.str (S [91]))) x3 x4) ((h ++ [O.lst []]).set s (.lst (fs.map frD ++ [frD (S [91], h.length, [])]))) := by
    refine sExpr_eq (d := .non) ((cMeth_eq (h1 := h) (h2 := h ++ [O.lst []]) (d := .ref s) (ds := [.tup [.str (S [91]), .ref h.length]]) rfl (by simp [isTy, tyD, S0.st]) (aCons_eq (cTup_eq (aCons_eq rfl (aCons_eq (cLst_eq (ds := []) rfl (Nat.zero_le _)) aNil_eq)) (z (Nat.le_of_ble_eq_true rfl))) aNil_eq)).trans ?_)
    simp only [mAppend, k]
    rw [if_pos (by rw [List.length_map, sizeLine_eq]; omega)]
    rfl
  exact (sSeq_nx ((sIf_t t1).trans q)).trans (chk_ok S1.st (by rw [List.length_map]; have := S1.few; omega))
theorem turn_close {V' : FV} {T : List Nat} {s tk : Nat} {TK : List D} {fs : List Fr} {b : Str} {r r2 : Nat} {L L2 : List D} {x3 x4 : Option D} {h0 h : AH} (S0 : Stk h0 h s tk TK (fs ++ [(b, r, L)] ++ [(S [91], r2, L2)])) (hL : L.length ≤ 1000) :
    trB V' (En T s (some (.str (S [93]))) x3 x4) h = .nx (En T s (some (.str (S [93]))) (some (.str (S [91]))) (some (.ref r2))) ((h.set s (.lst ((fs ++ [(b, r, L)]).map frD))).set r (.lst (L ++ [.tup [.str (S [91]), .tup L2]]))) := by
  have t1 := open_t (T := T) (s := s) (x3 := x3) (x4 := x4) (fairS (h := h) (l := [93]) (by simp) (by simp))
  rw [decide_eq_false (by decide), decide_eq_false (by decide)] at t1
  have t2 := close_t (V' := V') (T := T) (s := s) (l := [93]) (x3 := x3) (x4 := x4) (h := h)
  rw [tab_c, if_neg (by decide), if_pos rfl] at t2
  have S1 := S0.pop
  have k2 := S0.at' (S [91], r2, L2) (by simp)
  have k2' : h[r2]? = some (.lst L2) := k2
  have nrs : s ≠ r2 := fun e => by
    have nd := S0.nd
    subst e
    simp at nd
  have k3 : (h.set s (.lst ((fs ++ [(b, r, L)]).map frD)))[r2]? = some (.lst L2) := by rw [set_ne nrs]; exact k2'
  have q1 : sAsg (cMeth "list" mPop (cVar 1) aNil) (gT 2 (gCons' (gN 3) (gCons' (gN 4) gNil'))) (En T s (some (.str (S [93]))) x3 x4) h = .nx (En T s (some (.str (S [93]))) (some (.str (S [91]))) (some (.ref r2))) (h.set s (.lst ((fs ++ [(b, r, L)]).map frD))) := by
    have st := S0.st
    rw [List.map_append] at st
    have e : cMeth "list" mPop (cVar 1) aNil (En T s (some (.str (S [93]))) x3 x4) h = .ok (.tup [.str (S [91]), .ref r2]) (h.set s (.lst ((fs ++ [(b, r, L)]).map frD))) := by
      refine (cMeth_eq (h1 := h) (h2 := h) (d := .ref s) (ds := []) rfl (by simp [isTy, tyD, st]) rfl).trans ?_
      simp [mPop, st, frD]
    unfold sAsg
    rw [e, Res.st_ok]
    rfl
  have ix : cBin (opIxTab V'.d_CLOSED tab_CLOSED) (cC (.own V'.d_CLOSED)) (cVar 2) (En T s (some (.str (S [93]))) (some (.str (S [91]))) (some (.ref r2))) (h.set s (.lst ((fs ++ [(b, r, L)]).map frD))) = .ok (.str "[") (h.set s (.lst ((fs ++ [(b, r, L)]).map frD))) := by
    refine (cBin_eq rfl rfl).trans ?_
    simp only [opIxTab, if_true]
    rw [tab_c, if_neg (by decide), if_pos rfl]
  have t3 : tVal (cBin opNe (cVar 3) (cBin (opIxTab V'.d_CLOSED tab_CLOSED) (cC (.own V'.d_CLOSED)) (cVar 2))) (En T s (some (.str (S [93]))) (some (.str (S [91]))) (some (.ref r2))) (h.set s (.lst ((fs ++ [(b, r, L)]).map frD))) = .ok false (h.set s (.lst ((fs ++ [(b, r, L)]).map frD))) := by
    refine tVal_eq ((cBin_eq rfl ix).trans ?_)
    rw [br.2.1]
    simp [opNe, scalEq]
  have tp : cTup (aCons (cVar 3) (aCons (cCall fTuple (aCons (cVar 4) aNil)) aNil)) (En T s (some (.str (S [93]))) (some (.str (S [91]))) (some (.ref r2))) (h.set s (.lst ((fs ++ [(b, r, L)]).map frD))) = .ok (.tup [.str (S [91]), .tup L2]) (h.set s (.lst ((fs ++ [(b, r, L)]).map frD))) := by
    refine cTup_eq (aCons_eq rfl (aCons_eq ((cCall_eq (aCons_eq (x := .ref r2) rfl aNil_eq)).trans ?_) aNil_eq)) (by rw [sizeLine_eq]; exact Nat.le_of_ble_eq_true rfl)
    simp only [fTuple, k3]
  have S2 := S1.add (.tup [.str (S [91]), .tup L2])
  exact (sSeq_nx ((sIf_f t1).trans ((sIf_t t2).trans ((sSeq_nx q1).trans ((sSeq_nx ((sIf_f t3).trans rfl)).trans (app1_ok S1 hL tp)))))).trans (chk_ok S2.st (by rw [List.length_map]; have := S2.few; omega))
end K04

namespace K04
open Mi L2 PySem PySem.Spec PyProof.Rows
def Seg (h0 : AH) (V' : FV) (T : List Nat) (s tk : Nat) (TK : List D) (tok : List (List Nat)) (out : List D) (fs : List Fr) : Prop := ∀ (b : Str) (r : Nat) (L : List D) (x2 x3 x4 : Option D) (h : AH) (m i : Nat) (rest : List D), Stk h0 h s tk TK (fs ++ [(b, r, L)]) → L.length + out.length ≤ 100 → TK.drop i = sts tok ++ rest →
  ∃ x2' x3' x4' h', forGo (.live tk TK.length) (gN 2) (trB V') (m + tok.length) i (En T s x2 x3 x4) h = forGo (.live tk TK.length) (gN 2) (trB V') m (i + tok.length) (En T s x2' x3' x4') h' ∧ Stk h0 h' s tk TK (fs ++ [(b, r, L ++ out)])
theorem sts_app (a b : List (List Nat)) : sts (a ++ b) = sts a ++ sts b := List.map_append
theorem drop_step {TK a rest : List D} {i : Nat} (e : TK.drop i = a ++ rest) : TK.drop (i + a.length) = rest := by
  rw [← List.drop_drop, e, List.drop_left]
theorem Seg.nil {h0 : AH} {V' : FV} {T : List Nat} {s tk : Nat} {TK : List D} {fs : List Fr} : Seg h0 V' T s tk TK [] [] fs := fun b r L x2 x3 x4 h m i rest S0 _ _ =>
  ⟨x2, x3, x4, h, rfl, by rw [List.append_nil]; exact S0⟩
theorem Seg.app {h0 : AH} {V' : FV} {T : List Nat} {s tk : Nat} {TK : List D} {fs : List Fr} {t1 t2 : List (List Nat)} {o1 o2 : List D} (g1 : Seg h0 V' T s tk TK t1 o1 fs) (g2 : Seg h0 V' T s tk TK t2 o2 fs) : Seg h0 V' T s tk TK (t1 ++ t2) (o1 ++ o2) fs := fun b r L x2 x3 x4 h m i rest S0 hL e => by
  rw [List.length_append] at hL
  rw [sts_app, List.append_assoc] at e
  obtain ⟨a2, a3, a4, h1, e1, S1⟩ := g1 b r L x2 x3 x4 h (m + t2.length) i (sts t2 ++ rest) S0 (by omega) e
  have e' := drop_step e
  rw [show (sts t1).length = t1.length from List.length_map _] at e'
  obtain ⟨b2, b3, b4, h2, e2, S2⟩ := g2 b r (L ++ o1) a2 a3 a4 h1 m (i + t1.length) rest S1 (by rw [List.length_append]; omega) e'
  refine ⟨b2, b3, b4, h2, ?_, by rw [← List.append_assoc]; exact S2⟩
  rw [List.length_append, show m + (t1.length + t2.length) = m + t2.length + t1.length by omega, e1, e2]
  congr 1
  omega
theorem turn_of {h0 : AH} {V' : FV} {T : List Nat} {s tk : Nat} {TK : List D} {fs : List Fr} {x2 x3 x4 y2 y3 y4 : Option D} {h h' : AH} {m i : Nat} {rest : List D} {l : List Nat} (S0 : Stk h0 h s tk TK fs) (e : TK.drop i = .str (S l) :: rest) (t : trB V' (En T s (some (.str (S l))) x3 x4) h = .nx (En T s y2 y3 y4) h') :
    forGo (.live tk TK.length) (gN 2) (trB V') (m + 1) i (En T s x2 x3 x4) h = forGo (.live tk TK.length) (gN 2) (trB V') m (i + 1) (En T s y2 y3 y4) h' := by
  have it' : (AIt.live tk TK.length).item i h = some (.str (S l)) := by
    have : TK[i]? = some (.str (S l)) := by
      have := congrArg (fun z : List D => z[0]?) e
      simpa using this
    simp only [AIt.item, S0.tk', if_true, this]
  have g : gN 2 (.str (S l)) (En T s x2 x3 x4) h = some (En T s (some (.str (S l))) x3 x4) := rfl
  simp only [forGo, it', g, t]
theorem lt_asc {d : D} (w : Lf d) : ∀ c ∈ lt d, c < 128 := by
  have num : ∀ (z : Int), ∀ c ∈ it z, c < 128 := fun z c hc => by
    cases z with
    | ofNat k => have := (digit_of hc).2; omega
    | negSucc k =>
      rcases List.mem_cons.mp hc with rfl | hc
      · decide
      · have := (digit_of hc).2; omega
  cases w with
  | non => decide
  | bl b => cases b <;> decide
  | int z _ => exact num z
  | str l _ h =>
    intro c hc
    rcases List.mem_cons.mp hc with rfl | hc
    · decide
    · rcases List.mem_append.mp hc with hc | hc
      · exact Lf.asc h c hc
      · rw [List.mem_singleton.mp hc]; decide
  | thing k _ =>
    intro c hc
    rcases List.mem_cons.mp hc with rfl | hc
    · decide
    · exact num k c hc
  | dk b m n hm hn =>
    intro c hc
    rcases List.mem_append.mp hc with hc | hc
    · have := (hm.2.2 c hc).2; omega
    · rcases List.mem_cons.mp hc with rfl | hc
      · split <;> decide
      · have := (hn.2.2 c hc).2; omega
theorem seg_V {h0 : AH} {V' : FV} {T : List Nat} {s tk : Nat} {TK : List D} {n : Nat} {d : D} (w : V n d) : ∀ fs : List Fr, fs.length + n ≤ 60 → Seg h0 V' T s tk TK (tks n d) [tree n d] fs := by
  induction w with
  | leaf hl =>
    rename_i n d
    intro fs _ b r L x2 x3 x4 h m i rest S0 hL e
    rw [tks_leaf hl] at e ⊢
    rw [tree_leaf hl]
    have t := turn_leaf (V' := V') (T := T) (x3 := x3) (x4 := x4) (l := lt d) S0 (by simp at hL; omega) (fairS (lt_len hl).2 (lt_asc hl)) ⟨lt_ne hl rfl (by decide), lt_ne hl rfl (by decide), lt_ne hl rfl (by decide), lt_ne hl rfl (by decide)⟩
    exact ⟨_, _, _, _, turn_of S0 e t, S0.add _⟩
  | row h1 h2 ih =>
    rename_i n ds
    intro fs hf b r L x2 x3 x4 h m i rest S0 hL e
    have kids : ∀ (ks : List D), (∀ d ∈ ks, d ∈ ds) → Seg h0 V' T s tk TK ((ks.map (tks n)).flatten) (ks.map (tree n)) (fs ++ [(b, r, L)]) := by
      intro ks
      induction ks with
      | nil => intro _; exact Seg.nil
      | cons a q ih2 =>
        intro g
        have g1 := ih a (g a (by simp)) (fs ++ [(b, r, L)]) (by simp only [List.length_append, List.length_singleton]; omega)
        exact g1.app (ih2 fun d hd => g d (List.mem_cons_of_mem _ hd))
    rw [tks_row, tree_row, br.2.1]
    rw [tks_row] at e
    have len : ([91] :: ((ds.map (tks n)).flatten ++ [[93]])).length = ((ds.map (tks n)).flatten).length + 2 := by simp
    have lf : (fs ++ [(b, r, L)]).length < 100 := by simp only [List.length_append, List.length_singleton]; omega
    have t1 := turn_open (V' := V') (T := T) (x3 := x3) (x4 := x4) S0 lf
    have S1 := S0.push lf (S [91])
    have e1 : TK.drop i = .str (S [91]) :: (sts ((ds.map (tks n)).flatten) ++ (.str (S [93]) :: rest)) := by
      rw [e]
      show .str (S [91]) :: (sts ((ds.map (tks n)).flatten ++ [[93]]) ++ rest) = _
      rw [sts_app, List.append_assoc]
      rfl
    have e2 : TK.drop (i + 1) = sts ((ds.map (tks n)).flatten) ++ (.str (S [93]) :: rest) := by
      have := drop_step (a := [.str (S [91])]) e1
      simpa using this
    obtain ⟨y2, y3, y4, h3, e3, S3⟩ := kids ds (fun _ h => h) (S [91]) h.length [] (some (.str (S [91]))) x3 x4 _ (m + 1) (i + 1) (.str (S [93]) :: rest) S1 (by simp; omega) e2
    have e4 := drop_step e2
    rw [show (sts ((ds.map (tks n)).flatten)).length = ((ds.map (tks n)).flatten).length from List.length_map _] at e4
    have t5 := turn_close (V' := V') (T := T) (x3 := y3) (x4 := y4) S3 (by simp at hL; omega)
    refine ⟨some (.str (S [93])), some (.str (S [91])), some (.ref h.length), _, ?_, (S3.pop).add _⟩
    rw [len, show m + (((ds.map (tks n)).flatten).length + 2) = (m + 1 + ((ds.map (tks n)).flatten).length) + 1 by omega, turn_of S0 e1 t1, e3, turn_of S3 e4 t5]
    congr 1
    omega
theorem trees_ok {V' : FV} {n : Nat} {d : D} {h : AH} (w : V n d) (hn : n ≤ 50) (hc : cn n d ≤ 1000) : ∃ h' r, h <+: h' ∧ f_trees_of V' [.str (S (tx n d))] h = .ok (.ref r) h' ∧ h'[r]? = some (.lst [tree n d]) := by
  have P := pc_pcs w (r := []) (by simp)
  have hl := tx_len w
  rw [← pc_flat w] at hl ⊢
  generalize eT : (pc n d).flatten = T at hl ⊢
  have hp := P.len
  rw [eT] at hp
  have z : ∀ {j : Nat}, j ≤ 1000 → j ≤ sizeLine := fun q => by rw [sizeLine_eq]; omega
  have q1 : sSet 1 (cLst (aCons (cTup (aCons (cC (.str ("" : Str))) (aCons (cLst aNil) aNil))) aNil)) [some (.str (S T)), none, none, none, none] h = .nx (En T (h.length + 1) none none none) (h ++ [.lst []] ++ [.lst [.tup [.str "", .ref h.length]]]) := by
    refine (sSet_eq (i := 1) (cLst_eq (ds := [.tup [.str "", .ref h.length]]) (h1 := h ++ [.lst []]) (aCons_eq (cTup_eq (aCons_eq rfl (aCons_eq (cLst_eq (ds := []) rfl (Nat.zero_le _)) aNil_eq)) (z (Nat.le_of_ble_eq_true rfl))) aNil_eq) (z (Nat.le_of_ble_eq_true rfl)))).trans ?_
    rw [List.length_append]
    rfl
  let h1 : AH := h ++ [.lst []] ++ [.lst [.tup [.str "", .ref h.length]]]
  have l1 : h1.length = h.length + 2 := by simp [h1]
  obtain ⟨h2, tk, p2, ltk, e2, k2⟩ := pieces_ok (h := h1) P (by rw [eT]; omega) (by omega)
  rw [eT] at e2
  rw [pc_tks w] at k2
  have lk := tks_len w
  have S0 : Stk h h2 (h.length + 1) tk (sts (tks n d)) (([] : List Fr) ++ [(("" : Str), h.length, ([] : List D))]) := by
    have a1 : h1[h.length + 1]? = some (.lst [.tup [.str "", .ref h.length]]) := by
      have : h.length + 1 = (h ++ [O.lst []]).length := by simp
      rw [this]
      exact get_last
    have a2 : h1[h.length]? = some (.lst []) := get_old get_last
    refine ⟨getElem_pre p2 a1, k2, fun f hf => ?_, ?_, by simp, ((List.prefix_append _ _).trans (List.prefix_append _ _)).trans p2, by omega, fun f hf => ?_⟩
    · simp only [List.nil_append, List.mem_singleton] at hf
      subst hf
      exact getElem_pre p2 a2
    · simp only [List.nil_append, List.map_cons, List.map_nil, List.nodup_cons, List.mem_cons, List.not_mem_nil, or_false, not_false_eq_true, List.nodup_nil, and_true]
      omega
    · simp only [List.nil_append, List.mem_singleton] at hf
      subst hf
      exact Nat.le_refl _
  have seg := seg_V (h0 := h) (V' := V') (T := T) (s := h.length + 1) (tk := tk) (TK := sts (tks n d)) w [] (by simp; omega)
  obtain ⟨y2, y3, y4, h3, e3, S3⟩ := seg "" h.length [] none none none h2 0 0 [] S0 (by simp) (by simp)
  have st3 : h3[h.length + 1]? = some (.lst [.tup [.str "", .ref h.length]]) := S3.st
  have loop : sFor (iAny (cFn f_pieces_of (aCons (cVar 0) aNil))) (gN 2) (trB V') (En T (h.length + 1) none none none) h1 = .nx (En T (h.length + 1) y2 y3 y4) h3 := by
    have i1 : iAny (cFn f_pieces_of (aCons (cVar 0) aNil)) (En T (h.length + 1) none none none) h1 = .ok (.live tk (sts (tks n d)).length) h2 := iAny_live ((cFn_eq (A := aCons (cVar 0) aNil) rfl).trans e2) k2
    unfold sFor
    rw [i1, Res.st_ok]
    have e3' := e3
    rw [Nat.zero_add] at e3'
    have ll : (AIt.live tk (sts (tks n d)).length).len = (tks n d).length := by show (sts (tks n d)).length = _; exact List.length_map _
    rw [ll, e3']
    have fin : (AIt.live tk (sts (tks n d)).length).fin h3 = true := by simp only [AIt.fin, S3.tk', decide_true]
    simp only [forGo, fin, if_true]
  have t : tVal (cBin opGt (cCall fLen (aCons (cVar 1) aNil)) (cC (.int 1))) (En T (h.length + 1) y2 y3 y4) h3 = .ok false h3 := by
    have l : cCall fLen (aCons (cVar 1) aNil) (En T (h.length + 1) y2 y3 y4) h3 = .ok (.int 1) h3 := (cCall_eq (aCons_eq (x := .ref (h.length + 1)) rfl aNil_eq)).trans (by simp only [fLen, st3]; rfl)
    exact tVal_eq ((cBin_eq l rfl).trans rfl)
  have ix : cBin opIx (cBin opIx (cVar 1) (cC (.int 0))) (cC (.int 1)) (En T (h.length + 1) y2 y3 y4) h3 = .ok (.ref h.length) h3 := by
    have q : cBin opIx (cVar 1) (cC (.int 0)) (En T (h.length + 1) y2 y3 y4) h3 = .ok (.tup [.str "", .ref h.length]) h3 := by
      refine (cBin_eq (x := .ref (h.length + 1)) rfl rfl).trans ?_
      simp only [opIx, seqD, st3]
      rfl
    exact (cBin_eq q rfl).trans rfl
  refine ⟨h3, h.length, S3.pre, ?_, S3.at' ("", h.length, [] ++ [tree n d]) (by simp)⟩
  rw [show f_trees_of V' = runB 1 5 (b_trees_of V') from rfl, trees_b]
  exact runB_ret rfl ((sSeq_nx q1).trans ((sSeq_nx loop).trans ((sSeq_nx ((sIf_f t).trans rfl)).trans (sRet_eq ix))))
/-- the tree that a worth's text is -/
theorem tree_ok {V' : FV} {n : Nat} {d : D} {h : AH} (w : V n d) (hn : n ≤ 50) (hc : cn n d ≤ 1000) : ∃ h', h <+: h' ∧ f_only_tree V' [.str (S (tx n d))] h = .ok (tree n d) h' := by
  obtain ⟨h', r, p, e, k⟩ := trees_ok (V' := V') (h := h) w hn hc
  refine ⟨h', p, ?_⟩
  have q1 : sSet 1 (cFn (f_trees_of V') (aCons (cVar 0) aNil)) [some (.str (S (tx n d))), none] h = .nx [some (.str (S (tx n d))), some (.ref r)] h' := sSet_eq (i := 1) ((cFn_eq (A := aCons (cVar 0) aNil) rfl).trans e)
  have l : cCall fLen (aCons (cVar 1) aNil) [some (.str (S (tx n d))), some (.ref r)] h' = .ok (.int 1) h' := (cCall_eq (aCons_eq (x := .ref r) rfl aNil_eq)).trans (by simp only [fLen, k]; rfl)
  have t : tVal (cBin opNe (cCall fLen (aCons (cVar 1) aNil)) (cC (.int 1))) [some (.str (S (tx n d))), some (.ref r)] h' = .ok false h' := tVal_eq ((cBin_eq l rfl).trans rfl)
  have ix : cBin opIx (cVar 1) (cC (.int 0)) [some (.str (S (tx n d))), some (.ref r)] h' = .ok (tree n d) h' := by
    refine (cBin_eq (x := .ref r) rfl rfl).trans ?_
    simp only [opIx, seqD, k]
    rfl
  exact runB_ret rfl ((sSeq_nx q1).trans ((sSeq_nx ((sIf_f t).trans rfl)).trans (sRet_eq ix)))
end K04

namespace K04
open Mi L2 PySem PySem.Spec PyProof.Rows
/-! ### what is written -/
theorem kb : kitB "NoneType" "bool" = some false ∧ kitB "bool" "bool" = some true ∧ kitB "int" "bool" = some false ∧ kitB "str" "bool" = some false ∧ kitB "tuple" "bool" = some false ∧ kitB "int" "int" = some true ∧ kitB "str" "int" = some false ∧ kitB "tuple" "int" = some false ∧ kitB "str" "str" = some true ∧ kitB "tuple" "str" = some false := by decide +kernel
theorem isv {d : D} {t n : String} {b : Bool} {i : Nat} {ε : AEnv} {h : AH} (e : ε[i]? = some (some d)) (ht : tyD d h = some t) (hk : kitB t n = some b) : tVal (cCall fIsi (aCons (cVar i) (aCons (cC (.ty n)) aNil))) ε h = .ok b h := by
  refine tVal_eq ((cCall_eq (aCons_eq (x := d) (h1 := h) (by simp only [cVar, e]) (aCons_eq (x := .ty n) rfl aNil_eq))).trans ?_)
  simp only [fIsi, ht, hk]
def nonB : D → Bool
  | .non => true
  | _ => false
theorem isn {d : D} {i : Nat} {ε : AEnv} {h : AH} (e : ε[i]? = some (some d)) (f : Fair h d) : tVal (cBin opIs (cVar i) (cC .non)) ε h = .ok (nonB d) h := by
  have q := is_non (F := cVar i) (ε := ε) f (by simp only [cVar, e])
  rw [q]
  cases d <;> rfl
theorem S_app (a b : List Nat) : S a ++ S b = S (a ++ b) := SX.S_cat a b
theorem empty_S : Str.empty = S [] := rfl
theorem quote_S (l : List Nat) : Str.empty ++ ("'" : Str) ++ S l ++ ("'" : Str) = S (39 :: (l ++ [39])) := by
  rw [qs, empty_S, S_app, S_app, S_app]
  simp
theorem strI_ev {z : Int} (hz : z.natAbs ≤ 10 ^ 15) {A : AF} {ε : AEnv} {h : AH} (e : A ε h = .ok [.int z] h) : cCall fStrI A ε h = .ok (.str (S (it z))) h := by
  refine (cCall_eq e).trans ?_
  have lg : z.natAbs.log2 < 1920 := by
    have : z.natAbs < 2 ^ 60 := by omega
    by_cases h0 : z.natAbs = 0
    · rw [h0]; decide
    · have := (Nat.log2_lt h0).mpr this
      omega
  simp only [fStrI]
  rw [if_pos lg]
  show Res.ok (D.str (Str.ofString (toString z))) h = _
  rw [it_str]
theorem show_leaf {n : Nat} {d : D} {h : AH} (w : Lf d) : ∃ h', h <+: h' ∧ f_show_worth (n + 1) [d] h = .ok (.str (S (lt d))) h' := by
  have z : ∀ {j : Nat}, j ≤ 1000 → j ≤ sizeLine := fun q => by rw [sizeLine_eq]; omega
  have k := kb
  have comp : ∀ {x : D} {ds : List D} {t : Str} {h' : AH}, d = .tup ds → h <+: h' → f_show_compound (f_show_worth n) [d] h = .ok (.str t) h' → f_show_worth (n + 1) [d] h = .ok (.str t) h' := fun {x ds t h'} e p q => by
    subst e
    have f := w.fair (h := h)
    refine runB_ret rfl ((sSeq_nx ((sIf_f (isn (d := .tup ds) rfl f)).trans rfl)).trans ((sSeq_nx ((sIf_f (isv (d := .tup ds) rfl rfl k.2.2.2.2.1)).trans rfl)).trans ((sSeq_nx ((sIf_f (isv (d := .tup ds) rfl rfl k.2.2.2.2.2.2.2.1)).trans rfl)).trans ((sSeq_nx ((sIf_f (isv (d := .tup ds) rfl rfl k.2.2.2.2.2.2.2.2.2)).trans rfl)).trans (sRet_eq ?_)))))
    exact (cFn_eq (A := aCons (cVar 0) aNil) rfl).trans q
  cases w with
  | non => exact ⟨h, List.prefix_refl _, runB_ret rfl (sSeq_ret ((sIf_t (isn (d := .non) rfl .non)).trans (sRet_eq (by show Res.ok (D.str "none") h = _; rw [show ("none" : Str) = S [110, 111, 110, 101] from by decide +kernel]; rfl))))⟩
  | bl b =>
    refine ⟨h, List.prefix_refl _, runB_ret rfl ((sSeq_nx ((sIf_f (isn (d := .bl b) rfl (.bl b))).trans rfl)).trans (sSeq_ret ((sIf_t (isv (d := .bl b) rfl rfl k.2.1)).trans (sRet_eq ?_))))⟩
    refine (cIf_eq (k := b) (h1 := h) (by rfl)).trans ?_
    cases b
    · show Res.ok (D.str "no") h = _
      rw [show ("no" : Str) = S [110, 111] from by decide +kernel]
      rfl
    · show Res.ok (D.str "yes") h = _
      rw [show ("yes" : Str) = S [121, 101, 115] from by decide +kernel]
      rfl
  | int i hi =>
    exact ⟨h, List.prefix_refl _, runB_ret rfl ((sSeq_nx ((sIf_f (isn (d := .int i) rfl (.int i))).trans rfl)).trans ((sSeq_nx ((sIf_f (isv (d := .int i) rfl rfl k.2.2.1)).trans rfl)).trans (sSeq_ret ((sIf_t (isv (d := .int i) rfl rfl k.2.2.2.2.2.1)).trans (sRet_eq (strI_ev hi rfl))))))⟩
  | str l h1 h2 =>
    have f : Fair h (.str (S l)) := Asc.fair (asc_S h1 (Lf.asc h2)) (by omega)
    refine ⟨h, List.prefix_refl _, runB_ret rfl ((sSeq_nx ((sIf_f (isn (d := .str (S l)) rfl f)).trans rfl)).trans ((sSeq_nx ((sIf_f (isv (d := .str (S l)) rfl rfl k.2.2.2.1)).trans rfl)).trans ((sSeq_nx ((sIf_f (isv (d := .str (S l)) rfl rfl k.2.2.2.2.2.2.1)).trans rfl)).trans (sSeq_ret ((sIf_t (isv (d := .str (S l)) rfl rfl k.2.2.2.2.2.2.2.2.1)).trans (sRet_eq ?_))))))⟩
    have q := quote_S l
    have c : (S l).length ≤ sizeLine ∧ (Str.empty ++ ("'" : Str) ++ S l).length ≤ sizeLine ∧ (Str.empty ++ ("'" : Str) ++ S l ++ ("'" : Str)).length ≤ sizeLine := by
      rw [q, len_S, len_S]
      have q2 : Str.empty ++ ("'" : Str) ++ S l = S (39 :: l) := by rw [qs, empty_S, S_app, S_app]; simp
      rw [q2, len_S]
      simp only [List.length_cons, List.length_append, List.length_nil]
      exact ⟨z (by omega), z (by omega), z (by omega)⟩
    show (Res.ok (D.str (S l)) h).bind _ = _
    rw [Res.bind_ok]
    simp only
    rw [if_pos c, q]
    rfl
  | thing i hi =>
    refine ⟨h ++ [.lst [.int i]], List.prefix_append _ _, comp (x := .non) rfl (List.prefix_append _ _) ?_⟩
    have g : (h ++ [O.lst [.int (i : Int)]])[h.length]? = some (.lst [.int (i : Int)]) := get_last
    have s1 : sStar 2 3 (cVar 0) [some (.tup [.str "thing", .int i]), none, none, none, none] h = .nx [some (.tup [.str "thing", .int i]), none, some (.str "thing"), some (.ref h.length), none] (h ++ [.lst [.int i]]) := by
      show (Res.ok (D.tup [.str "thing", .int i]) h).st _ _ = _
      rw [Res.st_ok]
      simp only
      rw [if_pos ⟨by simp, by simp, by simp⟩]
      rfl
    have t1 : tVal (cBin opEq2 (cVar 2) (cC (.str ("row" : Str)))) [some (.tup [.str "thing", .int i]), none, some (.str "thing"), some (.ref h.length), none] (h ++ [.lst [.int i]]) = .ok false (h ++ [.lst [.int i]]) := tVal_eq ((cBin_eq rfl rfl).trans rfl)
    have t2 : tVal (cBin opEq2 (cVar 2) (cC (.str ("thing" : Str)))) [some (.tup [.str "thing", .int i]), none, some (.str "thing"), some (.ref h.length), none] (h ++ [.lst [.int i]]) = .ok true (h ++ [.lst [.int i]]) := tVal_eq ((cBin_eq rfl rfl).trans rfl)
    have ix : cBin opIx (cVar 3) (cC (.int 0)) [some (.tup [.str "thing", .int i]), none, some (.str "thing"), some (.ref h.length), none] (h ++ [.lst [.int i]]) = .ok (.int i) (h ++ [.lst [.int i]]) := by
      refine (cBin_eq (x := .ref h.length) rfl rfl).trans ?_
      simp only [opIx, seqD, g]
      rfl
    have st := strI_ev (z := (i : Int)) (by omega) (aCons_eq ix aNil_eq)
    refine runB_ret rfl ((sSeq_nx s1).trans ((sSeq_nx ((sIf_f t1).trans rfl)).trans (sSeq_ret ((sIf_t t2).trans (sRet_eq ((cBin_eq rfl st).trans ?_))))))
    have e35 : ("#" : Str) = S [35] := by decide +kernel
    have ad : opAdd (.str (S [35])) (.str (S (it i))) (h ++ [.lst [.int i]]) = .ok (.str (S (35 :: it i))) (h ++ [.lst [.int i]]) := by
      have li := it_len (z := (i : Int)) (by omega)
      simp only [opAdd, S_app]
      rw [if_pos (by rw [len_S, len_S]; exact z (by simp; omega))]
      rfl
    rw [e35]
    exact ad
  | dk b m q hm hn =>
    let W : D := .tup [.str (dkw b), .str (S m), .str (S q)]
    let H : AH := h ++ [.lst [.str (S m), .str (S q)]]
    refine ⟨H, List.prefix_append _ _, comp (x := .non) rfl (List.prefix_append _ _) ?_⟩
    have g : H[h.length]? = some (.lst [.str (S m), .str (S q)]) := get_last
    have s1 : sStar 2 3 (cVar 0) [some W, none, none, none, none] h = .nx [some W, none, some (.str (dkw b)), some (.ref h.length), none] H := by
      show (Res.ok W h).st _ _ = _
      rw [Res.st_ok]
      simp only [W]
      rw [if_pos ⟨by simp, by simp, by simp⟩]
      rfl
    have ne : ∀ b : Bool, decide (dkw b = "row") = false ∧ decide (dkw b = "thing") = false ∧ decide (dkw b = "deed") = b := by decide +kernel
    have eqw : ∀ (z : Str), tVal (cBin opEq2 (cVar 2) (cC (.str z))) [some W, none, some (.str (dkw b)), some (.ref h.length), none] H = .ok (decide (dkw b = z)) H := fun z => tVal_eq ((cBin_eq rfl rfl).trans rfl)
    have t1 := eqw "row"
    have t2 := eqw "thing"
    have t3 := eqw "deed"
    rw [(ne b).1] at t1
    rw [(ne b).2.1] at t2
    rw [(ne b).2.2] at t3
    have e46 : (if b = true then ("." : Str) else (":" : Str)) = S [if b = true then 46 else 58] := by cases b <;> decide +kernel
    have s2 : sSet 1 (cIf (tVal (cBin opEq2 (cVar 2) (cC (.str ("deed" : Str))))) (cC (.str ("." : Str))) (cC (.str (":" : Str)))) [some W, none, some (.str (dkw b)), some (.ref h.length), none] H = .nx [some W, some (.str (S [if b = true then 46 else 58])), some (.str (dkw b)), some (.ref h.length), none] H := by
      refine sSet_eq (i := 1) ((cIf_eq t3).trans ?_)
      rw [← e46]
      cases b <;> rfl
    have jn : cMeth "str" mJoin (cVar 1) (aCons (cVar 3) aNil) [some W, some (.str (S [if b = true then 46 else 58])), some (.str (dkw b)), some (.ref h.length), none] H = .ok (.str (S (m ++ (if b = true then 46 else 58) :: q))) H := by
      refine (cMeth_eq (h1 := H) (h2 := H) (d := .str (S [if b = true then 46 else 58])) (ds := [.ref h.length]) rfl rfl rfl).trans ?_
      have l1 := hm.2.1
      have l2 := hn.2.1
      have os : omap asStr [.str (S m), .str (S q)] = some [S m, S q] := rfl
      have j : Txt.join (S [if b = true then 46 else 58]) [S m, S q] = S (m ++ (if b = true then 46 else 58) :: q) := by
        refine (SX.join_S [if b = true then 46 else 58] [m, q]).trans ?_
        simp [TL.joinL]
      simp only [mJoin, seqD, g, os]
      rw [if_pos (by simp only [List.map_cons, List.map_nil, List.sum_cons, List.sum_nil, len_S, List.length_cons, List.length_nil]; omega), j]
    refine runB_ret rfl ((sSeq_nx s1).trans ((sSeq_nx ((sIf_f t1).trans rfl)).trans ((sSeq_nx ((sIf_f t2).trans rfl)).trans ((sSeq_nx s2).trans (sRet_eq (jn.trans ?_))))))
    show _ = Res.ok (D.str (S (m ++ (if dkw b = "deed" then 46 else 58) :: q))) H
    have : (if dkw b = "deed" then 46 else 58) = (if b = true then 46 else 58) := by cases b <;> decide +kernel
    rw [this]
theorem lt_bound {n : Nat} {d : D} (w : V n d) : ∀ c ∈ tx n d, c < 128 := by
  induction w with
  | leaf h => rw [tx_leaf h]; exact lt_asc h
  | row h1 h2 ih =>
    rename_i n ds
    rw [tx_row]
    have key : ∀ {xs : List (List Nat)}, (∀ x ∈ xs, ∀ c ∈ x, c < 128) → ∀ c ∈ sepL xs, c < 128 := by
      intro xs
      induction xs with
      | nil => intro _ c hc; cases hc
      | cons a r ih2 =>
        intro g c hc
        cases r with
        | nil => exact g a (by simp) c hc
        | cons b q =>
          rcases List.mem_append.mp hc with hc | hc
          · exact g a (by simp) c hc
          · rcases List.mem_cons.mp hc with rfl | hc
            · decide
            · exact ih2 (fun x hx => g x (List.mem_cons_of_mem _ hx)) c hc
    intro c hc
    rcases List.mem_cons.mp hc with rfl | hc
    · decide
    · rcases List.mem_append.mp hc with hc | hc
      · refine key (fun x hx => ?_) c hc
        obtain ⟨d, hd, rfl⟩ := List.mem_map.mp hx
        exact ih d hd
      · rw [List.mem_singleton.mp hc]; decide
theorem joinL_sep (xs : List (List Nat)) : TL.joinL [32] xs = sepL xs := by
  induction xs with
  | nil => rfl
  | cons a r ih =>
    cases r with
    | nil => simp [TL.joinL, sepL]
    | cons b q =>
      show a ++ ([32] ++ TL.joinL [32] (b :: q)) = a ++ 32 :: sepL (b :: q)
      rw [ih]
      rfl
theorem cn_le {n : Nat} {ds : List D} {d : D} (hd : d ∈ ds) : cn n d ≤ (ds.map (cn n)).sum := by
  induction ds with
  | nil => cases hd
  | cons a r ih =>
    simp only [List.map_cons, List.sum_cons]
    rcases List.mem_cons.mp hd with rfl | hd
    · omega
    · have := ih hd; omega
theorem sum_mul (k : Nat) (f : D → Nat) (ds : List D) : (ds.map fun d => k * f d).sum = k * (ds.map f).sum := by
  induction ds with
  | nil => rfl
  | cons a r ih => simp only [List.map_cons, List.sum_cons, ih, Nat.mul_add]
theorem show_ok {n : Nat} {d : D} (w : V n d) : ∀ {h : AH} {m : Nat}, n < m → cn n d ≤ 1000 → ∃ h', h <+: h' ∧ f_show_worth m [d] h = .ok (.str (S (tx n d))) h' := by
  induction w with
  | leaf hl =>
    intro h m hm _
    obtain ⟨m, rfl⟩ : ∃ g, m = g + 1 := ⟨m - 1, by omega⟩
    rw [tx_leaf hl]
    exact show_leaf hl
  | row h1 h2 ih =>
    rename_i n ds
    intro h m hm hc
    obtain ⟨m, rfl⟩ : ∃ g, m = g + 1 := ⟨m - 1, by omega⟩
    have k := kb
    have z : ∀ {j : Nat}, j ≤ 1000 → j ≤ sizeLine := fun q => by rw [sizeLine_eq]; omega
    have f := (V.row h1 h2).fair (h := h)
    have cs : ∀ d ∈ ds, cn n d ≤ 1000 := fun d hd => by
      have := cn_le (n := n) hd
      rw [cn_row] at hc
      omega
    let W : D := rowT ds
    let H : AH := h ++ [.lst [.tup ds]]
    have g : H[h.length]? = some (.lst [.tup ds]) := get_last
    have s1 : sStar 2 3 (cVar 0) [some W, none, none, none, none] h = .nx [some W, none, some (.str "row"), some (.ref h.length), none] H := by
      show (Res.ok W h).st _ _ = _
      rw [Res.st_ok]
      simp only [W]
      rw [if_pos ⟨by simp, by simp, by simp⟩]
      rfl
    have t1 : tVal (cBin opEq2 (cVar 2) (cC (.str ("row" : Str)))) [some W, none, some (.str "row"), some (.ref h.length), none] H = .ok true H := tVal_eq ((cBin_eq rfl rfl).trans rfl)
    have ix : cBin opIx (cVar 3) (cC (.int 0)) [some W, none, some (.str "row"), some (.ref h.length), none] H = .ok (.tup ds) H := by
      refine (cBin_eq (x := .ref h.length) rfl rfl).trans ?_
      simp only [opIx, seqD, g]
      rfl
    have i1 : iAny (cBin opIx (cVar 3) (cC (.int 0))) [some W, none, some (.str "row"), some (.ref h.length), none] H = .ok (.fix ds) H := by
      unfold iAny
      rw [ix, Res.bind_ok]
      rfl
    obtain ⟨H2, p2, k2, c2⟩ := cComp_any (g := gN 4) (t := tYes') (F := cFn (f_show_worth m) (aCons (cVar 4) aNil)) (own := [4]) (ε := [some W, none, some (.str "row"), some (.ref h.length), none]) i1 rfl (fun _ _ => ⟨fun i hi => by simp [AIt.item], rfl⟩) (by rw [sizeLine_eq]; omega)
      (fun d => [some W, none, some (.str "row"), some (.ref h.length), some d]) (fun _ => true) (fun d => .str (S (tx n d))) (fun _ _ _ => rfl) (fun _ _ h2 _ => ⟨h2, List.prefix_refl _, rfl⟩)
      (fun d hd _ h2 _ => by
        obtain ⟨h3, p3, e3⟩ := ih d hd (h := h2) (m := m) (by omega) (cs d hd)
        exact ⟨h3, p3, (cFn_eq (A := aCons (cVar 4) aNil) rfl).trans e3⟩)
    rw [List.filter_eq_self.mpr fun _ _ => rfl] at k2
    have lx := tx_len (V.row h1 h2)
    rw [tx_row] at lx
    simp only [List.length_cons, List.length_append, List.length_nil] at lx
    have jn : cMeth "str" mJoin (cC (.str (" " : Str))) (aCons (cComp (iAny (cBin opIx (cVar 3) (cC (.int 0)))) (gN 4) tYes' (cFn (f_show_worth m) (aCons (cVar 4) aNil)) [4]) aNil) [some W, none, some (.str "row"), some (.ref h.length), none] H = .ok (.str (S (sepL (ds.map (tx n))))) H2 := by
      refine (cMeth_eq (h1 := H) (h2 := H2) (d := .str " ") (ds := [.ref H.length]) rfl rfl (aCons_eq c2 aNil_eq)).trans ?_
      have os : ∀ xs : List D, omap asStr (xs.map fun d => D.str (S (tx n d))) = some ((xs.map (tx n)).map S) := fun xs => by
        induction xs with
        | nil => rfl
        | cons a r ih3 => simp only [List.map_cons, omap, asStr, ih3]
      have j : Txt.join (" " : Str) ((ds.map (tx n)).map S) = S (sepL (ds.map (tx n))) := by
        rw [show (" " : Str) = S [32] from by decide +kernel]
        exact (SX.join_S [32] (ds.map (tx n))).trans (by rw [joinL_sep])
      have sm : (((ds.map (tx n)).map S).map (·.length)).sum ≤ 30 * (ds.map (cn n)).sum := by
        rw [List.map_map, List.map_map]
        rw [← sum_mul]
        exact sumle fun d hd => by
          have := tx_len (h2 d hd)
          show (S (tx n d)).length ≤ _
          rw [len_S]
          omega
      rw [cn_row] at hc
      simp only [mJoin, seqD, k2, os]
      rw [if_pos (by
        have l1 : ((" " : Str)).length = 1 := by decide +kernel
        rw [l1, List.length_map, List.length_map]
        omega), j]
    have ad : ∀ (a b : List Nat) (hh : AH), a.length + b.length ≤ 100000 → opAdd (.str (S a)) (.str (S b)) hh = .ok (.str (S (a ++ b))) hh := fun a b hh hl => by
      simp only [opAdd, S_app]
      rw [if_pos (by rw [len_S, len_S, sizeLine_eq]; omega)]
    have fin : cBin opAdd (cBin opAdd (cC (.str ("[" : Str))) (cMeth "str" mJoin (cC (.str (" " : Str))) (aCons (cComp (iAny (cBin opIx (cVar 3) (cC (.int 0)))) (gN 4) tYes' (cFn (f_show_worth m) (aCons (cVar 4) aNil)) [4]) aNil))) (cC (.str ("]" : Str))) [some W, none, some (.str "row"), some (.ref h.length), none] H = .ok (.str (S (tx (n + 1) (rowT ds)))) H2 := by
      rw [br.2.1, br.2.2.2]
      have a1 : cBin opAdd (cC (.str (S [91]))) (cMeth "str" mJoin (cC (.str (" " : Str))) (aCons (cComp (iAny (cBin opIx (cVar 3) (cC (.int 0)))) (gN 4) tYes' (cFn (f_show_worth m) (aCons (cVar 4) aNil)) [4]) aNil)) [some W, none, some (.str "row"), some (.ref h.length), none] H = .ok (.str (S (91 :: sepL (ds.map (tx n))))) H2 := (cBin_eq rfl jn).trans (ad [91] _ H2 (by simp; omega))
      exact (cBin_eq a1 rfl).trans (ad (91 :: sepL (ds.map (tx n))) [93] H2 (by simp; omega))
    refine ⟨H2, (List.prefix_append _ _).trans p2, runB_ret rfl ((sSeq_nx ((sIf_f (isn (d := W) rfl f)).trans rfl)).trans ((sSeq_nx ((sIf_f (isv (d := W) rfl rfl k.2.2.2.2.1)).trans rfl)).trans ((sSeq_nx ((sIf_f (isv (d := W) rfl rfl k.2.2.2.2.2.2.2.1)).trans rfl)).trans ((sSeq_nx ((sIf_f (isv (d := W) rfl rfl k.2.2.2.2.2.2.2.2.2)).trans rfl)).trans (sRet_eq ?_)))))⟩
    have sc : f_show_compound (f_show_worth m) [W] h = .ok (.str (S (tx (n + 1) (rowT ds)))) H2 := runB_ret rfl ((sSeq_nx s1).trans (sSeq_ret ((sIf_t t1).trans (sRet_eq fin))))
    exact (cFn_eq (A := aCons (cVar 0) aNil) rfl).trans sc
end K04

namespace K04
open Mi L2 PySem PySem.Spec PyProof.Rows
/-! ### the law's own text -/
theorem addS {a b : List Nat} {h : AH} (hl : a.length + b.length ≤ 100000) : opAdd (.str (S a)) (.str (S b)) h = .ok (.str (S (a ++ b))) h := by
  simp only [opAdd, S_app]
  rw [if_pos (by rw [len_S, len_S, sizeLine_eq]; omega)]
theorem eq2S {x z : Str} {h : AH} : opEq2 (.str x) (.str z) h = .ok (.bl (decide (x = z))) h := by simp [opEq2, eqX, isBox, opEq, scalEq]
theorem sepL_step (xs : List (List Nat)) (a : List Nat) : sepL (xs ++ [a]) = if xs = [] then a else sepL xs ++ 32 :: a := by
  induction xs with
  | nil => rfl
  | cons x r ih =>
    cases r with
    | nil => rfl
    | cons y q =>
      have e : sepL ((y :: q) ++ [a]) = sepL (y :: q) ++ 32 :: a := by rw [ih]; rfl
      show x ++ 32 :: sepL ((y :: q) ++ [a]) = _
      rw [e]
      simp [sepL]
theorem text_leaf {n : Nat} {d : D} {h : AH} (w : Lf d) : ∃ h', h <+: h' ∧ f_l_text_of (n + 1) [d] h = .ok (.str (S (lt d))) h' := by
  have z : ∀ {j : Nat}, j ≤ 1000 → j ≤ sizeLine := fun q => by rw [sizeLine_eq]; omega
  have k := kb
  have dkNe : ∀ b : Bool, decide (dkw b = "row") = false ∧ decide (dkw b = "thing") = false ∧ decide (dkw b = "deed") = b := by decide +kernel
  cases w with
  | non => exact ⟨h, List.prefix_refl _, runB_ret rfl (sSeq_ret ((sIf_t (isn (d := .non) rfl .non)).trans (sRet_eq (by show Res.ok (D.str "none") h = _; rw [show ("none" : Str) = S [110, 111, 110, 101] from by decide +kernel]; rfl))))⟩
  | bl b =>
    let H : AH := h ++ [.lst [.str "no", .str "yes"]]
    have g : H[h.length]? = some (.lst [.str "no", .str "yes"]) := get_last
    refine ⟨H, List.prefix_append _ _, runB_ret rfl ((sSeq_nx ((sIf_f (isn (d := .bl b) rfl (.bl b))).trans rfl)).trans (sSeq_ret ((sIf_t (isv (d := .bl b) rfl rfl k.2.1)).trans (sRet_eq ?_))))⟩
    have i1 : cCall fIntS (aCons (cVar 0) aNil) [some (.bl b), none, none] H = .ok (.int (if b then 1 else 0)) H := (cCall_eq (aCons_eq (x := .bl b) rfl aNil_eq)).trans rfl
    refine (cBin_eq (cLst_eq (A := aCons (cC (.str ("no" : Str))) (aCons (cC (.str ("yes" : Str))) aNil)) (ds := [.str "no", .str "yes"]) rfl (z (Nat.le_of_ble_eq_true rfl))) i1).trans ?_
    simp only [opIx, seqD, g]
    cases b
    · show Res.ok (D.str "no") H = _
      rw [show ("no" : Str) = S [110, 111] from by decide +kernel]
      rfl
    · show Res.ok (D.str "yes") H = _
      rw [show ("yes" : Str) = S [121, 101, 115] from by decide +kernel]
      rfl
  | int i hi =>
    exact ⟨h, List.prefix_refl _, runB_ret rfl ((sSeq_nx ((sIf_f (isn (d := .int i) rfl (.int i))).trans rfl)).trans ((sSeq_nx ((sIf_f (isv (d := .int i) rfl rfl k.2.2.1)).trans rfl)).trans (sSeq_ret ((sIf_t (isv (d := .int i) rfl rfl k.2.2.2.2.2.1)).trans (sRet_eq (strI_ev hi rfl))))))⟩
  | str l h1 h2 =>
    have f : Fair h (.str (S l)) := Asc.fair (asc_S h1 (Lf.asc h2)) (by omega)
    refine ⟨h, List.prefix_refl _, runB_ret rfl ((sSeq_nx ((sIf_f (isn (d := .str (S l)) rfl f)).trans rfl)).trans ((sSeq_nx ((sIf_f (isv (d := .str (S l)) rfl rfl k.2.2.2.1)).trans rfl)).trans ((sSeq_nx ((sIf_f (isv (d := .str (S l)) rfl rfl k.2.2.2.2.2.2.1)).trans rfl)).trans (sSeq_ret ((sIf_t (isv (d := .str (S l)) rfl rfl k.2.2.2.2.2.2.2.2.1)).trans (sRet_eq ?_))))))⟩
    rw [qs]
    exact (cBin_eq ((cBin_eq rfl rfl).trans (addS (a := [39]) (b := l) (by simp; omega))) rfl).trans (addS (a := 39 :: l) (b := [39]) (by simp; omega))
  | thing i hi =>
    let W : D := .tup [.str "thing", .int i]
    have f := (Lf.thing i hi).fair (h := h)
    have ix0 : ∀ {q : Option D} {p : Option D}, cBin opIx (cVar 0) (cC (.int 0)) [some W, q, p] h = .ok (.str "thing") h := fun {q p} => (cBin_eq rfl rfl).trans rfl
    have t1 : tVal (cBin opEq2 (cBin opIx (cVar 0) (cC (.int 0))) (cC (.str ("row" : Str)))) [some W, none, none] h = .ok false h := tVal_eq ((cBin_eq ix0 rfl).trans rfl)
    have t2 : tVal (cBin opEq2 (cBin opIx (cVar 0) (cC (.int 0))) (cC (.str ("thing" : Str)))) [some W, none, none] h = .ok true h := tVal_eq ((cBin_eq ix0 rfl).trans rfl)
    have ix1 : cBin opIx (cVar 0) (cC (.int 1)) [some W, none, none] h = .ok (.int i) h := (cBin_eq rfl rfl).trans rfl
    have li := it_len (z := (i : Int)) (by omega)
    have fin : cBin opAdd (cC (.str ("#" : Str))) (cCall fStrI (aCons (cBin opIx (cVar 0) (cC (.int 1))) aNil)) [some W, none, none] h = .ok (.str (S (35 :: it i))) h := by
      rw [show ("#" : Str) = S [35] from by decide +kernel]
      exact (cBin_eq rfl (strI_ev (by omega) (aCons_eq ix1 aNil_eq))).trans (addS (a := [35]) (by simp; omega))
    refine ⟨h, List.prefix_refl _, runB_ret rfl ((sSeq_nx ((sIf_f (isn (d := W) rfl f)).trans rfl)).trans ((sSeq_nx ((sIf_f (isv (d := W) rfl rfl k.2.2.2.2.1)).trans rfl)).trans ((sSeq_nx ((sIf_f (isv (d := W) rfl rfl k.2.2.2.2.2.2.2.1)).trans rfl)).trans ((sSeq_nx ((sIf_f (isv (d := W) rfl rfl k.2.2.2.2.2.2.2.2.2)).trans rfl)).trans ((sSeq_nx ((sIf_f t1).trans rfl)).trans (sRet_eq ?_))))))⟩
    exact (cIf_eq t2).trans fin
  | dk b m q hm hn =>
    let W : D := .tup [.str (dkw b), .str (S m), .str (S q)]
    have f := (Lf.dk b m q hm hn).fair (h := h)
    have ix0 : ∀ {hh : AH}, cBin opIx (cVar 0) (cC (.int 0)) [some W, none, none] hh = .ok (.str (dkw b)) hh := fun {hh} => (cBin_eq rfl rfl).trans rfl
    have t1 : tVal (cBin opEq2 (cBin opIx (cVar 0) (cC (.int 0))) (cC (.str ("row" : Str)))) [some W, none, none] h = .ok false h := by
      refine tVal_eq ((cBin_eq ix0 rfl).trans (eq2S.trans ?_))
      rw [(dkNe b).1]
    have t2 : tVal (cBin opEq2 (cBin opIx (cVar 0) (cC (.int 0))) (cC (.str ("thing" : Str)))) [some W, none, none] h = .ok false h := by
      refine tVal_eq ((cBin_eq ix0 rfl).trans (eq2S.trans ?_))
      rw [(dkNe b).2.1]
    let H : AH := h ++ [.dic [(.inr "deed", .str "."), (.inr "kind", .str ":")]]
    have g : H[h.length]? = some (.dic [(.inr "deed", .str "."), (.inr "kind", .str ":")]) := get_last
    have dd : cD2 ("deed" : Str) ("kind" : Str) (cC (.str ("." : Str))) (cC (.str (":" : Str))) [some W, none, none] h = .ok (.ref h.length) H := by
      have g0 : (h ++ [O.dic []])[h.length]? = some (.dic []) := get_last
      unfold cD2
      simp only [cC, Res.bind_ok, g0]
      rw [List.set_append_right (h := Nat.le_refl _), Nat.sub_self]
      rfl
    have e46 : valD [(.inr "deed", D.str "."), (.inr "kind", .str ":")] (.inr (dkw b)) = some (.str (S [if b = true then 46 else 58])) := by
      have : (if b = true then ("." : Str) else (":" : Str)) = S [if b = true then 46 else 58] := by cases b <;> decide +kernel
      rw [← this]
      cases b
      · rfl
      · rfl
    have sg : cBin opIxD (cD2 ("deed" : Str) ("kind" : Str) (cC (.str ("." : Str))) (cC (.str (":" : Str)))) (cBin opIx (cVar 0) (cC (.int 0))) [some W, none, none] h = .ok (.str (S [if b = true then 46 else 58])) H := by
      refine (cBin_eq dd ix0).trans ?_
      simp only [opIxD, g, e46]
    have ix1 : cBin opIx (cVar 0) (cC (.int 1)) [some W, none, none] h = .ok (.str (S m)) h := (cBin_eq rfl rfl).trans rfl
    have ix2 : cBin opIx (cVar 0) (cC (.int 2)) [some W, none, none] H = .ok (.str (S q)) H := (cBin_eq rfl rfl).trans rfl
    have l1 := hm.2.1
    have l2 := hn.2.1
    have fin : cBin opAdd (cBin opAdd (cBin opIx (cVar 0) (cC (.int 1))) (cBin opIxD (cD2 ("deed" : Str) ("kind" : Str) (cC (.str ("." : Str))) (cC (.str (":" : Str)))) (cBin opIx (cVar 0) (cC (.int 0))))) (cBin opIx (cVar 0) (cC (.int 2))) [some W, none, none] h = .ok (.str (S (m ++ (if b = true then 46 else 58) :: q))) H := by
      refine (cBin_eq ((cBin_eq ix1 sg).trans (addS (by simp; omega))) ix2).trans ((addS (by simp; omega)).trans ?_)
      simp
    have lw : lt W = m ++ (if b = true then 46 else 58) :: q := by
      show m ++ (if dkw b = "deed" then 46 else 58) :: q = _
      have : (if dkw b = "deed" then 46 else 58) = (if b = true then 46 else 58) := by cases b <;> decide +kernel
      rw [this]
    refine ⟨H, List.prefix_append _ _, runB_ret rfl ((sSeq_nx ((sIf_f (isn (d := W) rfl f)).trans rfl)).trans ((sSeq_nx ((sIf_f (isv (d := W) rfl rfl k.2.2.2.2.1)).trans rfl)).trans ((sSeq_nx ((sIf_f (isv (d := W) rfl rfl k.2.2.2.2.2.2.2.1)).trans rfl)).trans ((sSeq_nx ((sIf_f (isv (d := W) rfl rfl k.2.2.2.2.2.2.2.2.2)).trans rfl)).trans ((sSeq_nx ((sIf_f t1).trans rfl)).trans (sRet_eq ?_))))))⟩
    refine (cIf_eq t2).trans ?_
    rw [if_neg Bool.false_ne_true]
    show _ = Res.ok (D.str (S (lt W))) H
    rw [lw]
    exact fin
theorem text_ok {n : Nat} {d : D} (w : V n d) : ∀ {h : AH} {m : Nat}, n < m → cn n d ≤ 1000 → ∃ h', h <+: h' ∧ f_l_text_of m [d] h = .ok (.str (S (tx n d))) h' := by
  induction w with
  | leaf hl =>
    intro h m hm _
    obtain ⟨m, rfl⟩ : ∃ g, m = g + 1 := ⟨m - 1, by omega⟩
    rw [tx_leaf hl]
    exact text_leaf hl
  | row h1 h2 ih =>
    rename_i n ds
    intro h m hm hc
    obtain ⟨m, rfl⟩ : ∃ g, m = g + 1 := ⟨m - 1, by omega⟩
    have k := kb
    have f := (V.row h1 h2).fair (h := h)
    have cs : ∀ d ∈ ds, cn n d ≤ 1000 := fun d hd => by
      have := cn_le (n := n) hd
      rw [cn_row] at hc
      omega
    let W : D := rowT ds
    have ix0 : cBin opIx (cVar 0) (cC (.int 0)) [some W, none, none] h = .ok (.str "row") h := (cBin_eq rfl rfl).trans rfl
    have t1 : tVal (cBin opEq2 (cBin opIx (cVar 0) (cC (.int 0))) (cC (.str ("row" : Str)))) [some W, none, none] h = .ok true h := tVal_eq ((cBin_eq ix0 rfl).trans rfl)
    have s1 : sSet 1 (cC (.str ("" : Str))) [some W, none, none] h = .nx [some W, some (.str (S [])), none] h := by
      rw [show ("" : Str) = S [] from by decide +kernel]
      exact sSet_eq rfl
    have i1 : iAny (cBin opIx (cVar 0) (cC (.int 1))) [some W, some (.str (S [])), none] h = .ok (.fix ds) h := rfl
    let acc : Nat → List Nat := fun i => ((ds.take i).map fun d => 32 :: tx n d).flatten
    have al : ∀ i, (acc i).length ≤ 30 * (ds.map (cn n)).sum := fun i => by
      have e1 : (acc i).length = ((ds.take i).map fun d => (tx n d).length + 1).sum := by
        show (((ds.take i).map fun d => 32 :: tx n d).flatten).length = _
        rw [List.length_flatten, List.map_map]
        rfl
      have e2 : ((ds.take i).map fun d => (tx n d).length + 1).sum ≤ ((ds.take i).map fun d => 30 * cn n d).sum := sumle fun d hd => tx_len (h2 d (List.mem_of_mem_take hd))
      have e3 : ((ds.take i).map (cn n)).sum ≤ (ds.map (cn n)).sum := by
        rw [← List.take_append_drop i ds, List.map_append, List.sum_append, List.take_append_drop]
        omega
      rw [sum_mul] at e2
      rw [e1]
      omega
    have hc' := hc
    rw [cn_row] at hc'
    obtain ⟨ε', h3, loop, p3, x2, rfl⟩ := sFor_inv (g := gN 2) (B := sSet 1 (cBin opAdd (cBin opAdd (cVar 1) (cC (.str (" " : Str)))) (cFn (f_l_text_of m) (aCons (cVar 2) aNil)))) i1
      (fun i ε h' => h <+: h' ∧ ∃ x2, ε = [some W, some (.str (S (acc i))), x2]) ds.length rfl ⟨List.prefix_refl _, none, rfl⟩
      (by
        rintro i ε h' hi ⟨p, x2, rfl⟩
        have hm' : ds[i] ∈ ds := List.getElem_mem hi
        obtain ⟨h4, p4, e4⟩ := ih ds[i] hm' (h := h') (m := m) (by omega) (cs _ hm')
        have li := al i
        have tk : acc (i + 1) = acc i ++ 32 :: tx n ds[i] := by
          show ((ds.take (i + 1)).map fun d => 32 :: tx n d).flatten = ((ds.take i).map fun d => 32 :: tx n d).flatten ++ 32 :: tx n ds[i]
          rw [List.take_succ, List.getElem?_eq_getElem hi, List.map_append, List.flatten_append]
          congr 1
          exact List.append_nil _
        have lx := tx_len (h2 _ hm')
        have cl := cs _ hm'
        refine ⟨ds[i], [some W, some (.str (S (acc i))), some ds[i]], [some W, some (.str (S (acc (i + 1)))), some ds[i]], h4, by simp [AIt.item, hi], rfl, .inl (sSet_eq (i := 1) ?_), p.trans p4, some ds[i], rfl⟩
        have a1 : cBin opAdd (cVar 1) (cC (.str (" " : Str))) [some W, some (.str (S (acc i))), some ds[i]] h' = .ok (.str (S (acc i ++ [32]))) h' := by
          rw [show (" " : Str) = S [32] from by decide +kernel]
          exact (cBin_eq rfl rfl).trans (addS (by simp; omega))
        refine (cBin_eq a1 ((cFn_eq (A := aCons (cVar 2) aNil) rfl).trans e4)).trans ((addS (by simp; omega)).trans ?_)
        rw [tk]
        simp)
      (by rintro ε h' _; rfl)
    have af : acc ds.length = (ds.map fun d => 32 :: tx n d).flatten := by
      show ((ds.take ds.length).map _).flatten = _
      rw [List.take_length]
    have cut : ∀ xs : List D, (((xs.map fun d => 32 :: tx n d).flatten).drop 1) = sepL (xs.map (tx n)) := fun xs => by
      cases xs with
      | nil => rfl
      | cons a r =>
        have : ∀ (r : List D) (a : List Nat), a ++ (r.map fun d => 32 :: tx n d).flatten = sepL (a :: r.map (tx n)) := fun r => by
          induction r with
          | nil => intro a; simp [sepL]
          | cons b q ih => intro a; simp only [List.map_cons, List.flatten_cons, sepL, List.cons_append]; rw [ih]
        simpa using this r (tx n a)
    have la := al ds.length
    have ct : cCut (cVar 1) (oSome (cC (.int 1))) oNone [some W, some (.str (S (acc ds.length))), x2] h3 = .ok (.str (S (sepL (ds.map (tx n))))) h3 := by
      refine (cCut_eq (h1 := h3) (h2 := h3) (h3 := h3) (d := .str (S (acc ds.length))) (l := some ((1 : Nat) : Int)) (u := none) rfl rfl rfl).trans ?_
      simp only [Mi.cutD, len_S]
      rw [if_pos (by rw [sizeLine_eq]; omega), cut_from, ← cut ds, ← af]
      congr 3
      by_cases h0 : (acc ds.length).length = 0
      · have : acc ds.length = [] := List.length_eq_zero_iff.mp h0
        rw [this]; rfl
      · rw [Nat.min_eq_left (by omega)]
        exact List.take_of_length_le (by rw [List.length_drop]; omega)
    have lx := tx_len (V.row h1 h2)
    rw [tx_row] at lx
    simp only [List.length_cons, List.length_append, List.length_nil] at lx
    have fin : cBin opAdd (cBin opAdd (cC (.str ("[" : Str))) (cCut (cVar 1) (oSome (cC (.int 1))) oNone)) (cC (.str ("]" : Str))) [some W, some (.str (S (acc ds.length))), x2] h3 = .ok (.str (S (tx (n + 1) (rowT ds)))) h3 := by
      rw [br.2.1, br.2.2.2]
      exact (cBin_eq ((cBin_eq rfl ct).trans (addS (a := [91]) (by simp; omega))) rfl).trans (addS (a := 91 :: sepL (ds.map (tx n))) (b := [93]) (by simp; omega))
    exact ⟨h3, p3, runB_ret rfl ((sSeq_nx ((sIf_f (isn (d := W) rfl f)).trans rfl)).trans ((sSeq_nx ((sIf_f (isv (d := W) rfl rfl k.2.2.2.2.1)).trans rfl)).trans ((sSeq_nx ((sIf_f (isv (d := W) rfl rfl k.2.2.2.2.2.2.2.1)).trans rfl)).trans ((sSeq_nx ((sIf_f (isv (d := W) rfl rfl k.2.2.2.2.2.2.2.2.2)).trans rfl)).trans (sSeq_ret ((sIf_t t1).trans ((sSeq_nx s1).trans ((sSeq_nx loop).trans (sRet_eq fin)))))))))⟩
end K04

namespace K04
open Mi L2 PySem PySem.Spec PyProof.Rows
/-! ### what is read -/
theorem dg_len {k : Nat} (hk : k ≤ 10 ^ 15) : (dg k).length ≤ 16 := by
  unfold dg
  rw [List.length_map]
  exact (Nat.length_toDigits_le_iff (by omega) (by omega)).mpr (by omega)
theorem whole_num {z : Int} {h : AH} (hz : z.natAbs ≤ 10 ^ 15) : f_whole_of [.str (S (it z))] h = .ok (.int z) h := by
  have l17 := it_len hz
  obtain ⟨ds, e1, e2, e3, e4⟩ : ∃ ds : List Nat, Txt.removeprefix (S (it z)) (S [45]) = S ds ∧ (∀ c ∈ ds, 48 ≤ c ∧ c ≤ 57) ∧ ds ≠ [] ∧ ds.length ≤ 16 := by
    cases z with
    | ofNat k =>
      refine ⟨dg k, rmpre_no ?_, fun c hc => digit_of hc, dg_ne k, dg_len hz⟩
      intro e
      have : 45 ∈ dg k := List.mem_of_head? e
      have := digit_of this
      omega
    | negSucc k => exact ⟨dg (k + 1), rmpre_yes _ _, fun c hc => digit_of hc, dg_ne _, dg_len hz⟩
  have e45 : ("-" : Str) = S [45] := by decide +kernel
  have q1 : sSet 1 (cMeth "str" mRemovepre (cVar 0) (aCons (cC (.str ("-" : Str))) aNil)) [some (.str (S (it z))), none] h = .nx [some (.str (S (it z))), some (.str (S ds))] h := by
    refine sSet_eq (i := 1) ((cMeth_eq (h1 := h) (h2 := h) (d := .str (S (it z))) (ds := [.str "-"]) rfl rfl rfl).trans ?_)
    simp only [mRemovepre]
    rw [if_pos (by rw [len_S, sizeLine_eq]; omega), e45, e1]
  have a1 : tVal (cMeth "str" mIsascii (cVar 1) aNil) [some (.str (S (it z))), some (.str (S ds))] h = .ok true h := by
    refine tVal_eq ((cMeth_eq (h1 := h) (h2 := h) (d := .str (S ds)) (ds := []) rfl rfl rfl).trans ?_)
    simp only [mIsascii, ascii_S fun c hc => Nat.lt_of_le_of_lt (e2 c hc).2 (by decide)]
  have a2 : tVal (cMeth "str" mIsdigit (cVar 1) aNil) [some (.str (S (it z))), some (.str (S ds))] h = .ok true h := by
    refine tVal_eq ((cMeth_eq (h1 := h) (h2 := h) (d := .str (S ds)) (ds := []) rfl rfl rfl).trans ?_)
    simp only [mIsdigit, isdigit_S e2 e3]
  have a3 : tVal (cBin opGt (cCall fLen (aCons (cVar 1) aNil)) (cC (.int 16))) [some (.str (S (it z))), some (.str (S ds))] h = .ok false h := by
    have l := len_strE (ε := [some (.str (S (it z))), some (.str (S ds))]) (h := h) (h1 := h) (F := cVar 1) (x := S ds) rfl (by rw [len_S]; omega)
    refine tVal_eq ((cBin_eq l rfl).trans ?_)
    show Res.ok (D.bl (decide (((S ds).length : Int) > 16))) h = _
    rw [len_S, decide_eq_false (by omega)]
  have t : (tOr' (tNot' (tVal (cMeth "str" mIsascii (cVar 1) aNil))) (tOr' (tNot' (tVal (cMeth "str" mIsdigit (cVar 1) aNil))) (tVal (cBin opGt (cCall fLen (aCons (cVar 1) aNil)) (cC (.int 16)))))) [some (.str (S (it z))), some (.str (S ds))] h = .ok false h :=
    (tOr_f (tNot_eq a1)).trans ((tOr_f (tNot_eq a2)).trans a3)
  have i1 : cCall fIntS (aCons (cVar 0) aNil) [some (.str (S (it z))), some (.str (S ds))] h = .ok (.int z) h := by
    refine (cCall_eq (aCons_eq (x := .str (S (it z))) rfl aNil_eq)).trans ?_
    simp only [fIntS, num_back hz]
    rw [if_pos (by rw [len_S]; omega)]
  exact runB_ret rfl ((sSeq_nx q1).trans ((sSeq_nx ((sIf_f t).trans rfl)).trans (sRet_eq i1)))
theorem tab_w {l : List Nat} : tabAt tab_WORDS (S l) = if l = [110, 111, 110, 101] then some .non else if l = [121, 101, 115] then some (.bl true) else if l = [110, 111] then some (.bl false) else none := by
  have e : ∀ (z : Str) (m : List Nat), z = S m → (z == S l) = decide (l = m) := fun z m hz => by
    rw [hz, Bool.eq_iff_iff, beq_iff_eq, decide_eq_true_eq]
    exact ⟨fun h => by have := congrArg (fun x : Str => x.cps.toList) h; simpa using this.symm, fun h => by rw [h]⟩
  have e1 := e "none" [110, 111, 110, 101] (by decide +kernel)
  have e2 := e "yes" [121, 101, 115] (by decide +kernel)
  have e3 := e "no" [110, 111] (by decide +kernel)
  unfold tabAt tab_WORDS
  simp only [List.find?_cons, e1, e2, e3, List.find?_nil]
  by_cases c1 : l = [110, 111, 110, 101]
  · simp [c1]
  · by_cases c2 : l = [121, 101, 115]
    · simp [c2]
    · by_cases c3 : l = [110, 111] <;> simp [c1, c2, c3]
abbrev E6 (l : List Nat) (a b c d e : Option D) : AEnv := [some (.str (S l)), a, b, c, d, e]
def lpB : SF := (sSeq (sAsg (cMeth "str" mPart (cVar 0) (aCons (cVar 2) aNil)) (gT 3 (gCons' (gN 3) (gCons' (gN 4) (gCons' (gN 5) gNil')))))
    (sIf (tTru (cVar 4))
      (sRet (cTup (aCons (cVar 1) (aCons (cVar 3) (aCons (cVar 5) aNil)))))
      sPass))
theorem lp_hit {p q : List Nat} {c : Nat} {w : Str} {x3 x4 x5 : Option D} {h : AH} (hc : c ∉ p) (hl : p.length + q.length ≤ 1000) : lpB (E6 (p ++ c :: q) (some (.str w)) (some (.str (S [c]))) x3 x4 x5) h = .ret (.tup [.str w, .str (S p), .str (S q)]) h := by
  have pt := SX.partition_some (List.cons_ne_nil c []) (SX.par_head (sep := []) q hc)
  have e : p ++ (c :: [] ++ q) = p ++ c :: q := rfl
  rw [e] at pt
  have q1 : sAsg (cMeth "str" mPart (cVar 0) (aCons (cVar 2) aNil)) (gT 3 (gCons' (gN 3) (gCons' (gN 4) (gCons' (gN 5) gNil')))) (E6 (p ++ c :: q) (some (.str w)) (some (.str (S [c]))) x3 x4 x5) h = .nx (E6 (p ++ c :: q) (some (.str w)) (some (.str (S [c]))) (some (.str (S p))) (some (.str (S [c]))) (some (.str (S q)))) h := by
    have m : cMeth "str" mPart (cVar 0) (aCons (cVar 2) aNil) (E6 (p ++ c :: q) (some (.str w)) (some (.str (S [c]))) x3 x4 x5) h = .ok (.tup [.str (S p), .str (S [c]), .str (S q)]) h := by
      refine (cMeth_eq (h1 := h) (h2 := h) (d := .str (S (p ++ c :: q))) (ds := [.str (S [c])]) rfl rfl rfl).trans ?_
      simp only [mPart]
      rw [if_pos ⟨by rw [len_S]; rfl, by rw [len_S, sizeLine_eq]; simp; omega⟩, pt]
    unfold sAsg
    rw [m, Res.st_ok]
    rfl
  have t : tTru (cVar 4) (E6 (p ++ c :: q) (some (.str w)) (some (.str (S [c]))) (some (.str (S p))) (some (.str (S [c]))) (some (.str (S q)))) h = .ok true h := rfl
  exact (sSeq_nx q1).trans ((sIf_t t).trans (sRet_eq (cTup_eq rfl (by rw [sizeLine_eq]; exact Nat.le_of_ble_eq_true rfl))))
theorem lp_miss {l : List Nat} {c : Nat} {w : Str} {x3 x4 x5 : Option D} {h : AH} (hc : c ∉ l) (hl : l.length ≤ 1000) : lpB (E6 l (some (.str w)) (some (.str (S [c]))) x3 x4 x5) h = .nx (E6 l (some (.str w)) (some (.str (S [c]))) (some (.str (S l))) (some (.str (S []))) (some (.str (S [])))) h := by
  have pt := SX.partition_none (List.cons_ne_nil c []) (SX.par_head_none (sep := []) hc)
  have q1 : sAsg (cMeth "str" mPart (cVar 0) (aCons (cVar 2) aNil)) (gT 3 (gCons' (gN 3) (gCons' (gN 4) (gCons' (gN 5) gNil')))) (E6 l (some (.str w)) (some (.str (S [c]))) x3 x4 x5) h = .nx (E6 l (some (.str w)) (some (.str (S [c]))) (some (.str (S l))) (some (.str (S []))) (some (.str (S [])))) h := by
    have m : cMeth "str" mPart (cVar 0) (aCons (cVar 2) aNil) (E6 l (some (.str w)) (some (.str (S [c]))) x3 x4 x5) h = .ok (.tup [.str (S l), .str (S []), .str (S [])]) h := by
      refine (cMeth_eq (h1 := h) (h2 := h) (d := .str (S l)) (ds := [.str (S [c])]) rfl rfl rfl).trans ?_
      simp only [mPart]
      rw [if_pos ⟨by rw [len_S]; rfl, by rw [len_S, sizeLine_eq]; omega⟩, pt]
    unfold sAsg
    rw [m, Res.st_ok]
    rfl
  have t : tTru (cVar 4) (E6 l (some (.str w)) (some (.str (S [c]))) (some (.str (S l))) (some (.str (S []))) (some (.str (S [])))) h = .ok false h := rfl
  exact (sSeq_nx q1).trans ((sIf_f t).trans rfl)
theorem forGo_nx {it : AIt} {g : TF'} {B : SF} {m i : Nat} {ε ε1 ε2 : AEnv} {h h2 : AH} {d : D} (e1 : it.item i h = some d) (e2 : g d ε h = some ε1) (e3 : B ε1 h = .nx ε2 h2) : forGo it g B (m + 1) i ε h = forGo it g B m (i + 1) ε2 h2 := by simp only [forGo, e1, e2, e3]
theorem forGo_ret {it : AIt} {g : TF'} {B : SF} {m i : Nat} {ε ε1 : AEnv} {h h2 : AH} {d x : D} (e1 : it.item i h = some d) (e2 : g d ε h = some ε1) (e3 : B ε1 h = .ret x h2) : forGo it g B (m + 1) i ε h = .ret x h2 := by simp only [forGo, e1, e2, e3]
def lpI : IF := iAny (cTup (aCons (cTup (aCons (cC (.str ("deed" : Str))) (aCons (cC (.str ("." : Str))) aNil))) (aCons (cTup (aCons (cC (.str ("kind" : Str))) (aCons (cC (.str (":" : Str))) aNil))) aNil)))
def lpG : TF' := gT 2 (gCons' (gN 1) (gCons' (gN 2) gNil'))
theorem lpI_ok {ε : AEnv} {h : AH} : lpI ε h = .ok (.fix [.tup [.str "deed", .str (S [46])], .tup [.str "kind", .str (S [58])]]) h := by
  have z : ∀ {j : Nat}, j ≤ 1000 → j ≤ sizeLine := fun q => by rw [sizeLine_eq]; omega
  have e : cTup (aCons (cTup (aCons (cC (.str ("deed" : Str))) (aCons (cC (.str ("." : Str))) aNil))) (aCons (cTup (aCons (cC (.str ("kind" : Str))) (aCons (cC (.str (":" : Str))) aNil))) aNil)) ε h = .ok (.tup [.tup [.str "deed", .str (S [46])], .tup [.str "kind", .str (S [58])]]) h := by
    rw [← show ("." : Str) = S [46] from by decide +kernel, ← show (":" : Str) = S [58] from by decide +kernel]
    exact cTup_eq (aCons_eq (cTup_eq rfl (z (Nat.le_of_ble_eq_true rfl))) (aCons_eq (cTup_eq rfl (z (Nat.le_of_ble_eq_true rfl))) aNil_eq)) (z (Nat.le_of_ble_eq_true rfl))
  unfold lpI iAny
  rw [e, Res.bind_ok]
  rfl
theorem lp_none {l : List Nat} {h : AH} (h1 : 46 ∉ l) (h2 : 58 ∉ l) (hl : l.length ≤ 1000) : ∃ a b c d e, sFor lpI lpG lpB (E6 l none none none none none) h = .nx (E6 l a b c d e) h := by
  refine ⟨some (.str "kind"), some (.str (S [58])), some (.str (S l)), some (.str (S [])), some (.str (S [])), ?_⟩
  have m1 := lp_miss (l := l) (c := 46) (w := "deed") (x3 := none) (x4 := none) (x5 := none) (h := h) h1 hl
  have m2 := lp_miss (l := l) (c := 58) (w := "kind") (x3 := some (.str (S l))) (x4 := some (.str (S []))) (x5 := some (.str (S []))) (h := h) h2 hl
  unfold sFor
  rw [lpI_ok, Res.st_ok]
  show forGo _ lpG lpB 2 0 _ h = _
  refine (forGo_nx (m := 1) (d := .tup [.str "deed", .str (S [46])]) rfl rfl m1).trans ((forGo_nx (m := 0) (d := .tup [.str "kind", .str (S [58])]) rfl rfl m2).trans rfl)
theorem lp_dk {b : Bool} {p q : List Nat} {h : AH} (hp : nm p) (hq : nm q) : sFor lpI lpG lpB (E6 (p ++ (if b = true then 46 else 58) :: q) none none none none none) h = .ret (.tup [.str (dkw b), .str (S p), .str (S q)]) h := by
  have l1 := hp.2.1
  have l2 := hq.2.1
  have no : ∀ (l : List Nat) (c : Nat), nm l → c < 97 → c ∉ l := fun l c hn hc hm => by have := (hn.2.2 c hm).1; omega
  unfold sFor
  rw [lpI_ok, Res.st_ok]
  show forGo _ lpG lpB 2 0 _ h = _
  cases b
  · have n46 : 46 ∉ p ++ (if false = true then 46 else 58) :: q := by
      intro hm
      rcases List.mem_append.mp hm with hm | hm
      · exact no p 46 hp (by decide) hm
      · rcases List.mem_cons.mp hm with e | hm
        · cases e
        · exact no q 46 hq (by decide) hm
    have m1 := lp_miss (l := p ++ (if false = true then 46 else 58) :: q) (c := 46) (w := "deed") (x3 := none) (x4 := none) (x5 := none) (h := h) n46 (by simp; omega)
    have m2 := lp_hit (p := p) (q := q) (c := 58) (w := "kind") (x3 := some (.str (S (p ++ 58 :: q)))) (x4 := some (.str (S []))) (x5 := some (.str (S []))) (h := h) (no p 58 hp (by decide)) (by omega)
    rw [show (if false = true then 46 else 58) = 58 from rfl] at m1 ⊢
    exact (forGo_nx (m := 1) (d := .tup [.str "deed", .str (S [46])]) rfl rfl m1).trans ((forGo_ret (m := 0) (d := .tup [.str "kind", .str (S [58])]) rfl rfl m2).trans rfl)
  · have m2 := lp_hit (p := p) (q := q) (c := 46) (w := "deed") (x3 := none) (x4 := none) (x5 := none) (h := h) (no p 46 hp (by decide)) (by omega)
    rw [show (if true = true then 46 else 58) = 46 from rfl]
    exact (forGo_ret (m := 1) (d := .tup [.str "deed", .str (S [46])]) rfl rfl m2).trans rfl
theorem single_of_ok {V' : FV} {d : D} {h : AH} (w : Lf d) : f_single_of V' [.str (S (lt d))] h = .ok d h := by
  have z : ∀ {j : Nat}, j ≤ 1000 → j ≤ sizeLine := fun q => by rw [sizeLine_eq]; omega
  have e39 : ("'" : Str) = S [39] := qs
  have e35 : ("#" : Str) = S [35] := by decide +kernel
  have inW : ∀ {l : List Nat}, tVal (cBin (opInTab V'.d_WORDS tab_WORDS) (cVar 0) (cC (.own V'.d_WORDS))) (E6 l none none none none none) h = .ok (tabAt tab_WORDS (S l)).isSome h := fun {l} => by
    refine tVal_eq ((cBin_eq rfl rfl).trans ?_)
    simp only [opInTab, if_true]
  have ixW : ∀ {l : List Nat} {d : D}, tabAt tab_WORDS (S l) = some d → cBin (opIxTab V'.d_WORDS tab_WORDS) (cC (.own V'.d_WORDS)) (cVar 0) (E6 l none none none none none) h = .ok d h := fun {l d} e => by
    refine (cBin_eq rfl rfl).trans ?_
    simp only [opIxTab, if_true, e]
  have word : ∀ {l : List Nat} {d : D}, tabAt tab_WORDS (S l) = some d → f_single_of V' [.str (S l)] h = .ok d h := fun {l d} e => by
    have t := inW (l := l)
    rw [e] at t
    exact runB_ret rfl (sSeq_ret ((sIf_t t).trans (sRet_eq (ixW e))))
  have st : ∀ {l : List Nat} {c : Nat} {y : Str}, y = S [c] → tVal (cMeth "str" mStarts (cVar 0) (aCons (cC (.str y)) aNil)) (E6 l none none none none none) h = .ok (decide (l.head? = some c)) h := fun {l c y} e => by
    subst e
    refine tVal_eq ((cMeth_eq (h1 := h) (h2 := h) (d := .str (S l)) (ds := [.str (S [c])]) rfl rfl rfl).trans ?_)
    simp only [mStarts, starts_one]
  cases w with
  | non => exact word (by rw [show lt D.non = [110, 111, 110, 101] from rfl, tab_w]; rfl)
  | bl b =>
    cases b
    · exact word (by rw [show lt (D.bl false) = [110, 111] from rfl, tab_w]; rfl)
    · exact word (by rw [show lt (D.bl true) = [121, 101, 115] from rfl, tab_w]; rfl)
  | str l h1 h2 =>
    have hd : lt (.str (S l)) = 39 :: (l ++ [39]) := rfl
    have t1 := inW (l := 39 :: (l ++ [39]))
    rw [tab_w, if_neg (by intro e; cases e), if_neg (by intro e; cases e), if_neg (by intro e; cases e)] at t1
    have t2 := st (l := 39 :: (l ++ [39])) e39
    rw [decide_eq_true (show (39 :: (l ++ [39])).head? = some 39 from rfl)] at t2
    have ct : cCut (cVar 0) (oSome (cC (.int 1))) (oSome (cNeg (cC (.int 1)))) (E6 (39 :: (l ++ [39])) none none none none none) h = .ok (.str (S l)) h := by
      refine (cCut_eq (h1 := h) (h2 := h) (h3 := h) (d := .str (S (39 :: (l ++ [39])))) (l := some ((1 : Nat) : Int)) (u := some (-1)) rfl rfl rfl).trans ?_
      simp only [Mi.cutD, len_S]
      rw [if_pos (by rw [sizeLine_eq]; simp; omega), cut_neg1]
      simp only [List.length_cons, List.length_append, List.length_nil]
      rw [Nat.min_eq_left (by omega)]
      congr 3
      show (l ++ [39]).take _ = l
      rw [show l.length + (0 + 1) + 1 - 1 - 1 = l.length by omega, List.take_left]
    rw [hd]
    exact runB_ret rfl ((sSeq_nx ((sIf_f t1).trans rfl)).trans (sSeq_ret ((sIf_t t2).trans (sRet_eq ct))))
  | thing k hk =>
    have hd : lt (.tup [.str "thing", .int k]) = 35 :: it k := rfl
    have li := it_len (z := (k : Int)) (by omega)
    have t1 := inW (l := 35 :: it k)
    rw [tab_w, if_neg (by intro e; cases e), if_neg (by intro e; cases e), if_neg (by intro e; cases e)] at t1
    have t2 := st (l := 35 :: it k) e39
    rw [decide_eq_false (by intro e; cases e)] at t2
    have t3 := st (l := 35 :: it k) e35
    rw [decide_eq_true (show (35 :: it k).head? = some 35 from rfl)] at t3
    have ct : cCut (cVar 0) (oSome (cC (.int 1))) oNone (E6 (35 :: it k) none none none none none) h = .ok (.str (S (it k))) h := by
      refine (cCut_eq (h1 := h) (h2 := h) (h3 := h) (d := .str (S (35 :: it k))) (l := some ((1 : Nat) : Int)) (u := none) rfl rfl rfl).trans ?_
      simp only [Mi.cutD, len_S]
      rw [if_pos (by rw [sizeLine_eq]; simp; omega), cut_from]
      simp only [List.length_cons]
      rw [Nat.min_eq_left (by omega)]
      congr 3
      exact List.take_of_length_le (by simp)
    rw [hd]
    refine runB_ret rfl ((sSeq_nx ((sIf_f t1).trans rfl)).trans ((sSeq_nx ((sIf_f t2).trans rfl)).trans (sSeq_ret ((sIf_t t3).trans (sRet_eq ?_)))))
    exact cTup_eq (aCons_eq rfl (aCons_eq ((cFn_eq (aCons_eq ct aNil_eq)).trans (whole_num (by omega))) aNil_eq)) (z (Nat.le_of_ble_eq_true rfl))
  | int i hi =>
    have hd : lt (.int i) = it i := rfl
    have li := it_len hi
    have dig : ∀ c ∈ it i, c = 45 ∨ (48 ≤ c ∧ c ≤ 57) := fun c hc => by
      cases i with
      | ofNat k => exact .inr (digit_of hc)
      | negSucc k =>
        rcases List.mem_cons.mp hc with rfl | hc
        · exact .inl rfl
        · exact .inr (digit_of hc)
    have hne : ∀ c, c ≠ 45 → ¬ (48 ≤ c ∧ c ≤ 57) → (it i).head? ≠ some c := fun c h1 h2 e => by
      rcases dig c (List.mem_of_head? e) with h | h
      · exact h1 h
      · exact h2 h
    have t1 := inW (l := it i)
    rw [tab_w, if_neg (by intro e; exact hne 110 (by decide) (by decide) (by rw [e]; rfl)), if_neg (by intro e; exact hne 121 (by decide) (by decide) (by rw [e]; rfl)), if_neg (by intro e; exact hne 110 (by decide) (by decide) (by rw [e]; rfl))] at t1
    have t2 := st (l := it i) e39
    rw [decide_eq_false (hne 39 (by decide) (by decide))] at t2
    have t3 := st (l := it i) e35
    rw [decide_eq_false (hne 35 (by decide) (by decide))] at t3
    obtain ⟨a, b, c, d, e, loop⟩ := lp_none (l := it i) (h := h) (fun hm => by rcases dig 46 hm with h | h <;> omega) (fun hm => by rcases dig 58 hm with h | h <;> omega) (by omega)
    rw [hd]
    exact runB_ret rfl ((sSeq_nx ((sIf_f t1).trans rfl)).trans ((sSeq_nx ((sIf_f t2).trans rfl)).trans ((sSeq_nx ((sIf_f t3).trans rfl)).trans ((sSeq_nx (a := sFor lpI lpG lpB) loop).trans (sRet_eq ((cFn_eq (A := aCons (cVar 0) aNil) rfl).trans (whole_num hi)))))))
  | dk b m n hm hn =>
    have hd : lt (.tup [.str (dkw b), .str (S m), .str (S n)]) = m ++ (if b = true then 46 else 58) :: n := by
      show m ++ (if dkw b = "deed" then 46 else 58) :: n = _
      have : (if dkw b = "deed" then 46 else 58) = (if b = true then 46 else 58) := by cases b <;> decide +kernel
      rw [this]
    have hmem : (if b = true then 46 else 58) ∈ m ++ (if b = true then 46 else 58) :: n := by simp
    have nw : ∀ l : List Nat, (∀ c ∈ l, 97 ≤ c) → m ++ (if b = true then 46 else 58) :: n ≠ l := fun l hl e => by
      rw [e] at hmem
      have := hl _ hmem
      split at this <;> omega
    have hh : ∀ c, c < 97 → (m ++ (if b = true then 46 else 58) :: n).head? ≠ some c := fun c hc e => by
      cases m with
      | nil => exact absurd hm.1 (by simp)
      | cons x r =>
        have : x = c := by simpa using e
        have := (hm.2.2 x List.mem_cons_self).1
        omega
    have t1 := inW (l := m ++ (if b = true then 46 else 58) :: n)
    rw [tab_w, if_neg (nw _ (by decide)), if_neg (nw _ (by decide)), if_neg (nw _ (by decide))] at t1
    have t2 := st (l := m ++ (if b = true then 46 else 58) :: n) e39
    rw [decide_eq_false (hh 39 (by decide))] at t2
    have t3 := st (l := m ++ (if b = true then 46 else 58) :: n) e35
    rw [decide_eq_false (hh 35 (by decide))] at t3
    rw [hd]
    exact runB_ret rfl ((sSeq_nx ((sIf_f t1).trans rfl)).trans ((sSeq_nx ((sIf_f t2).trans rfl)).trans ((sSeq_nx ((sIf_f t3).trans rfl)).trans (sSeq_ret (a := sFor lpI lpG lpB) (lp_dk hm hn)))))
/-- [y for x in xs]: part by part -/
theorem cComp_two {iF : IF} {g : TF'} {F : EF} {own : List Nat} {ε : AEnv} {h h1 : AH} {xs ys : List D} (hi : iF ε h = .ok (.fix xs) h1) (hl : xs.length = ys.length) (hs : xs.length < sizeLine) (e : D → AEnv)
    (hg : ∀ d ∈ xs, ∀ h, g d (wipeA ε own) h = some (e d)) (hF : ∀ i (h1' : i < xs.length) (h2' : i < ys.length), ∀ h, h1 <+: h → ∃ h', h <+: h' ∧ F (e xs[i]) h = .ok ys[i] h') :
    ∃ h', h1 <+: h' ∧ h'[h1.length]? = some (.lst ys) ∧ cComp iF g tYes' F own ε h = .ok (.ref h1.length) h' := by
  obtain ⟨acc, h', e1, rfl, p, k⟩ := cComp_inv (it := .fix xs) (g := g) (t := tYes') (F := F) (own := own) hi (fun i acc h2 => acc = ys.take i ∧ h1 <+: h2 ∧ h2[h1.length]? = some (.lst acc)) xs.length rfl hs
    (by rintro i acc h2 ⟨_, _, k⟩; exact k)
    (by rintro i acc h2 ⟨rfl, _⟩; rw [List.length_take]; exact Nat.min_le_left _ _)
    ⟨by simp, List.prefix_append _ _, by simp⟩
    (by
      rintro i acc h2 hlt ⟨rfl, p, k⟩
      have hm : xs[i] ∈ xs := List.getElem_mem hlt
      obtain ⟨h4, p4, e4⟩ := hF i hlt (by omega) h2 p
      have k4 := getElem_pre p4 k
      refine ⟨xs[i], e xs[i], true, h2, by simp [AIt.item, hlt], hg _ hm _, rfl, .inr ⟨rfl, ys[i]'(by omega), h4, e4, k4, ?_, ?_, ?_⟩⟩
      · rw [List.take_succ, List.getElem?_eq_getElem (by omega)]; rfl
      · exact pre_set (p.trans p4) (Nat.le_refl _)
      · rw [List.getElem?_set_self (List.getElem?_eq_some_iff.mp k4).1])
    (by rintro acc h2 _; rfl)
  rw [hl, List.take_length] at k
  exact ⟨h', p, k, e1⟩
/-- the worth of a worth's tree -/
theorem worth_of_ok {V' : FV} {n : Nat} {d : D} (w : V n d) : ∀ {h : AH} {m : Nat}, n < m → ∃ h', h <+: h' ∧ f_worth_of V' m [tree n d] h = .ok d h' := by
  have k := kb
  induction w with
  | leaf hl =>
    intro h m hm
    obtain ⟨m, rfl⟩ : ∃ g, m = g + 1 := ⟨m - 1, by omega⟩
    rw [tree_leaf hl]
    rename_i d
    have t : tVal (cCall fIsi (aCons (cVar 0) (aCons (cC (.ty "str")) aNil))) [some (.str (S (lt d))), none, none, none] h = .ok true h := isv (d := .str (S (lt d))) rfl rfl k.2.2.2.2.2.2.2.2.1
    exact ⟨h, List.prefix_refl _, runB_ret rfl (sSeq_ret ((sIf_t t).trans (sRet_eq ((cFn_eq (A := aCons (cVar 0) aNil) rfl).trans (single_of_ok hl)))))⟩
  | row h1 h2 ih =>
    rename_i n ds
    intro h m hm
    obtain ⟨m, rfl⟩ : ∃ g, m = g + 1 := ⟨m - 1, by omega⟩
    rw [tree_row]
    let W : D := .tup [.str "[", .tup (ds.map (tree n))]
    have t : tVal (cCall fIsi (aCons (cVar 0) (aCons (cC (.ty "str")) aNil))) [some W, none, none, none] h = .ok false h := isv (d := W) rfl rfl k.2.2.2.2.2.2.2.2.2
    have s1 : sAsg (cVar 0) (gT 2 (gCons' (gN 1) (gCons' (gN 2) gNil'))) [some W, none, none, none] h = .nx [some W, some (.str "["), some (.tup (ds.map (tree n))), none] h := rfl
    have t2 : tVal (cBin opNe (cVar 1) (cC (.str ("[" : Str)))) [some W, some (.str "["), some (.tup (ds.map (tree n))), none] h = .ok false h := by
      refine tVal_eq ((cBin_eq rfl rfl).trans ?_)
      simp [opNe, scalEq]
    obtain ⟨H2, p2, k2, c2⟩ := cComp_two (g := gN 3) (F := cFn (f_worth_of V' m) (aCons (cVar 3) aNil)) (own := [3]) (ε := [some W, some (.str "["), some (.tup (ds.map (tree n))), none]) (h := h) (h1 := h) (iF := iAny (cVar 2)) (xs := ds.map (tree n)) (ys := ds) rfl (List.length_map _) (by rw [sizeLine_eq, List.length_map]; omega)
      (fun d => [some W, some (.str "["), some (.tup (ds.map (tree n))), some d]) (fun _ _ _ => rfl)
      (fun i h1' h2' hh _ => by
        obtain ⟨h3, p3, e3⟩ := ih ds[i] (List.getElem_mem h2') (h := hh) (m := m) (by omega)
        refine ⟨h3, p3, ?_⟩
        rw [List.getElem_map]
        exact (cFn_eq (A := aCons (cVar 3) aNil) rfl).trans e3)
    have tp : cCall fTuple (aCons (cComp (iAny (cVar 2)) (gN 3) tYes' (cFn (f_worth_of V' m) (aCons (cVar 3) aNil)) [3]) aNil) [some W, some (.str "["), some (.tup (ds.map (tree n))), none] h = .ok (.tup ds) H2 := (cCall_eq (aCons_eq c2 aNil_eq)).trans (by simp only [fTuple, k2])
    exact ⟨H2, p2, runB_ret rfl ((sSeq_nx ((sIf_f t).trans rfl)).trans ((sSeq_nx s1).trans ((sSeq_nx ((sIf_f t2).trans rfl)).trans (sRet_eq (cTup_eq (aCons_eq rfl (aCons_eq tp aNil_eq)) (by rw [sizeLine_eq]; exact Nat.le_of_ble_eq_true rfl))))))⟩
theorem read_ok {V' : FV} {d : D} {h : AH} (w : V 8 d) (hc : cn 8 d ≤ 200) : ∃ h', h <+: h' ∧ f_read_worth V' [.str (S (tx 8 d))] h = .ok d h' := by
  have k := kb
  obtain ⟨h1, p1, e1⟩ := tree_ok (V' := V') (h := h) w (by omega) (by omega)
  obtain ⟨h2, p2, e2⟩ := worth_of_ok (V' := V') w (h := h1) (m := 30) (by omega)
  obtain ⟨h3, p3, e3⟩ := worth_ok (V' := V') (h := h2) w hc
  obtain ⟨h4, p4, e4⟩ := show_ok w (h := h3) (m := 30) (by omega) (by omega)
  let X : D := .str (S (tx 8 d))
  have t : tVal (cCall fIsi (aCons (cVar 0) (aCons (cC (.ty "str")) aNil))) [some X, none] h = .ok true h := isv (d := X) rfl rfl k.2.2.2.2.2.2.2.2.1
  have s1 : sSet 1 (cFn (f_worth_of V' 30) (aCons (cFn (f_only_tree V') (aCons (cVar 0) aNil)) aNil)) [some X, none] h = .nx [some X, some d] h2 :=
    sSet_eq (i := 1) ((cFn_eq (aCons_eq ((cFn_eq (A := aCons (cVar 0) aNil) rfl).trans e1) aNil_eq)).trans e2)
  have a1 : tVal (cFn (f_is_worth V') (aCons (cVar 1) aNil)) [some X, some d] h2 = .ok true h3 := tVal_eq ((cFn_eq (A := aCons (cVar 1) aNil) rfl).trans e3)
  have a2 : tVal (cBin opNe (cFn (f_show_worth 30) (aCons (cVar 1) aNil)) (cVar 0)) [some X, some d] h3 = .ok false h4 := by
    refine tVal_eq ((cBin_eq ((cFn_eq (A := aCons (cVar 1) aNil) rfl).trans e4) rfl).trans ?_)
    show opNe (.str (S (tx 8 d))) (.str (S (tx 8 d))) h4 = _
    simp [opNe, scalEq]
  have tt : (tOr' (tNot' (tVal (cFn (f_is_worth V') (aCons (cVar 1) aNil)))) (tVal (cBin opNe (cFn (f_show_worth 30) (aCons (cVar 1) aNil)) (cVar 0)))) [some X, some d] h2 = .ok false h4 := (tOr_f (tNot_eq a1)).trans a2
  exact ⟨h4, p1.trans (p2.trans (p3.trans p4)), runB_ret rfl ((sSeq_nx ((sIf_f ((tNot_eq t).trans rfl)).trans rfl)).trans ((sSeq_nx s1).trans ((sSeq_nx ((sIf_f tt).trans rfl)).trans (sRet_eq rfl))))⟩
end K04

namespace Mi
open L2 PySem PySem.Spec PyProof.Rows
/-! ### texts of data -/
theorem pdx_pre {h h' : AH} (p : h <+: h') : ∀ (n : Nat) (d : D) (q : PyData), pdx n h d = some q → pdx n h' d = some q := by
  intro n
  induction n with
  | zero =>
    intro d q e
    cases d <;> simp only [pdx] at e ⊢ <;> first | exact e | cases e
  | succ n ih =>
    intro d q e
    cases d with
    | tup xs =>
      simp only [pdx, Option.map_eq_some_iff] at e ⊢
      obtain ⟨ps, z, rfl⟩ := e
      exact ⟨ps, omap_imp ih z, rfl⟩
    | ref r =>
      simp only [pdx] at e ⊢
      split at e <;> first | (cases e; done) | skip
      · rename_i xs q1
        rw [getElem_pre p q1]
        obtain ⟨ps, z, rfl⟩ := Option.map_eq_some_iff.mp e
        exact Option.map_eq_some_iff.mpr ⟨ps, omap_imp ih z, rfl⟩
      · rename_i kvs q1
        rw [getElem_pre p q1]
        obtain ⟨ps, z, rfl⟩ := Option.map_eq_some_iff.mp e
        exact Option.map_eq_some_iff.mpr ⟨ps, omap_imp ih z, rfl⟩
    | _ => simp only [pdx] at e ⊢ <;> first | exact e | cases e
theorem reprX_pre {h h' : AH} (p : h <+: h') {d : D} {s : Str} (e : reprX d h = some s) : reprX d h' = some s := by
  unfold reprX at e ⊢
  cases q : pdx 60 h d with
  | none => rw [q] at e; cases e
  | some x =>
    rw [q] at e
    rw [pdx_pre p _ _ _ q]
    exact e
theorem pdx_up {h : AH} : ∀ (n : Nat) (d : D) (p : PyData), pdx n h d = some p → pdx (n + 1) h d = some p := by
  intro n
  induction n with
  | zero => intro d p e; cases d <;> simp only [pdx] at e ⊢ <;> first | exact e | cases e
  | succ n ih =>
    intro d p e
    cases d with
    | tup xs =>
      rw [pdx, Option.map_eq_some_iff] at e
      obtain ⟨ps, z, rfl⟩ := e
      rw [pdx, omap_imp ih z]
      rfl
    | ref r =>
      rw [pdx] at e ⊢
      split at e <;> first | (cases e; done) | skip
      · rename_i xs q1
        obtain ⟨ps, z, rfl⟩ := Option.map_eq_some_iff.mp e
        simp only [omap_imp ih z]
        rfl
      · rename_i kvs q1
        obtain ⟨ps, z, rfl⟩ := Option.map_eq_some_iff.mp e
        simp only [omap_imp ih z]
        rfl
    | _ => simp only [pdx] at e ⊢ <;> first | exact e | cases e
theorem pdx_le {h : AH} {n : Nat} {d : D} {p : PyData} (e : pdx n h d = some p) : ∀ m, n ≤ m → pdx m h d = some p := by
  intro m hm
  induction hm with
  | refl => exact e
  | step _ ih => exact pdx_up _ _ _ ih
def Sm (h : AH) (k L : Nat) (d : D) : Prop := ∃ p, pdx k h d = some p ∧ p.showable = true ∧ p.shown.length ≤ L
theorem Sm.pre {h h' : AH} (p : h <+: h') {k L : Nat} {d : D} : Sm h k L d → Sm h' k L d := fun ⟨q, a, b, c⟩ => ⟨q, pdx_pre p _ _ _ a, b, c⟩
theorem Sm.mono {h : AH} {k k' L L' : Nat} {d : D} (hk : k ≤ k') (hL : L ≤ L') : Sm h k L d → Sm h k' L' d := fun ⟨q, a, b, c⟩ => ⟨q, pdx_le a _ hk, b, Nat.le_trans c hL⟩
theorem Sm.repr {h : AH} {k L : Nat} {d : D} (hk : k ≤ 60) (hL : L ≤ 10000000) : Sm h k L d → ∃ s, reprX d h = some s := fun ⟨q, a, b, c⟩ => by
  refine ⟨q.shown, ?_⟩
  unfold reprX
  rw [pdx_le a 60 hk]
  simp only
  rw [if_pos ⟨b, by rw [sizeLine_eq]; omega⟩]
theorem sm_all {h : AH} {k L : Nat} : ∀ {ds : List D}, (∀ d ∈ ds, Sm h k L d) → ∃ ps, omap (pdx k h) ds = some ps ∧ ps.length = ds.length ∧ PyData.showableAll ps = true ∧ ((PyData.shownAll ps).map (·.length)).sum ≤ ds.length * L ∧ (PyData.shownAll ps).length = ds.length
  | [], _ => ⟨[], rfl, rfl, by simp [PyData.showableAll], by simp [PyData.shownAll], by simp [PyData.shownAll]⟩
  | d :: ds, g => by
    obtain ⟨p, a, b, c⟩ := g d List.mem_cons_self
    obtain ⟨ps, e1, e2, e3, e4, e5⟩ := sm_all fun x hx => g x (List.mem_cons_of_mem _ hx)
    refine ⟨p :: ps, by simp only [omap, a, e1], by simp [e2], by simp [PyData.showableAll, b, e3], ?_, by simp [PyData.shownAll, e5]⟩
    simp only [PyData.shownAll, List.map_cons, List.sum_cons, List.length_cons]
    rw [Nat.succ_mul]
    omega
theorem Sm.tup {h : AH} {k L : Nat} {ds : List D} (g : ∀ d ∈ ds, Sm h k L d) : Sm h (k + 1) (ds.length * (L + 2) + 3) (.tup ds) := by
  obtain ⟨ps, e1, e2, e3, e4, e5⟩ := sm_all g
  refine ⟨.tuple ps, by rw [pdx, e1]; rfl, by simp [PyData.showable, e3], ?_⟩
  rw [PyData.shown]
  have l := tupleText_len_le (PyData.shownAll ps)
  rw [e5] at l
  rw [Nat.mul_add]
  omega
theorem Sm.lst {h : AH} {k L n : Nat} {ds : List D} (e : h[n]? = some (.lst ds)) (g : ∀ d ∈ ds, Sm h k L d) : Sm h (k + 1) (ds.length * (L + 2) + 3) (.ref n) := by
  obtain ⟨ps, e1, e2, e3, e4, e5⟩ := sm_all g
  refine ⟨.list ps, by rw [pdx]; simp only [e, e1]; rfl, by simp [PyData.showable, e3], ?_⟩
  rw [PyData.shown]
  have l := listText_len_le (PyData.shownAll ps)
  rw [e5] at l
  rw [Nat.mul_add]
  omega
theorem sm_bl {h : AH} (b : Bool) : Sm h 0 100 (.bl b) := ⟨.bool b, rfl, by simp [PyData.showable], by rw [PyData.shown]; cases b <;> exact Nat.le_of_ble_eq_true (by decide +kernel)⟩
/-- two of the same data -/
theorem rep_same {h1 h2 : AH} {x y : D} {ε : AEnv} {F G : EF} {h : AH} (p : h1 <+: h2) (eF : F ε h = .ok x h1) (eG : G ε h1 = .ok y h2) {k L : Nat} (hk : k ≤ 60) (hL : L ≤ 10000000) (s1 : Sm h1 k L x) (same : pdx 60 h2 y = pdx 60 h2 x) :
    cBin opEq2 (cCall fRepr2 (aCons F aNil)) (cCall fRepr2 (aCons G aNil)) ε h = .ok (.bl true) h2 ∧ cBin opNe (cCall fRepr2 (aCons F aNil)) (cCall fRepr2 (aCons G aNil)) ε h = .ok (.bl false) h2 := by
  obtain ⟨s, es⟩ := s1.repr hk hL
  have e2 : reprX y h2 = some s := by
    have := reprX_pre p es
    unfold reprX at this ⊢
    rw [same]
    exact this
  have q1 : cCall fRepr2 (aCons F aNil) ε h = .ok (.str s) h1 := (cCall_eq (aCons_eq eF aNil_eq)).trans (by simp only [fRepr2, es])
  have q2 : cCall fRepr2 (aCons G aNil) ε h1 = .ok (.str s) h2 := (cCall_eq (aCons_eq eG aNil_eq)).trans (by simp only [fRepr2, e2])
  refine ⟨(cBin_eq q1 q2).trans ?_, (cBin_eq q1 q2).trans ?_⟩
  · simp [opEq2, eqX, isBox, opEq, scalEq]
  · simp [opNe, scalEq]
theorem pdx_lst {h : AH} {k r1 r2 : Nat} {ds : List D} (e1 : h[r1]? = some (.lst ds)) (e2 : h[r2]? = some (.lst ds)) : pdx k h (.ref r1) = pdx k h (.ref r2) := by
  cases k with
  | zero => rfl
  | succ k => simp only [pdx, e1, e2]
theorem szl {n : Nat} (h : Nat.ble n 1000 = true) : n ≤ sizeLine := by
  have q := Nat.le_of_ble_eq_true h
  rw [sizeLine_eq]
  omega
theorem add_l {h : AH} {a b : Nat} {xs ys : List D} (ha : h[a]? = some (.lst xs)) (hb : h[b]? = some (.lst ys)) (hz : xs.length + ys.length ≤ 1000) : opAdd (.ref a) (.ref b) h = .ok (.ref h.length) (h ++ [.lst (xs ++ ys)]) := by
  have : xs.length + ys.length ≤ sizeLine := by rw [sizeLine_eq]; omega
  simp only [opAdd, ha, hb, if_pos this]
theorem mul_l {h : AH} {a k : Nat} {xs : List D} (ha : h[a]? = some (.lst xs)) (hz : xs.length * k ≤ 1000) (hk : k ≤ 1000) : opMul (.ref a) (.int k) h = .ok (.ref h.length) (h ++ [.lst (List.replicate k xs).flatten]) := by
  have c : (decide (-(2 ^ 63) ≤ (k : Int)) && decide ((k : Int) < 2 ^ 63) && decide (xs.length * (k : Int).toNat ≤ sizeLine)) = true := by
    rw [Int.toNat_natCast, sizeLine_eq, Bool.and_eq_true, Bool.and_eq_true, decide_eq_true_eq, decide_eq_true_eq, decide_eq_true_eq]
    refine ⟨⟨by omega, by omega⟩, by omega⟩
  simp only [opMul, ha]
  rw [if_pos c, Int.toNat_natCast]
theorem repr_signs (x : Str) : (reprText x).cps.toList = reprQuote x :: (x.cps.toList.flatMap (Builtin.Str.reprChar (reprQuote x)) ++ [reprQuote x]) := by
  have go : ∀ (l : List Nat) (acc : Array Nat) (q : Nat), (l.foldl (fun out c => out ++ (Builtin.Str.reprChar q c).toArray) acc).toList = acc.toList ++ l.flatMap (Builtin.Str.reprChar q) := fun l => by
    induction l with
    | nil => intro acc q; simp
    | cons c r ih =>
      intro acc q
      rw [List.foldl_cons, ih, List.flatMap_cons]
      simp
  unfold reprText
  rw [Array.toList_push, ← Array.foldl_toList, go]
  simp
theorem sum_shown : ∀ {h : AH} {k : Nat} {ds : List D} {f : D → Nat}, (∀ d ∈ ds, Sm h k (f d) d) → ∃ ps, omap (pdx k h) ds = some ps ∧ ps.length = ds.length ∧ PyData.showableAll ps = true ∧ ((PyData.shownAll ps).map (·.length)).sum ≤ (ds.map f).sum ∧ (PyData.shownAll ps).length = ds.length
  | _, _, [], _, _ => ⟨[], rfl, rfl, by simp [PyData.showableAll], by simp [PyData.shownAll], by simp [PyData.shownAll]⟩
  | h, k, d :: ds, f, g => by
    obtain ⟨p, a, b, c⟩ := g d List.mem_cons_self
    obtain ⟨ps, e1, e2, e3, e4, e5⟩ := sum_shown fun x hx => g x (List.mem_cons_of_mem _ hx)
    refine ⟨p :: ps, by simp only [omap, a, e1], by simp [e2], by simp [PyData.showableAll, b, e3], ?_, by simp [PyData.shownAll, e5]⟩
    simp only [PyData.shownAll, List.map_cons, List.sum_cons]
    omega
/-- a tuple of data, each of its own length -/
theorem Sm.tups {h : AH} {k : Nat} {ds : List D} {f : D → Nat} (g : ∀ d ∈ ds, Sm h k (f d) d) : Sm h (k + 1) ((ds.map f).sum + ds.length * 2 + 3) (.tup ds) := by
  obtain ⟨ps, e1, e2, e3, e4, e5⟩ := sum_shown g
  refine ⟨.tuple ps, by rw [pdx, e1]; rfl, by simp [PyData.showable, e3], ?_⟩
  rw [PyData.shown]
  have l := tupleText_len_le (PyData.shownAll ps)
  rw [e5] at l
  omega
/-- a text of signs below 127 -/
theorem reprAscii {x : Str} (h : ∀ c ∈ x.cps.toList, c < 127) : (reprText x).length ≤ 4 * x.length + 2 := by
  have q : reprQuote x = 34 ∨ reprQuote x = 39 := by
    unfold reprQuote
    split <;> simp
  have one : ∀ c : _root_.Fin 127, (Builtin.Str.reprChar 34 c.val).length ≤ 4 ∧ (Builtin.Str.reprChar 39 c.val).length ≤ 4 := by decide +kernel
  have o : ∀ c, c < 127 → (Builtin.Str.reprChar (reprQuote x) c).length ≤ 4 := fun c hc => by
    rcases q with q | q <;> rw [q]
    · exact (one ⟨c, hc⟩).1
    · exact (one ⟨c, hc⟩).2
  have fl : ∀ l : List Nat, (∀ c ∈ l, c < 127) → (l.flatMap (Builtin.Str.reprChar (reprQuote x))).length ≤ 4 * l.length := fun l => by
    induction l with
    | nil => intro _; simp
    | cons c r ih =>
      intro g
      rw [List.flatMap_cons, List.length_append, List.length_cons]
      have := o c (g c List.mem_cons_self)
      have := ih fun y hy => g y (List.mem_cons_of_mem _ hy)
      omega
  have e := congrArg List.length (repr_signs x)
  rw [Array.length_toList] at e
  have e2 : (reprText x).length = (reprText x).cps.size := rfl
  have e3 : x.cps.toList.length = x.length := Array.length_toList
  have := fl x.cps.toList h
  simp only [List.length_cons, List.length_append, List.length_nil] at e
  omega
end Mi

namespace K04
open Mi L2 PySem PySem.Spec PyProof.Rows
/-! ### what is drawn -/
def zs0 : List Int := [0, 1, 9, 10, 99, 100, 999999, 1000000000000000]
def words : List Str := ["", "a", "none", "yes", "row", "thing", "1", "-1", "[1 2]", "#5", "a.b", "a:b", " ", "twentysigns of all ~"]
def labels : List Str := ["a", "z", "row", "none", "thing", "ab", "abcdefgh", "deed"]
def strs1 : List Str := words ++ (["deed", "kind", "b"] : List Str)
def dk (w : Str) (a b : Str) : D := .tup [.str w, .str a, .str b]
def thingD (z : Int) : D := .tup [.str "thing", .int z]
def zsB : List Int := zs0 ++ zs0.map (fun z => 0 - z) ++ [5]
inductive L0 : D → Prop
  | non : L0 .non
  | bl (b : Bool) : L0 (.bl b)
  | int (z : Int) : z ∈ zsB → L0 (.int z)
  | str (s : Str) : s ∈ strs1 → L0 (.str s)
  | thing (z : Int) : z ∈ zs0 → L0 (thingD z)
  | dk (w a b : Str) : w = "deed" ∨ w = "kind" → a ∈ labels → b ∈ labels → L0 (dk w a b)
theorem label_drawn {h : AH} {n m : Nat} {c : Int} (H : Hand h n m c) (hc : 0 ≤ c) (hc2 : c < 100000) : ∃ (x : Str) (h' : AH), f_l_label [.ref n] h = .ok (.str x) h' ∧ x ∈ labels ∧ Hand h' n m (c + 1) ∧ Step n m h h' := by
  have lt := H.lt
  have zs : (labels.map D.str).length ≤ sizeLine := by rw [List.length_map, sizeLine_eq]; exact Nat.le_of_ble_eq_true rfl
  obtain ⟨d, h', e, hd, H', s'⟩ := pick_ok (ds := labels.map D.str) (s := h.length) (H.app (os := [.lst (labels.map D.str)])) hc (by omega) get_last (by omega) (by omega) (by simp [labels]) (by rw [List.length_map]; exact Nat.lt_of_le_of_lt (Nat.le_of_ble_eq_true rfl : labels.length ≤ 8) (by decide))
  obtain ⟨x, hx, rfl⟩ := List.mem_map.mp hd
  refine ⟨x, h', runB_ret rfl (sRet_eq ((cFn_eq (aCons_eq rfl (aCons_eq (cLst_eq (ds := labels.map D.str) rfl zs) aNil_eq))).trans e)), hx, H', Step.app.trans s'⟩
def nums : List Int := zs0
def texts : List Str := ["", "a", "none", "yes", "row", "thing", "1", "-1", "[1 2]", "#5", "a.b", "a:b", " "]
def words2 : List Str := ["deed", "kind"]
theorem ix_ref {h : AH} {s : Nat} {ds : List D} {r : Int} (e : h[s]? = some (.lst ds)) (h1 : 0 ≤ r) (h2 : r < ds.length) : ∃ d, d ∈ ds ∧ opIx (.ref s) (.int r) h = .ok d h := by
  obtain ⟨d, hd, ed⟩ := at_of h1 h2
  exact ⟨d, hd, by simp only [opIx, seqD, e, ed]⟩
theorem leaf_drawn {h : AH} {n m : Nat} {c : Int} (H : Hand h n m c) (hc : 0 ≤ c) (hc2 : c < 50000) : ∃ (d : D) (h' : AH), f_l_leaf [.ref n] h = .ok d h' ∧ L0 d ∧ Hand h' n m (c + 6) ∧ Step n m h h' := by
  obtain ⟨r8, h1, e1, a1, b1, H1, s1⟩ := dealt_ok (lots := 8) H hc (by omega) (by decide) (by decide)
  have lt1 := H1.lt
  obtain ⟨d2, h2, e2, hd2, H2, s2⟩ := pick_ok (ds := nums.map D.int) (s := h1.length) (H1.app (os := [.lst (nums.map D.int)])) (by omega) (by omega) get_last (by omega) (by omega) (by simp [nums, zs0]) (by rw [List.length_map]; exact Nat.lt_of_le_of_lt (Nat.le_of_ble_eq_true rfl : nums.length ≤ 8) (by decide))
  obtain ⟨i, hi, rfl⟩ := List.mem_map.mp hd2
  have lt2 := H2.lt
  let h4 : AH := h2 ++ [O.lst ((texts ++ [("twentysigns of all ~" : Str)]).map D.str)]
  obtain ⟨d5, h5, e5, hd5, H5, s5⟩ := pick_ok (h := h4) (ds := (texts ++ [("twentysigns of all ~" : Str)]).map D.str) (s := h2.length) (H2.app (os := [.lst ((texts ++ [("twentysigns of all ~" : Str)]).map D.str)])) (by omega) (by omega) get_last (by omega) (by omega) (by simp [texts]) (by rw [List.length_map]; exact Nat.lt_of_le_of_lt (Nat.le_of_ble_eq_true rfl : (texts ++ [("twentysigns of all ~" : Str)]).length ≤ 14) (by decide))
  obtain ⟨x, hx, rfl⟩ := List.mem_map.mp hd5
  obtain ⟨l1, h6, e6, hl1, H6, s6⟩ := label_drawn H5 (by omega) (by omega)
  obtain ⟨l2, h7, e7, hl2, H7, s7⟩ := label_drawn H6 (by omega) (by omega)
  have lt7 := H7.lt
  let L7 : List D := [.non, .bl true, .bl false, .int i, .int (0 - i), .str x, .tup [.str "thing", .int i]]
  let h8 : AH := h7 ++ [O.lst L7]
  have H8 : Hand h8 n m _ := H7.app (os := [.lst L7])
  have lt8 := H8.lt
  obtain ⟨r2, h9, e9, a9, b9, H9, s9⟩ := dealt_ok (lots := 2) (H8.app (os := [.lst (words2.map D.str)])) (by omega) (by omega) (by decide) (by decide)
  have k9 : h9[h8.length]? = some (.lst (words2.map D.str)) := (s9.keep _ (by omega) (by omega) (by simp)).trans get_last
  obtain ⟨w, hw, ew⟩ := ix_ref k9 a9 (by simpa [words2] using b9)
  obtain ⟨wx, hwx, rfl⟩ := List.mem_map.mp hw
  have l8 : h7.length < h8.length := by simp [h8]
  have k8 : h9[h7.length]? = some (.lst L7) := (s9.keep _ (by omega) (by omega) (by rw [List.length_append]; omega)).trans (get_old get_last)
  let T : D := .tup [.str wx, .str l1, .str l2]
  let h10 : AH := h9 ++ [O.lst [T]]
  let h11 : AH := h10 ++ [O.lst (L7 ++ [T])]
  have lt9 := H9.lt
  obtain ⟨d, hd, ed⟩ := ix_ref (h := h11) (s := h10.length) (ds := L7 ++ [T]) get_last a1 (by simpa [L7] using b1)
  have st : Step n m h h11 := s1.trans (Step.app.trans (s2.trans (Step.app.trans (s5.trans (s6.trans (s7.trans (Step.app.trans (Step.app.trans (s9.trans (Step.app.trans Step.app))))))))))
  have Hf : Hand h11 n m (c + 6) := by
    have := (H9.app (os := [.lst [T]])).app (os := [.lst (L7 ++ [T])])
    rw [show c + 1 + 1 + 1 + 1 + 1 + 1 = c + 6 by omega] at this
    exact this
  have good : L0 d := by
    simp only [L7, T, List.cons_append, List.nil_append, List.mem_cons, List.not_mem_nil, or_false] at hd
    rcases hd with rfl | rfl | rfl | rfl | rfl | rfl | rfl | rfl
    · exact .non
    · exact .bl _
    · exact .bl _
    · exact .int _ (List.mem_append_left _ (List.mem_append_left _ hi))
    · exact .int _ (List.mem_append_left _ (List.mem_append_right _ (List.mem_map.mpr ⟨i, hi, rfl⟩)))
    · exact .str _ (List.mem_append_left _ hx)
    · exact .thing _ hi
    · exact .dk _ _ _ (by simpa [words2] using hwx) hl1 hl2
  refine ⟨d, h11, ?_, good, Hf, st⟩
  have z : ∀ {j : Nat}, j ≤ 1000 → j ≤ sizeLine := fun q => by rw [sizeLine_eq]; omega
  have q1 := sPar2_eq (i := 3) (j := 4) (ε := [some (.ref n), none, none, none, none, none, none, none]) ((cFn_eq (A := aCons (cVar 0) (aCons (cC (.int 8)) aNil)) rfl).trans e1)
    ((cFn_eq (f := f_l_pick) (aCons_eq (F := cVar 0) rfl (aCons_eq (cLst_eq (A := aCons (cC (.int 0)) (aCons (cC (.int 1)) (aCons (cC (.int 9)) (aCons (cC (.int 10)) (aCons (cC (.int 99)) (aCons (cC (.int 100)) (aCons (cC (.int 999999)) (aCons (cBin opPow (cC (.int 10)) (cC (.int 15))) aNil)))))))) (ds := nums.map D.int) rfl (z (Nat.le_of_ble_eq_true rfl))) aNil_eq))).trans e2)
  have q2 : sSet 1 (cLst (aCons (cC (.str ("" : Str))) (aCons (cC (.str ("a" : Str))) (aCons (cC (.str ("none" : Str))) (aCons (cC (.str ("yes" : Str))) (aCons (cC (.str ("row" : Str))) (aCons (cC (.str ("thing" : Str))) (aCons (cC (.str ("1" : Str))) (aCons (cC (.str ("-1" : Str))) (aCons (cC (.str ("[1 2]" : Str))) (aCons (cC (.str ("#5" : Str))) (aCons (cC (.str ("a.b" : Str))) (aCons (cC (.str ("a:b" : Str))) (aCons (cC (.str (" " : Str))) aNil)))))))))))))) [some (.ref n), none, none, some (.int r8), some (.int i), none, none, none] h2 = .nx [some (.ref n), some (.ref h2.length), none, some (.int r8), some (.int i), none, none, none] (h2 ++ [.lst (texts.map D.str)]) :=
    sSet_eq (i := 1) (cLst_eq (ds := texts.map D.str) rfl (z (Nat.le_of_ble_eq_true rfl)))
  have q3 : sExpr (cMeth "list" mAppend (cVar 1) (aCons (cC (.str ("twentysigns of all ~" : Str))) aNil)) [some (.ref n), some (.ref h2.length), none, some (.int r8), some (.int i), none, none, none] (h2 ++ [.lst (texts.map D.str)]) = .nx [some (.ref n), some (.ref h2.length), none, some (.int r8), some (.int i), none, none, none] h4 := by
    refine sExpr_eq (d := .non) ((cMeth_eq (F := cVar 1) (d := .ref h2.length) (h1 := h2 ++ [.lst (texts.map D.str)]) (ds := [.str ("twentysigns of all ~" : Str)]) rfl (by simp [isTy, tyD]) rfl).trans ?_)
    have g : (h2 ++ [O.lst (texts.map D.str)])[h2.length]? = some (.lst (texts.map D.str)) := get_last
    simp only [mAppend, g]
    rw [if_pos (by rw [List.length_map, sizeLine_eq]; exact Nat.lt_of_le_of_lt (Nat.le_of_ble_eq_true rfl : texts.length ≤ 13) (by decide)), List.set_append_right (h := Nat.le_refl _), Nat.sub_self]
    show _ = Res.ok D.non (h2 ++ [O.lst ((texts ++ [("twentysigns of all ~" : Str)]).map D.str)])
    rw [List.map_append]
    rfl
  have q4 := sPar3_eq (i := 5) (j := 6) (l := 7) (ε := [some (.ref n), some (.ref h2.length), none, some (.int r8), some (.int i), none, none, none]) (h := h4)
    ((cFn_eq (f := f_l_pick) (A := aCons (cVar 0) (aCons (cVar 1) aNil)) rfl).trans e5) ((cFn_eq (A := aCons (cVar 0) aNil) rfl).trans e6) ((cFn_eq (A := aCons (cVar 0) aNil) rfl).trans e7)
  let ε5 : AEnv := [some (.ref n), some (.ref h2.length), none, some (.int r8), some (.int i), some (.str x), some (.str l1), some (.str l2)]
  have t1 : cTup (aCons (cC (.str ("thing" : Str))) (aCons (cVar 4) aNil)) ε5 h7 = .ok (.tup [.str "thing", .int i]) h7 := cTup_eq rfl (z (Nat.le_of_ble_eq_true rfl))
  have q5 : sSet 2 (cLst (aCons (cC .non) (aCons (cC (.bl true)) (aCons (cC (.bl false)) (aCons (cVar 4) (aCons (cBin opSub (cC (.int 0)) (cVar 4)) (aCons (cVar 5) (aCons (cTup (aCons (cC (.str ("thing" : Str))) (aCons (cVar 4) aNil))) aNil)))))))) ε5 h7 = .nx [some (.ref n), some (.ref h2.length), some (.ref h7.length), some (.int r8), some (.int i), some (.str x), some (.str l1), some (.str l2)] h8 :=
    sSet_eq (i := 2) (cLst_eq (ds := L7) (aCons_eq rfl (aCons_eq rfl (aCons_eq rfl (aCons_eq rfl (aCons_eq ((cBin_eq rfl rfl).trans rfl) (aCons_eq rfl (aCons_eq t1 aNil_eq))))))) (z (Nat.le_of_ble_eq_true rfl)))
  let ε6 : AEnv := [some (.ref n), some (.ref h2.length), some (.ref h7.length), some (.int r8), some (.int i), some (.str x), some (.str l1), some (.str l2)]
  have w1 : cBin opIx (cLst (aCons (cC (.str ("deed" : Str))) (aCons (cC (.str ("kind" : Str))) aNil))) (cFn f_l_dealt (aCons (cVar 0) (aCons (cC (.int 2)) aNil))) ε6 h8 = .ok (.str wx) h9 :=
    (cBin_eq (cLst_eq (ds := words2.map D.str) rfl (z (Nat.le_of_ble_eq_true rfl))) ((cFn_eq (A := aCons (cVar 0) (aCons (cC (.int 2)) aNil)) rfl).trans e9)).trans ew
  have w2 : cTup (aCons (cBin opIx (cLst (aCons (cC (.str ("deed" : Str))) (aCons (cC (.str ("kind" : Str))) aNil))) (cFn f_l_dealt (aCons (cVar 0) (aCons (cC (.int 2)) aNil)))) (aCons (cVar 6) (aCons (cVar 7) aNil))) ε6 h8 = .ok T h9 := cTup_eq (aCons_eq w1 rfl) (z (Nat.le_of_ble_eq_true rfl))
  have ad : opAdd (.ref h7.length) (.ref h9.length) h10 = .ok (.ref h10.length) h11 := by
    have g1 : h10[h7.length]? = some (.lst L7) := get_old k8
    have g2 : h10[h9.length]? = some (.lst [T]) := get_last
    simp only [opAdd, g1, g2]
    rw [if_pos (z (Nat.le_of_ble_eq_true rfl))]
  have fin := (cBin_eq (f := opIx) (G := cVar 3) (y := .int r8) ((cBin_eq (f := opAdd) (F := cVar 2) (ε := ε6) (x := .ref h7.length) rfl (cLst_eq (aCons_eq w2 aNil_eq) (z (Nat.le_of_ble_eq_true rfl)))).trans ad) rfl).trans ed
  exact runB_ret rfl ((sSeq_nx q1).trans ((sSeq_nx q2).trans ((sSeq_nx q3).trans ((sSeq_nx q4).trans ((sSeq_nx q5).trans (sRet_eq fin))))))
def alikes : List D := [.tup [.str "thing", .int 5], .tup [.str "deed", .str "a", .str "b"], .tup [.str "kind", .str "a", .str "b"], .tup [.str "row", .int 5], .tup [.str "row", .tup [.str "row", .tup []]], .tup [.str "row"]]
def looks : List D := alikes.map fun d => .tup [.str "row", d]
theorem sok : (strs1.all fun s => decide (s.length ≤ 20) && s.cps.toList.all fun c => decide (32 ≤ c) && decide (c ≤ 126) && decide (c ≠ 37) && decide (c ≠ 39)) = true := by decide +kernel
theorem lok : (labels.all fun s => decide (1 ≤ s.length) && decide (s.length ≤ 8) && s.cps.toList.all fun c => decide (97 ≤ c) && decide (c ≤ 122)) = true := by decide +kernel
theorem zok : (zsB.all fun z => decide (z.natAbs ≤ 10 ^ 15)) = true ∧ (zs0.all fun z => decide (0 ≤ z) && decide (z.natAbs ≤ 10 ^ 15)) = true := by decide +kernel
theorem label_nm {s : Str} (h : s ∈ labels) : ∃ l, s = S l ∧ nm l := by
  have q := List.all_eq_true.mp lok s h
  simp only [Bool.and_eq_true, decide_eq_true_eq, List.all_eq_true] at q
  refine ⟨s.cps.toList, (SX.S_tl s).symm, ?_, ?_, fun c hc => q.2 c hc⟩
  · rw [Array.length_toList]; exact q.1.1
  · rw [Array.length_toList]; exact q.1.2
theorem L0.lf {d : D} (h : L0 d) : Lf d := by
  cases h with
  | non => exact .non
  | bl b => exact .bl b
  | int z hz => exact .int z (of_decide_eq_true (List.all_eq_true.mp zok.1 z hz))
  | str s hs =>
    have q := List.all_eq_true.mp sok s hs
    simp only [Bool.and_eq_true, decide_eq_true_eq, List.all_eq_true] at q
    have := Lf.str s.cps.toList (by rw [Array.length_toList]; exact q.1) (fun c hc => by obtain ⟨⟨⟨a, b⟩, c'⟩, d⟩ := q.2 c hc; exact ⟨a, b, c', d⟩)
    rw [show S s.cps.toList = s from SX.S_tl s] at this
    exact this
  | thing z hz =>
    have q := List.all_eq_true.mp zok.2 z hz
    simp only [Bool.and_eq_true, decide_eq_true_eq] at q
    obtain ⟨k, rfl⟩ := Int.eq_ofNat_of_zero_le q.1
    exact .thing k q.2
  | dk w a b hw ha hb =>
    obtain ⟨la, rfl, na⟩ := label_nm ha
    obtain ⟨lb, rfl, nb⟩ := label_nm hb
    rcases hw with rfl | rfl
    · exact .dk true la lb na nb
    · exact .dk false la lb na nb
theorem leafV {n : Nat} {d : D} (h : L0 d) : V n d ∧ cn n d ≤ 1 := ⟨.leaf h.lf, by rw [cn_leaf h.lf]; exact Nat.le_refl _⟩
theorem lfs {s : Str} (h : s ∈ strs1) : Lf (.str s) := (L0.str s h).lf
theorem looks_ok {d : D} (hd : d ∈ looks) : V 2 d ∧ cn 2 d ≤ 4 := by
  have k : ("thing" : Str) ∈ strs1 ∧ ("deed" : Str) ∈ strs1 ∧ ("kind" : Str) ∈ strs1 ∧ ("row" : Str) ∈ strs1 ∧ ("a" : Str) ∈ strs1 ∧ ("b" : Str) ∈ strs1 := by decide +kernel
  have l5 : Lf (.int 5) := .int 5 (by decide)
  have row : ∀ {ds : List D}, ds.length ≤ 3 → (∀ d ∈ ds, Lf d) → V 2 (rowT ds) ∧ cn 2 (rowT ds) ≤ 4 := fun {ds} hl g => by
    refine ⟨.row (by omega) fun d hd => .leaf (g d hd), ?_⟩
    rw [cn_row, List.map_congr_left (g := fun _ => 1) fun d hd => cn_leaf (g d hd)]
    have : ∀ ds : List D, (ds.map fun _ => 1).sum = ds.length := fun ds => by
      induction ds with
      | nil => rfl
      | cons a r ih => simp only [List.map_cons, List.sum_cons, ih, List.length_cons]; omega
    rw [this]
    omega
  simp only [looks, alikes, List.map_cons, List.map_nil, List.mem_cons, List.not_mem_nil, or_false] at hd
  rcases hd with rfl | rfl | rfl | rfl | rfl | rfl
  · refine row (by simp) fun d hd => ?_
    simp only [List.mem_cons, List.not_mem_nil, or_false] at hd
    rcases hd with rfl | rfl
    · exact lfs k.1
    · exact l5
  · refine row (by simp) fun d hd => ?_
    simp only [List.mem_cons, List.not_mem_nil, or_false] at hd
    rcases hd with rfl | rfl | rfl
    · exact lfs k.2.1
    · exact lfs k.2.2.2.2.1
    · exact lfs k.2.2.2.2.2
  · refine row (by simp) fun d hd => ?_
    simp only [List.mem_cons, List.not_mem_nil, or_false] at hd
    rcases hd with rfl | rfl | rfl
    · exact lfs k.2.2.1
    · exact lfs k.2.2.2.2.1
    · exact lfs k.2.2.2.2.2
  · refine row (by simp) fun d hd => ?_
    simp only [List.mem_cons, List.not_mem_nil, or_false] at hd
    rcases hd with rfl | rfl
    · exact lfs k.2.2.2.1
    · exact l5
  · have v0 : V 1 (rowT []) := .row (by simp) (by simp)
    refine ⟨.row (by simp) fun d hd => ?_, ?_⟩
    · simp only [List.mem_cons, List.not_mem_nil, or_false] at hd
      rcases hd with rfl | rfl
      · exact .leaf (lfs k.2.2.2.1)
      · exact v0
    · have e : cn 2 (rowT [.str "row", rowT []]) = 1 + ([cn 1 (.str "row"), cn 1 (rowT [])] : List Nat).sum := rfl
      have e1 : cn 1 (.str "row") = 1 := cn_leaf (lfs k.2.2.2.1)
      have e2 : cn 1 (rowT []) = 1 := rfl
      show cn 2 (rowT [.str "row", rowT []]) ≤ 4
      rw [e, e1, e2]
      decide
  · refine row (by simp) fun d hd => ?_
    rw [List.mem_singleton.mp hd]
    exact lfs k.2.2.2.1
theorem alike_ok {h : AH} : ∃ h' s, h <+: h' ∧ h.length ≤ s ∧ f_l_alike_looks [] h = .ok (.ref s) h' ∧ h'[s]? = some (.lst looks) := by
  have z : ∀ {j : Nat}, j ≤ 1000 → j ≤ sizeLine := fun q => by rw [sizeLine_eq]; omega
  have e1 := sSet_eq (i := 0) (ε := [none, none]) (h := h) (cLst_eq (A := aCons (cTup (aCons (cC (.str ("thing" : Str))) (aCons (cC (.int 5)) aNil))) (aCons (cTup (aCons (cC (.str ("deed" : Str))) (aCons (cC (.str ("a" : Str))) (aCons (cC (.str ("b" : Str))) aNil)))) (aCons (cTup (aCons (cC (.str ("kind" : Str))) (aCons (cC (.str ("a" : Str))) (aCons (cC (.str ("b" : Str))) aNil)))) (aCons (cTup (aCons (cC (.str ("row" : Str))) (aCons (cC (.int 5)) aNil))) (aCons (cTup (aCons (cC (.str ("row" : Str))) (aCons (cTup (aCons (cC (.str ("row" : Str))) (aCons (cTup aNil) aNil))) aNil))) (aCons (cTup (aCons (cC (.str ("row" : Str))) aNil)) aNil)))))) (ds := alikes)
    (aCons_eq (cTup_eq rfl (z (Nat.le_of_ble_eq_true rfl))) (aCons_eq (cTup_eq rfl (z (Nat.le_of_ble_eq_true rfl))) (aCons_eq (cTup_eq rfl (z (Nat.le_of_ble_eq_true rfl))) (aCons_eq (cTup_eq rfl (z (Nat.le_of_ble_eq_true rfl))) (aCons_eq (cTup_eq (aCons_eq rfl (aCons_eq (cTup_eq (aCons_eq rfl (aCons_eq (cTup_eq rfl (Nat.zero_le _)) aNil_eq)) (z (Nat.le_of_ble_eq_true rfl))) aNil_eq)) (z (Nat.le_of_ble_eq_true rfl))) (aCons_eq (cTup_eq rfl (z (Nat.le_of_ble_eq_true rfl))) aNil_eq)))))) (z (Nat.le_of_ble_eq_true rfl)))
  have k : (h ++ [O.lst alikes])[h.length]? = some (.lst alikes) := get_last
  obtain ⟨h', p, k', c⟩ := cComp_any (g := gN 1) (t := tYes') (F := cTup (aCons (cC (.str ("row" : Str))) (aCons (cVar 1) aNil))) (own := [1]) (ε := [some (.ref h.length), none]) (iAny_live (F := cVar 0) rfl k) rfl (live_at k) (by rw [sizeLine_eq]; exact Nat.lt_of_le_of_lt (Nat.le_of_ble_eq_true rfl : alikes.length ≤ 6) (by decide))
    (fun d => [some (.ref h.length), some d]) (fun _ => true) (fun d => .tup [.str "row", d]) (fun _ _ _ => rfl) (fun _ _ h2 _ => ⟨h2, List.prefix_refl _, rfl⟩)
    (fun d _ _ h2 _ => ⟨h2, List.prefix_refl _, cTup_eq rfl (z (Nat.le_of_ble_eq_true rfl))⟩)
  rw [List.filter_eq_self.mpr fun _ _ => rfl] at k'
  exact ⟨h', _, (List.prefix_append _ _).trans p, by rw [List.length_append]; omega, runB_ret rfl ((sSeq_nx e1).trans (sRet_eq c)), k'⟩
def chainD : Nat → D → D
  | 0, x => x
  | n + 1, x => .tup [.str "row", .tup [chainD n x]]
theorem wide_ok {h : AH} {x : D} {n : Nat} (h1 : 2 ≤ n) (h2 : n ≤ 1000) : f_l_wide [x, .int n] h = .ok (.tup [.str "row", .tup (List.replicate n x)]) h := by
  have t : cTup (aCons (cVar 0) aNil) [some x, some (.int n)] h = .ok (.tup [x]) h := cTup_eq rfl (by rw [sizeLine_eq]; exact Nat.le_of_ble_eq_true rfl)
  have m : cBin opMul (cTup (aCons (cVar 0) aNil)) (cVar 1) [some x, some (.int n)] h = .ok (.tup (List.replicate n x)) h := by
    refine (cBin_eq t rfl).trans ?_
    have c : (!([x] : List D).isEmpty && decide ((2 : Int) ≤ n) && decide ((n : Int) ≤ 1000) && decide (([x] : List D).length ≤ 1000)) = true := by
      rw [decide_eq_true (show (2 : Int) ≤ n by omega), decide_eq_true (show (n : Int) ≤ 1000 by omega)]
      rfl
    have fl : ∀ n : Nat, (List.replicate n [x]).flatten = List.replicate n x := fun n => by
      induction n with
      | zero => rfl
      | succ n ih => rw [List.replicate_succ, List.flatten_cons, ih]; rfl
    simp only [opMul]
    rw [if_pos c, Int.toNat_natCast, fl]
  exact runB_ret rfl (sRet_eq (cTup_eq (aCons_eq (F := cC (.str ("row" : Str))) rfl (aCons_eq m aNil_eq)) (by rw [sizeLine_eq]; exact Nat.le_of_ble_eq_true rfl)))
theorem row_tup {F : EF} {ε : AEnv} {h h1 : AH} {x : D} (e : F ε h = .ok x h1) : cTup (aCons (cC (.str ("row" : Str))) (aCons (cTup (aCons F aNil)) aNil)) ε h = .ok (.tup [.str "row", .tup [x]]) h1 :=
  cTup_eq (aCons_eq rfl (aCons_eq (cTup_eq (aCons_eq e aNil_eq) (by rw [sizeLine_eq]; exact Nat.le_of_ble_eq_true rfl)) aNil_eq)) (by rw [sizeLine_eq]; exact Nat.le_of_ble_eq_true rfl)
theorem chain_ok {h : AH} {x : D} {n : Nat} (hn : n ≤ 1000) : f_l_chain [x, .int n] h = .ok (chainD n x) h := by
  have hi : iRange1 (cVar 1) [some x, some (.int n), none] h = .ok (.fix ((List.range n).map fun (i : Nat) => .int (0 + i))) h := by
    show (Res.ok (D.int n) h).bind _ = _
    rw [Res.bind_ok]
    simp only
    rw [if_pos (by rw [Bool.and_eq_true, decide_eq_true_eq, decide_eq_true_eq]; constructor <;> omega), Int.toNat_natCast]
  obtain ⟨ε', h', e, rfl, z, rfl⟩ := sFor_inv (g := gN 2) (B := sSet 0 (cTup (aCons (cC (.str ("row" : Str))) (aCons (cTup (aCons (cVar 0) aNil)) aNil)))) hi (fun i ε h' => h' = h ∧ ∃ z, ε = [some (chainD i x), some (.int n), z]) n (by simp [AIt.len]) ⟨rfl, none, rfl⟩
    (by
      rintro i ε h' hlt ⟨rfl, z, rfl⟩
      refine ⟨.int (0 + i), _, _, _, by simp [AIt.item, hlt], rfl, .inl (sSet_eq (row_tup rfl)), rfl, some (.int (0 + i)), rfl⟩)
    (by rintro ε h' _; rfl)
  exact runB_ret rfl ((sSeq_nx e).trans (sRet_eq rfl))

theorem step_new {n m k : Nat} {h h2 : AH} {o : O} (s : Mi.Step n m h h2) (hk : h.length ≤ k) : Mi.Step n m h (h2.set k o) :=
  ⟨by rw [List.length_set]; exact s.len, fun j h1 h2' h3 => by rw [List.getElem?_set_ne (by omega)]; exact s.keep j h1 h2' h3⟩
theorem Step.ofPre {n m : Nat} {h h' : AH} (p : h <+: h') : Mi.Step n m h h' := by
  obtain ⟨t, rfl⟩ := p
  exact .app
theorem Hand.ofPre {n m : Nat} {c : Int} {h h' : AH} (p : h <+: h') (H : Hand h n m c) : Hand h' n m c := by
  obtain ⟨t, rfl⟩ := p
  exact H.app
theorem eq2_int {h : AH} {a b : Int} : opEq2 (.int a) (.int b) h = .ok (.bl (decide (a = b))) h := rfl
def dc : Nat → Nat
  | 0 => 1
  | k + 1 => 1 + 4 * dc k
def cst : Nat → Nat
  | 0 => 8
  | k + 1 => 4 * cst k + 8
theorem dc_ge : ∀ k, 1 ≤ dc k
  | 0 => Nat.le_refl _
  | k + 1 => by simp only [dc]; omega
theorem lv {n k : Nat} {d : D} (h : L0 d) : V n d ∧ cn n d ≤ dc k := ⟨(leafV h).1, Nat.le_trans (leafV h).2 (dc_ge k)⟩
theorem lk2 {k : Nat} {d : D} (hd : d ∈ looks) : V (k + 1 + 2) d ∧ cn (k + 1 + 2) d ≤ dc (k + 1) := by
  obtain ⟨a, b⟩ := looks_ok hd
  obtain ⟨c, e⟩ := a.mono (m := k + 1 + 2) (by omega)
  have := dc_ge k
  refine ⟨c, ?_⟩
  simp only [dc]
  omega
theorem rowV {n c : Nat} {ds : List D} (hl : ds.length ≤ 4) (g : ∀ d ∈ ds, V n d ∧ cn n d ≤ c) : V (n + 1) (rowT ds) ∧ cn (n + 1) (rowT ds) ≤ 1 + 4 * c := by
  refine ⟨.row (by omega) fun d hd => (g d hd).1, ?_⟩
  rw [cn_row]
  have s := sumle (f := cn n) (g := fun _ => c) fun d hd => (g d hd).2
  have e : ∀ ds : List D, (ds.map fun _ => c).sum = ds.length * c := fun ds => by
    induction ds with
    | nil => simp
    | cons a r ih => simp only [List.map_cons, List.sum_cons, ih, List.length_cons, Nat.succ_mul]; omega
  rw [e] at s
  have := Nat.mul_le_mul_right c hl
  omega
theorem cst_ge : ∀ k, 8 ≤ cst k
  | 0 => Nat.le_refl _
  | k + 1 => by simp only [cst]; omega
theorem drawn_ok {n m : Nat} : ∀ (k f : Nat) (h : AH) (c : Int), k < f → k ≤ 20 → Hand h n m c → 0 ≤ c → c + cst k < 50000 →
    ∃ (d : D) (h' : AH) (c' : Int), f_l_drawn f [.ref n, .int k] h = .ok d h' ∧ (V (k + 2) d ∧ cn (k + 2) d ≤ dc k) ∧ Hand h' n m c' ∧ c ≤ c' ∧ c' ≤ c + cst k ∧ Mi.Step n m h h' := by
  intro k
  induction k with
  | zero =>
    intro f h c hf _ H hc hc2
    obtain ⟨f, rfl⟩ : ∃ g, f = g + 1 := ⟨f - 1, by omega⟩
    simp only [cst] at hc2 ⊢
    obtain ⟨r6, h1, e1, a1, b1, H1, s1⟩ := dealt_ok (lots := 6) H hc (by omega) (by decide) (by decide)
    obtain ⟨d, h2, e2, g2, H2, s2⟩ := leaf_drawn H1 (by omega) (by omega)
    have q1 : sSet 2 (cFn f_l_dealt (aCons (cVar 0) (aCons (cC (.int 6)) aNil))) [some (.ref n), some (.int 0), none, none] h = .nx [some (.ref n), some (.int 0), some (.int r6), none] h1 := sSet_eq (i := 2) ((cFn_eq (A := aCons (cVar 0) (aCons (cC (.int 6)) aNil)) rfl).trans e1)
    refine ⟨d, h2, _, runB_ret rfl ((sSeq_nx q1).trans (sSeq_ret ((sIf_t (tOr_t (tVal_eq ((cBin_eq rfl rfl).trans eq2_int)))).trans (sRet_eq ((cFn_eq (A := aCons (cVar 0) aNil) rfl).trans e2))))), lv g2, H2, by omega, by omega, s1.trans s2⟩
  | succ k ih =>
    intro f h c hf hk H hc hc2
    obtain ⟨f, rfl⟩ : ∃ g, f = g + 1 := ⟨f - 1, by omega⟩
    simp only [cst] at hc2 ⊢
    have hck := cst_ge k
    obtain ⟨r6, h1, e1, a1, b1, H1, s1⟩ := dealt_ok (lots := 6) H hc (by omega) (by decide) (by decide)
    have q1 : sSet 2 (cFn f_l_dealt (aCons (cVar 0) (aCons (cC (.int 6)) aNil))) [some (.ref n), some (.int ((k + 1 : Nat) : Int)), none, none] h = .nx [some (.ref n), some (.int ((k + 1 : Nat) : Int)), some (.int r6), none] h1 := sSet_eq (i := 2) ((cFn_eq (A := aCons (cVar 0) (aCons (cC (.int 6)) aNil)) rfl).trans e1)
    let ε : AEnv := [some (.ref n), some (.int ((k + 1 : Nat) : Int)), some (.int r6), none]
    have z0 : tVal (cBin opEq2 (cVar 1) (cC (.int 0))) ε h1 = .ok false h1 := by
      refine tVal_eq ((cBin_eq rfl rfl).trans (eq2_int.trans ?_))
      rw [decide_eq_false (by omega)]
    have z1 : tVal (cBin opLt (cVar 2) (cC (.int 2))) ε h1 = .ok (decide (r6 < 2)) h1 := tVal_eq ((cBin_eq rfl rfl).trans rfl)
    by_cases c2 : r6 < 2
    · rw [decide_eq_true c2] at z1
      obtain ⟨d, h2, e2, g2, H2, s2⟩ := leaf_drawn H1 (by omega) (by omega)
      refine ⟨d, h2, _, runB_ret rfl ((sSeq_nx q1).trans (sSeq_ret ((sIf_t ((tOr_f z0).trans z1)).trans (sRet_eq ((cFn_eq (A := aCons (cVar 0) aNil) rfl).trans e2))))), lv g2, H2, by omega, by omega, s1.trans s2⟩
    rw [decide_eq_false c2] at z1
    have z2 : tVal (cBin opEq2 (cVar 2) (cC (.int 5))) ε h1 = .ok (decide (r6 = 5)) h1 := tVal_eq ((cBin_eq rfl rfl).trans eq2_int)
    by_cases c5 : r6 = 5
    · rw [decide_eq_true c5] at z2
      obtain ⟨h2, s, p2, ls, e2, k2⟩ := alike_ok (h := h1)
      have H2 := Hand.ofPre p2 H1
      have lt1 := H1.lt
      obtain ⟨d, h3, e3, hd, H3, s3⟩ := pick_ok (ds := looks) H2 (by omega) (by omega) k2 (by omega) (by omega) (by simp [looks, alikes]) (Nat.lt_of_le_of_lt (Nat.le_of_ble_eq_true rfl : looks.length ≤ 6) (by decide))
      have pk : cFn f_l_pick (aCons (cVar 0) (aCons (cFn f_l_alike_looks aNil) aNil)) ε h1 = .ok d h3 := (cFn_eq (f := f_l_pick) (aCons_eq (F := cVar 0) rfl (aCons_eq ((cFn_eq aNil_eq).trans e2) aNil_eq))).trans e3
      refine ⟨d, h3, _, runB_ret rfl ((sSeq_nx q1).trans ((sSeq_nx ((sIf_f ((tOr_f z0).trans z1)).trans rfl)).trans (sSeq_ret ((sIf_t z2).trans (sRet_eq pk))))), lk2 hd, H3, by omega, by omega, s1.trans ((Step.ofPre p2).trans s3)⟩
    rw [decide_eq_false c5] at z2
    obtain ⟨r5, h2, e2, a2, b2, H2, s2⟩ := dealt_ok (lots := 5) H1 (by omega) (by omega) (by decide) (by decide)
    have lt2 := H2.lt
    have hi : iRange1 (cFn f_l_dealt (aCons (cVar 0) (aCons (cC (.int 5)) aNil))) ε h1 = .ok (.fix ((List.range r5.toNat).map fun (i : Nat) => .int (0 + i))) h2 := by
      have e : cFn f_l_dealt (aCons (cVar 0) (aCons (cC (.int 5)) aNil)) ε h1 = .ok (.int r5) h2 := (cFn_eq (A := aCons (cVar 0) (aCons (cC (.int 5)) aNil)) (ε := ε) (h := h1) rfl).trans e2
      unfold iRange1
      rw [e, Res.bind_ok]
      simp only
      rw [if_pos (by rw [Bool.and_eq_true, decide_eq_true_eq, decide_eq_true_eq]; constructor <;> omega)]
    obtain ⟨acc, h3, e3, c3, la, ga, H3, q31, q32, s3, g3⟩ := cComp_inv (g := gN 3) (t := tYes') (F := cFn (f_l_drawn f) (aCons (cVar 0) (aCons (cBin opSub (cVar 1) (cC (.int 1))) aNil))) (own := [3]) hi
      (fun i acc h => ∃ c' : Int, acc.length = i ∧ (∀ d ∈ acc, V (k + 2) d ∧ cn (k + 2) d ≤ dc k) ∧ Hand h n m c' ∧ c + 2 ≤ c' ∧ c' ≤ c + 2 + cst k * i ∧ Mi.Step n m h2 h ∧ h[h2.length]? = some (.lst acc)) r5.toNat (by simp [AIt.len]) (by rw [sizeLine_eq]; omega)
      (by rintro i acc h ⟨_, _, _, _, _, _, _, g⟩; exact g) (by rintro i acc h ⟨_, l, _⟩; omega)
      ⟨c + 2, rfl, by simp, (by have := H2.app (os := [.lst []]); rw [show c + 1 + 1 = c + 2 by omega] at this; exact this), by omega, by omega, .app, get_last⟩
      (by
        rintro i acc h' hi ⟨c', l, ga, H', q1, q2, st, g⟩
        have i4 : i ≤ 3 := by omega
        have mi : cst k * i ≤ cst k * 3 := Nat.mul_le_mul_left _ i4
        obtain ⟨d, h4, c4, e4, g4, H4, q3, q4, s4⟩ := ih f h' c' (by omega) (by omega) H' (by omega) (by omega)
        have ne1 : h2.length ≠ n := by omega
        have ne2 : h2.length ≠ m := by omega
        have g' : h4[h2.length]? = some (.lst acc) := (s4.keep _ ne1 ne2 (List.getElem?_eq_some_iff.mp g).1).trans g
        have sub : cBin opSub (cVar 1) (cC (.int 1)) [some (.ref n), some (.int ((k + 1 : Nat) : Int)), some (.int r6), some (.int (0 + (i : Int)))] h' = .ok (.int k) h' := by
          refine (cBin_eq rfl rfl).trans ?_
          have e : (((k + 1 : Nat) : Int) - 1) = k := by omega
          show Res.ok (D.int (((k + 1 : Nat) : Int) - 1)) h' = _
          rw [e]
        refine ⟨.int (0 + (i : Int)), [some (.ref n), some (.int ((k + 1 : Nat) : Int)), some (.int r6), some (.int (0 + (i : Int)))], true, h', by simp [AIt.item, hi], rfl, rfl, .inr ⟨rfl, d, h4, (cFn_eq (aCons_eq (F := cVar 0) rfl (aCons_eq sub aNil_eq))).trans e4, g', c4, by rw [List.length_append, l]; rfl, fun x hx => ?_, H4.set ne1 ne2, by omega, by rw [Int.natCast_add, Int.mul_add]; omega, step_new (st.trans s4) (Nat.le_refl _), List.getElem?_set_self (List.getElem?_eq_some_iff.mp g').1⟩⟩
        rcases List.mem_append.mp hx with hx | hx
        · exact ga x hx
        · rw [List.mem_singleton.mp hx]; exact g4)
      (by rintro acc h _; rfl)
    have l4 : acc.length ≤ 4 := by omega
    have mi : (cst k : Int) * (r5.toNat : Int) ≤ cst k * 4 := Int.mul_le_mul_of_nonneg_left (by omega) (by omega)
    have tp : cCall fTuple (aCons (cComp (iRange1 (cFn f_l_dealt (aCons (cVar 0) (aCons (cC (.int 5)) aNil)))) (gN 3) tYes' (cFn (f_l_drawn f) (aCons (cVar 0) (aCons (cBin opSub (cVar 1) (cC (.int 1))) aNil))) [3]) aNil) ε h1 = .ok (.tup acc) h3 := (cCall_eq (aCons_eq e3 aNil_eq)).trans (by simp only [fTuple, g3])
    refine ⟨.tup [.str "row", .tup acc], h3, c3, runB_ret rfl ((sSeq_nx q1).trans ((sSeq_nx ((sIf_f ((tOr_f z0).trans z1)).trans rfl)).trans ((sSeq_nx ((sIf_f z2).trans rfl)).trans (sRet_eq (cTup_eq (aCons_eq rfl (aCons_eq tp aNil_eq)) (by rw [sizeLine_eq]; exact Nat.le_of_ble_eq_true rfl)))))), rowV l4 ga, H3, by omega, by omega, s1.trans (s2.trans s3)⟩
end K04

namespace K04
open Mi L2 PySem PySem.Spec PyProof.Rows
theorem chainV {n : Nat} {x : D} (w : V n x) : ∀ j : Nat, V (n + j) (chainD j x) ∧ cn (n + j) (chainD j x) = cn n x + j
  | 0 => ⟨w, rfl⟩
  | j + 1 => by
    obtain ⟨a, b⟩ := chainV w j
    refine ⟨.row (n := n + j) (ds := [chainD j x]) (by simp) fun d hd => by rw [List.mem_singleton.mp hd]; exact a, ?_⟩
    show cn (n + j + 1) (rowT [chainD j x]) = _
    rw [cn_row]
    simp only [List.map_cons, List.map_nil, List.sum_cons, List.sum_nil, b]
    omega
theorem wideV {n j : Nat} {x : D} (hj : j ≤ 40) (w : V n x) : V (n + 1) (.tup [.str "row", .tup (List.replicate j x)]) ∧ cn (n + 1) (.tup [.str "row", .tup (List.replicate j x)]) = 1 + j * cn n x := by
  refine ⟨.row (by rw [List.length_replicate]; exact hj) fun d hd => by rw [List.eq_of_mem_replicate hd]; exact w, ?_⟩
  show cn (n + 1) (rowT (List.replicate j x)) = _
  rw [cn_row, List.map_replicate, List.sum_replicate_nat]
theorem mul_one {F : EF} {ε : AEnv} {h h1 : AH} {x : D} {j : Nat} (e : F ε h = .ok x h1) (h1' : 2 ≤ j) (h2' : j ≤ 1000) : cBin opMul (cTup (aCons F aNil)) (cC (.int j)) ε h = .ok (.tup (List.replicate j x)) h1 := by
  have t : cTup (aCons F aNil) ε h = .ok (.tup [x]) h1 := cTup_eq (aCons_eq e aNil_eq) (by rw [sizeLine_eq]; exact Nat.le_of_ble_eq_true rfl)
  refine (cBin_eq t rfl).trans ?_
  have c : (!([x] : List D).isEmpty && decide ((2 : Int) ≤ j) && decide ((j : Int) ≤ 1000) && decide (([x] : List D).length ≤ 1000)) = true := by
    rw [decide_eq_true (show (2 : Int) ≤ j by omega), decide_eq_true (show (j : Int) ≤ 1000 by omega)]
    rfl
  have fl : ∀ n : Nat, (List.replicate n [x]).flatten = List.replicate n x := fun n => by
    induction n with
    | zero => rfl
    | succ n ih => rw [List.replicate_succ, List.flatten_cons, ih]; rfl
  simp only [opMul]
  rw [if_pos c, Int.toNat_natCast, fl]
theorem wideE {F : EF} {ε : AEnv} {h : AH} {x : D} {j : Nat} (e : F ε h = .ok x h) (h1 : 2 ≤ j) (h2 : j ≤ 1000) : cFn f_l_wide (aCons F (aCons (cC (.int j)) aNil)) ε h = .ok (.tup [.str "row", .tup (List.replicate j x)]) h := (cFn_eq (aCons_eq e rfl)).trans (wide_ok h1 h2)
theorem chainE {F : EF} {ε : AEnv} {h : AH} {x : D} {j : Nat} (e : F ε h = .ok x h) (h2 : j ≤ 1000) : cFn f_l_chain (aCons F (aCons (cC (.int j)) aNil)) ε h = .ok (chainD j x) h := (cFn_eq (aCons_eq e rfl)).trans (chain_ok h2)
abbrev wideD (j : Nat) (x : D) : D := .tup [.str "row", .tup (List.replicate j x)]
theorem greatest_ok {h : AH} {n m : Nat} {c : Int} (H : Hand h n m c) (hc : 0 ≤ c) (hc2 : c < 40000) : ∃ (s : Nat) (h' : AH) (ds : List D), f_l_greatest [.ref n] h = .ok (.ref s) h' ∧ h'[s]? = some (.lst ds) ∧ ds.length = 4 ∧ (∀ d ∈ ds, V 8 d ∧ cn 8 d ≤ 200) ∧ Hand h' n m (c + 12) ∧ Mi.Step n m h h' ∧ h.length ≤ s := by
  have z : ∀ {j : Nat}, j ≤ 1000 → j ≤ sizeLine := fun q => by rw [sizeLine_eq]; omega
  obtain ⟨x, h1, e1, g1, H1, s1⟩ := leaf_drawn H hc (by omega)
  obtain ⟨y, h2, e2, g2, H2, s2⟩ := leaf_drawn H1 (by omega) (by omega)
  have q1 := sPar2_eq (i := 2) (j := 3) (ε := [some (.ref n), none, none, none]) ((cFn_eq (A := aCons (cVar 0) aNil) rfl).trans e1) ((cFn_eq (A := aCons (cVar 0) aNil) rfl).trans e2)
  let ε : AEnv := [some (.ref n), none, some x, some y]
  let L3 : List D := [chainD 8 x, wideD 40 x, chainD 7 (wideD 40 x)]
  have q2 : sSet 1 (cLst (aCons (cFn f_l_chain (aCons (cVar 2) (aCons (cC (.int 8)) aNil))) (aCons (cFn f_l_wide (aCons (cVar 2) (aCons (cC (.int 40)) aNil))) (aCons (cFn f_l_chain (aCons (cFn f_l_wide (aCons (cVar 2) (aCons (cC (.int 40)) aNil))) (aCons (cC (.int 7)) aNil))) aNil)))) ε h2 = .nx [some (.ref n), some (.ref h2.length), some x, some y] (h2 ++ [.lst L3]) :=
    sSet_eq (i := 1) (cLst_eq (ds := L3) (aCons_eq (chainE (j := 8) rfl (by omega)) (aCons_eq (wideE (j := 40) rfl (by omega) (by omega)) (aCons_eq (chainE (j := 7) (wideE (j := 40) rfl (by omega) (by omega)) (by omega)) aNil_eq))) (z (Nat.le_of_ble_eq_true rfl)))
  let ε2 : AEnv := [some (.ref n), some (.ref h2.length), some x, some y]
  let h3 : AH := h2 ++ [.lst L3]
  let B : List D := List.replicate 5 (wideD 38 x) ++ List.replicate 4 y
  have b1 : cBin opAdd (cBin opMul (cTup (aCons (cFn f_l_wide (aCons (cVar 2) (aCons (cC (.int 38)) aNil))) aNil)) (cC (.int 5))) (cBin opMul (cTup (aCons (cVar 3) aNil)) (cC (.int 4))) ε2 h3 = .ok (.tup B) h3 := by
    refine (cBin_eq (mul_one (j := 5) (wideE (j := 38) rfl (by omega) (by omega)) (by omega) (by omega)) (mul_one (F := cVar 3) (j := 4) rfl (by omega) (by omega))).trans ?_
    simp only [opAdd]
    rw [if_pos (by simp only [List.length_replicate]; exact z (by omega))]
  have b2 : cLst (aCons (cTup (aCons (cC (.str ("row" : Str))) (aCons (cBin opAdd (cBin opMul (cTup (aCons (cFn f_l_wide (aCons (cVar 2) (aCons (cC (.int 38)) aNil))) aNil)) (cC (.int 5))) (cBin opMul (cTup (aCons (cVar 3) aNil)) (cC (.int 4)))) aNil))) aNil) ε2 h3 = .ok (.ref h3.length) (h3 ++ [.lst [.tup [.str "row", .tup B]]]) :=
    cLst_eq (aCons_eq (cTup_eq (aCons_eq rfl (aCons_eq b1 aNil_eq)) (z (Nat.le_of_ble_eq_true rfl))) aNil_eq) (z (Nat.le_of_ble_eq_true rfl))
  let h4 : AH := h3 ++ [.lst [.tup [.str "row", .tup B]]]
  let ds : List D := L3 ++ [.tup [.str "row", .tup B]]
  have ad : opAdd (.ref h2.length) (.ref h3.length) h4 = .ok (.ref h4.length) (h4 ++ [.lst ds]) := by
    have k1 : h4[h2.length]? = some (.lst L3) := get_old get_last
    have k2 : h4[h3.length]? = some (.lst [.tup [.str "row", .tup B]]) := get_last
    simp only [opAdd, k1, k2]
    rw [if_pos (z (Nat.le_of_ble_eq_true rfl))]
  have st : Mi.Step n m h (h4 ++ [.lst ds]) := s1.trans (s2.trans (Step.app.trans (Step.app.trans Step.app)))
  refine ⟨h4.length, h4 ++ [.lst ds], ds, runB_ret rfl ((sSeq_nx q1).trans ((sSeq_nx q2).trans (sRet_eq ((cBin_eq (F := cVar 1) rfl b2).trans ad)))), get_last, rfl, fun d hd => ?_, ?_, st, ?_⟩
  · have vx : ∀ n, V n x ∧ cn n x = 1 := fun n => ⟨.leaf g1.lf, cn_leaf g1.lf⟩
    have vy : ∀ n, V n y ∧ cn n y = 1 := fun n => ⟨.leaf g2.lf, cn_leaf g2.lf⟩
    simp only [ds, L3, List.cons_append, List.nil_append, List.mem_cons, List.not_mem_nil, or_false] at hd
    rcases hd with rfl | rfl | rfl | rfl
    · have := chainV (vx 0).1 8
      rw [(vx 0).2] at this
      have e : cn 8 (chainD 8 x) = 9 := this.2
      exact ⟨this.1, by rw [e]; decide⟩
    · have := wideV (j := 40) (by omega) (vx 0).1
      rw [(vx 0).2] at this
      obtain ⟨q1, q2⟩ := this.1.mono (m := 8) (by omega)
      have e : cn 8 (wideD 40 x) = 41 := q2.trans this.2
      exact ⟨q1, by rw [e]; decide⟩
    · have w := wideV (j := 40) (by omega) (vx 0).1
      rw [(vx 0).2] at w
      have := chainV w.1 7
      have e : cn 8 (chainD 7 (wideD 40 x)) = 48 := this.2.trans (by rw [w.2])
      exact ⟨this.1, by rw [e]; decide⟩
    · have w := wideV (j := 38) (by omega) (vx 0).1
      rw [(vx 0).2] at w
      have hB : V 2 (rowT B) ∧ cn 2 (rowT B) ≤ 200 := by
        refine ⟨.row (by simp [B]) fun d hd => ?_, ?_⟩
        · rcases List.mem_append.mp hd with hd | hd
          · rw [List.eq_of_mem_replicate hd]; exact w.1
          · rw [List.eq_of_mem_replicate hd]; exact (vy 1).1
        · rw [cn_row]
          simp only [B, List.map_append, List.map_replicate, List.sum_append, List.sum_replicate_nat, w.2, (vy 1).2]
          decide
      obtain ⟨q1, q2⟩ := hB.1.mono (m := 8) (by omega)
      exact ⟨q1, by rw [q2]; exact hB.2⟩
  · have := ((H2.app (os := [.lst L3])).app (os := [.lst [.tup [.str "row", .tup B]]])).app (os := [.lst ds])
    rw [show c + 6 + 6 = c + 12 by omega] at this
    exact this
  · have l1 := s1.len
    have l2 := s2.len
    have e3 : h3.length = h2.length + 1 := by simp [h3]
    have e4 : h4.length = h3.length + 1 := by simp [h4]
    omega
/-! ### texts of signs -/
def every : List Nat := [32, 33, 34, 35, 36, 38, 40, 41, 42, 43, 44, 45, 46, 47, 48, 49, 50, 51, 52, 53, 54, 55, 56, 57, 58, 59, 60, 61, 62, 63, 64, 65, 66, 67, 88, 89, 90, 91, 93, 94, 95, 96, 97, 98, 99, 120, 121, 122, 123, 124, 125, 126]
theorem every_S : (" !\"#$&()*+,-./0123456789:;<=>?@ABCXYZ[]^_`abcxyz{|}~" : Str) = S every := by decide +kernel
theorem every_ok : ∀ c ∈ every, okc c := by
  have : (every.all fun c => decide (32 ≤ c) && decide (c ≤ 126) && decide (c ≠ 37) && decide (c ≠ 39)) = true := by decide +kernel
  intro c hc
  have q := List.all_eq_true.mp this c hc
  simp only [Bool.and_eq_true, decide_eq_true_eq] at q
  exact ⟨q.1.1.1, q.1.1.2, q.1.2, q.2⟩
theorem sign_drawn {h : AH} {n m : Nat} {c : Int} (H : Hand h n m c) (hc : 0 ≤ c) (hc2 : c < 100000) : ∃ (x : Nat) (h' : AH), f_l_pick [.ref n, .str (S every)] h = .ok (.str (S [x])) h' ∧ okc x ∧ Hand h' n m (c + 1) ∧ Mi.Step n m h h' := by
  obtain ⟨r, h', e, a, b, H', s'⟩ := dealt_ok (lots := 52) H hc (by omega) (by decide) (by decide)
  obtain ⟨k, rfl⟩ := Int.eq_ofNat_of_zero_le a
  have hk : k < every.length := by
    have : every.length = 52 := rfl
    omega
  have ek : every[k]? = some every[k] := List.getElem?_eq_getElem hk
  refine ⟨every[k], h', runB_ret rfl (sRet_eq ((cBin_eq (F := cVar 1) (x := .str (S every)) rfl ?_).trans (sgn h' (by decide) ek))), every_ok _ (List.getElem_mem hk), H', s'⟩
  have l : cCall fLen (aCons (cVar 1) aNil) [some (.ref n), some (.str (S every))] h = .ok (.int 52) h := rfl
  exact (cFn_eq (aCons_eq (F := cVar 0) rfl (aCons_eq l aNil_eq))).trans e
theorem signs_drawn {h : AH} {n m : Nat} {c : Int} (H : Hand h n m c) (hc : 0 ≤ c) (hc2 : c < 50000) : ∃ (d : D) (h' : AH) (c' : Int), f_l_signs [.ref n] h = .ok d h' ∧ Lf d ∧ Hand h' n m c' ∧ c ≤ c' ∧ c' ≤ c + 22 ∧ Mi.Step n m h h' := by
  have q1 : sSet 1 (cC (.str (" !\"#$&()*+,-./0123456789:;<=>?@ABCXYZ[]^_`abcxyz{|}~" : Str))) [some (.ref n), none, none] h = .nx [some (.ref n), some (.str (S every)), none] h := by
    rw [every_S]
    exact sSet_eq rfl
  let ε : AEnv := [some (.ref n), some (.str (S every)), none]
  obtain ⟨r, h2, e2, a2, b2, H2, s2⟩ := dealt_ok (lots := 21) H hc (by omega) (by decide) (by decide)
  have lt2 := H2.lt
  have hi : iRange1 (cFn f_l_dealt (aCons (cVar 0) (aCons (cC (.int 21)) aNil))) ε h = .ok (.fix ((List.range r.toNat).map fun (i : Nat) => .int (0 + i))) h2 := by
    have e : cFn f_l_dealt (aCons (cVar 0) (aCons (cC (.int 21)) aNil)) ε h = .ok (.int r) h2 := (cFn_eq (A := aCons (cVar 0) (aCons (cC (.int 21)) aNil)) (ε := ε) (h := h) rfl).trans e2
    unfold iRange1
    rw [e, Res.bind_ok]
    simp only
    rw [if_pos (by rw [Bool.and_eq_true, decide_eq_true_eq, decide_eq_true_eq]; constructor <;> omega)]
  obtain ⟨acc, h3, e3, cs, rfl, la, ok3, c3, H3, q31, q32, s3, g3⟩ := cComp_inv (g := gN 2) (t := tYes') (F := cFn f_l_pick (aCons (cVar 0) (aCons (cVar 1) aNil))) (own := [2]) hi
    (fun i acc h => ∃ cs : List Nat, acc = cs.map (fun x => D.str (S [x])) ∧ cs.length = i ∧ (∀ x ∈ cs, okc x) ∧ ∃ c' : Int, Hand h n m c' ∧ c ≤ c' ∧ c' ≤ c + 1 + i ∧ Mi.Step n m h2 h ∧ h[h2.length]? = some (.lst acc)) r.toNat (by simp [AIt.len]) (by rw [sizeLine_eq]; omega)
    (by rintro i acc h ⟨_, _, _, _, _, _, _, _, _, g⟩; exact g) (by rintro i acc h ⟨cs, rfl, l, _⟩; rw [List.length_map]; omega)
    ⟨[], rfl, rfl, by simp, c + 1, H2.app, by omega, by omega, .app, get_last⟩
    (by
      rintro i acc h' hi ⟨cs, rfl, l, ok, c', H', q1, q2, st, g⟩
      obtain ⟨x, h4, e4, ox, H4, s4⟩ := sign_drawn H' (by omega) (by omega)
      have ne1 : h2.length ≠ n := by omega
      have ne2 : h2.length ≠ m := by omega
      have g' : h4[h2.length]? = some (.lst (cs.map fun x => D.str (S [x]))) := (s4.keep _ ne1 ne2 (List.getElem?_eq_some_iff.mp g).1).trans g
      refine ⟨.int (0 + (i : Int)), [some (.ref n), some (.str (S every)), some (.int (0 + (i : Int)))], true, h', by simp [AIt.item, hi], rfl, rfl, .inr ⟨rfl, .str (S [x]), h4, (cFn_eq (A := aCons (cVar 0) (aCons (cVar 1) aNil)) rfl).trans e4, g', cs ++ [x], by rw [List.map_append]; rfl, by rw [List.length_append, l]; rfl, fun y hy => ?_, c' + 1, H4.set ne1 ne2, by omega, by omega, step_new (st.trans s4) (Nat.le_refl _), List.getElem?_set_self (List.getElem?_eq_some_iff.mp g').1⟩⟩
      rcases List.mem_append.mp hy with hy | hy
      · exact ok y hy
      · rw [List.mem_singleton.mp hy]; exact ox)
    (by rintro acc h _; rfl)
  have jn : cMeth "str" mJoin (cC (.str ("" : Str))) (aCons (cComp (iRange1 (cFn f_l_dealt (aCons (cVar 0) (aCons (cC (.int 21)) aNil)))) (gN 2) tYes' (cFn f_l_pick (aCons (cVar 0) (aCons (cVar 1) aNil))) [2]) aNil) ε h = .ok (.str (S cs)) h3 := by
    refine (cMeth_eq (h1 := h) (h2 := h3) (d := .str "") (ds := [.ref h2.length]) rfl rfl (aCons_eq e3 aNil_eq)).trans ?_
    have os : ∀ xs : List Nat, omap asStr (xs.map fun x => D.str (S [x])) = some ((xs.map fun x => [x]).map S) := fun xs => by
      induction xs with
      | nil => rfl
      | cons a r ih3 => simp only [List.map_cons, omap, asStr, ih3]
    have jl : ∀ xs : List Nat, TL.joinL [] (xs.map fun x => [x]) = xs := fun xs => by
      induction xs with
      | nil => rfl
      | cons a r ih3 =>
        cases r with
        | nil => rfl
        | cons b q =>
          show [a] ++ ([] ++ TL.joinL [] ((b :: q).map fun x => [x])) = _
          rw [ih3]
          rfl
    have j : Txt.join ("" : Str) ((cs.map fun x => [x]).map S) = S cs := by
      rw [show ("" : Str) = S [] from by decide +kernel]
      exact (SX.join_S [] (cs.map fun x => [x])).trans (by rw [jl])
    have sm : (((cs.map fun x => [x]).map S).map (·.length)).sum = cs.length := by
      clear j jl os e3 g3 la ok3
      induction cs with
      | nil => rfl
      | cons a r ih => simp only [List.map_cons, List.sum_cons, List.length_cons] at ih ⊢; rw [ih, len_S]; simp; omega
    have l0 : ((("" : String) : Str)).length = 0 := by decide +kernel
    simp only [mJoin, seqD, g3, os]
    rw [if_pos (by rw [sm, l0]; omega), j]
  exact ⟨.str (S cs), h3, c3, runB_ret rfl ((sSeq_nx q1).trans (sRet_eq jn)), .str cs (by omega) ok3, H3, q31, by omega, s2.trans s3⟩
end K04

namespace K04
open Mi L2 PySem PySem.Spec PyProof.Rows
theorem sm_S {h : AH} {l : List Nat} {n : Nat} (hn : l.length ≤ n) (g : ∀ c ∈ l, c < 127) : Sm h 0 (4 * n + 2) (.str (S l)) := by
  have a : Asc n (S l) := asc_S hn fun c hc => by have := g c hc; omega
  refine ⟨.str (S l), rfl, by simp [PyData.showable, a.ok], ?_⟩
  rw [PyData.shown]
  have q := reprAscii (x := S l) g
  have e : (reprText (S l)).cps.toList.length = (reprText (S l)).length := Array.length_toList
  have e2 : (S l).length = l.length := len_S l
  rw [e2] at q
  exact Nat.le_trans q (by omega)
theorem sm_int {h : AH} {z : Int} (hz : z.natAbs ≤ 10 ^ 15) : Sm h 0 17 (.int z) := by
  have sz : z.natAbs.log2 < 1920 := by
    have : z.natAbs < 2 ^ 60 := by omega
    by_cases h0 : z.natAbs = 0
    · rw [h0]; decide
    · have := (Nat.log2_lt h0).mpr this
      omega
  refine ⟨.int z, rfl, ?_, ?_⟩
  · simp [PyData.showable]
    try omega
  · rw [PyData.shown]
    show (Str.ofString (toString z)).length ≤ 17
    rw [it_str, len_S]
    exact it_len hz
theorem okc_lt {c : Nat} (h : okc c) : c < 127 := by have := h.2.1; omega
theorem nm_lt {l : List Nat} (h : nm l) : ∀ c ∈ l, c < 127 := fun c hc => by have := (h.2.2 c hc).2; omega
theorem sm_leaf {h : AH} {d : D} (w : Lf d) : Sm h 2 120 d := by
  cases w with
  | non => exact ⟨.none, rfl, by simp [PyData.showable], by decide +kernel⟩
  | bl b => exact (sm_bl b).mono (by omega) (by omega)
  | int z hz => exact (sm_int hz).mono (by omega) (by omega)
  | str l h1 h2 => exact (sm_S h1 fun c hc => okc_lt (h2 c hc)).mono (by omega) (by omega)
  | thing k hk =>
    refine (Sm.tup (k := 0) (L := 30) (ds := [.str "thing", .int k]) fun d hd => ?_).mono (by omega) (by simp)
    simp only [List.mem_cons, List.not_mem_nil, or_false] at hd
    rcases hd with rfl | rfl
    · rw [show ("thing" : Str) = S [116, 104, 105, 110, 103] from by decide +kernel]
      exact (sm_S (n := 5) (by simp) (by decide)).mono (by omega) (by omega)
    · exact (sm_int (by omega)).mono (by omega) (by omega)
  | dk b m n hm hn =>
    refine (Sm.tup (k := 0) (L := 34) (ds := [.str (dkw b), .str (S m), .str (S n)]) fun d hd => ?_).mono (by omega) (by simp)
    simp only [List.mem_cons, List.not_mem_nil, or_false] at hd
    rcases hd with rfl | rfl | rfl
    · rw [show dkw b = S (if b = true then [100, 101, 101, 100] else [107, 105, 110, 100]) from by cases b <;> decide +kernel]
      exact (sm_S (n := 4) (by cases b <;> simp) (by cases b <;> decide)).mono (by omega) (by omega)
    · exact (sm_S hm.2.1 (nm_lt hm)).mono (by omega) (by omega)
    · exact (sm_S hn.2.1 (nm_lt hn)).mono (by omega) (by omega)
theorem cn_pos {n : Nat} {d : D} : 1 ≤ cn n d := by
  unfold cn
  split <;> omega
theorem sm_V {h : AH} {n : Nat} {d : D} (w : V n d) : Sm h (2 * n + 2) (122 * cn n d - 2) d := by
  induction w with
  | leaf hl => rw [cn_leaf hl]; exact (sm_leaf hl).mono (by omega) (by omega)
  | row h1 h2 ih =>
    rename_i n ds
    have a := Sm.tups ih
    have e : (ds.map fun d => 122 * cn n d - 2).sum + ds.length * 2 = 122 * (ds.map (cn n)).sum := by
      clear ih h1 h2 a
      induction ds with
      | nil => rfl
      | cons x r ih =>
        have := cn_pos (n := n) (d := x)
        simp only [List.map_cons, List.sum_cons, List.length_cons]
        omega
    have r : Sm h 0 14 (.str "row") := by
      rw [show ("row" : Str) = S [114, 111, 119] from by decide +kernel]
      exact sm_S (n := 3) (by simp) (by decide)
    have b := Sm.tups (k := 2 * n + 2 + 1) (ds := [.str "row", .tup ds]) (f := fun d => match d with | .str _ => 14 | _ => (ds.map fun d => 122 * cn n d - 2).sum + ds.length * 2 + 3) (h := h) (by
      intro d hd
      simp only [List.mem_cons, List.not_mem_nil, or_false] at hd
      rcases hd with rfl | rfl
      · exact r.mono (by omega) (Nat.le_refl _)
      · exact a)
    refine b.mono (by omega) ?_
    rw [cn_row]
    simp only [List.map_cons, List.map_nil, List.sum_cons, List.sum_nil, List.length_cons, List.length_nil]
    omega
theorem sm_ok {h : AH} {d : D} (w : V 8 d) (hc : cn 8 d ≤ 200) : Sm h 18 25000 d := (sm_V w).mono (by omega) (by omega)
theorem tx_lt {n : Nat} {d : D} (w : V n d) : ∀ c ∈ tx n d, c < 127 := by
  have leaf : ∀ {d : D}, Lf d → ∀ c ∈ lt d, c < 127 := fun {d} w => by
    have num : ∀ (z : Int), ∀ c ∈ it z, c < 127 := fun z c hc => by
      cases z with
      | ofNat k => have := (digit_of hc).2; omega
      | negSucc k =>
        rcases List.mem_cons.mp hc with rfl | hc
        · decide
        · have := (digit_of hc).2; omega
    cases w with
    | non => decide
    | bl b => cases b <;> decide
    | int z _ => exact num z
    | str l _ h =>
      intro c hc
      rcases List.mem_cons.mp hc with rfl | hc
      · decide
      · rcases List.mem_append.mp hc with hc | hc
        · exact okc_lt (h c hc)
        · rw [List.mem_singleton.mp hc]; decide
    | thing k _ =>
      intro c hc
      rcases List.mem_cons.mp hc with rfl | hc
      · decide
      · exact num k c hc
    | dk b m n hm hn =>
      intro c hc
      rcases List.mem_append.mp hc with hc | hc
      · exact nm_lt hm c hc
      · rcases List.mem_cons.mp hc with rfl | hc
        · split <;> decide
        · exact nm_lt hn c hc
  induction w with
  | leaf h => rw [tx_leaf h]; exact leaf h
  | row h1 h2 ih =>
    rename_i n ds
    rw [tx_row]
    have key : ∀ {xs : List (List Nat)}, (∀ x ∈ xs, ∀ c ∈ x, c < 127) → ∀ c ∈ sepL xs, c < 127 := by
      intro xs
      induction xs with
      | nil => intro _ c hc; cases hc
      | cons a r ih2 =>
        intro g c hc
        cases r with
        | nil => exact g a (by simp) c hc
        | cons b q =>
          rcases List.mem_append.mp hc with hc | hc
          · exact g a (by simp) c hc
          · rcases List.mem_cons.mp hc with rfl | hc
            · decide
            · exact ih2 (fun x hx => g x (List.mem_cons_of_mem _ hx)) c hc
    intro c hc
    rcases List.mem_cons.mp hc with rfl | hc
    · decide
    · rcases List.mem_append.mp hc with hc | hc
      · refine key (fun x hx => ?_) c hc
        obtain ⟨d, hd, rfl⟩ := List.mem_map.mp hx
        exact ih d hd
      · rw [List.mem_singleton.mp hc]; decide
theorem repr_ev {F : EF} {ε : AEnv} {h h1 : AH} {d : D} {s : Str} (e : F ε h = .ok d h1) (r : reprX d h1 = some s) : cCall fRepr2 (aCons F aNil) ε h = .ok (.str s) h1 := by
  refine (cCall_eq (aCons_eq e aNil_eq)).trans ?_
  simp only [fRepr2, r]
theorem right_ok {V' : FV} {d : D} {h : AH} (w : V 8 d) (hc : cn 8 d ≤ 200) : ∃ h', h <+: h' ∧ f_l_right V' [d] h = .ok (.bl true) h' := by
  obtain ⟨s, es⟩ := (sm_ok (h := h) w hc).repr (by omega) (by omega)
  obtain ⟨h1, p1, e1⟩ := text_ok w (h := h) (m := 30) (by omega) (by omega)
  let X : D := .str (S (tx 8 d))
  have q1 : sPar2 3 4 (cCall fRepr2 (aCons (cVar 0) aNil)) (cFn (f_l_text_of 30) (aCons (cVar 0) aNil)) [some d, none, none, none, none] h = .nx [some d, none, none, some (.str s), some X] h1 :=
    sPar2_eq (i := 3) (j := 4) (repr_ev (F := cVar 0) rfl es) ((cFn_eq (A := aCons (cVar 0) aNil) rfl).trans e1)
  let ε : AEnv := [some d, none, none, some (.str s), some X]
  obtain ⟨h2, p2, e2⟩ := show_ok w (h := h1) (m := 30) (by omega) (by omega)
  obtain ⟨h3, p3, e3⟩ := show_ok w (h := h2) (m := 30) (by omega) (by omega)
  obtain ⟨h4, p4, e4⟩ := show_ok w (h := h3) (m := 30) (by omega) (by omega)
  have sl : ∀ {j : Nat}, j ≤ 1000 → j ≤ sizeLine := fun q => by rw [sizeLine_eq]; omega
  have q2 := sSet_eq (i := 1) (ε := ε) (h := h1) (cLst_eq (A := aCons (cFn (f_show_worth 30) (aCons (cVar 0) aNil)) (aCons (cFn (fun es h => (f_show_worth 30) (pm0 es) h) (aCons (cVar 0) aNil)) (aCons (cFn (f_show_worth 30) (aCons (cVar 0) aNil)) aNil))) (ds := [X, X, X])
    (aCons_eq ((cFn_eq (A := aCons (cVar 0) aNil) rfl).trans e2) (aCons_eq ((cFn_eq (A := aCons (cVar 0) aNil) rfl).trans e3) (aCons_eq ((cFn_eq (A := aCons (cVar 0) aNil) rfl).trans e4) aNil_eq))) (sl (Nat.le_of_ble_eq_true rfl)))
  let h5 : AH := h4 ++ [.lst [X, X, X]]
  let ε2 : AEnv := [some d, some (.ref h4.length), none, some (.str s), some X]
  obtain ⟨h6, p6, e6⟩ := read_ok (V' := V') w hc (h := h5)
  obtain ⟨h7, p7, e7⟩ := read_ok (V' := V') w hc (h := h6)
  have q3 := sSet_eq (i := 2) (ε := ε2) (h := h5) (cLst_eq (A := aCons (cFn (f_read_worth V') (aCons (cVar 4) aNil)) (aCons (cFn (fun es h => (f_read_worth V') (pm0 es) h) (aCons (cVar 4) aNil)) aNil)) (ds := [d, d])
    (aCons_eq ((cFn_eq (A := aCons (cVar 4) aNil) rfl).trans e6) (aCons_eq ((cFn_eq (A := aCons (cVar 4) aNil) rfl).trans e7) aNil_eq)) (sl (Nat.le_of_ble_eq_true rfl)))
  let h8 : AH := h7 ++ [.lst [d, d]]
  let ε3 : AEnv := [some d, some (.ref h4.length), some (.ref h7.length), some (.str s), some X]
  have p58 : h5 <+: h8 := (p6.trans p7).trans (List.prefix_append _ _)
  have g5 : h8[h4.length]? = some (.lst [X, X, X]) := getElem_pre p58 get_last
  have g7 : h8[h7.length]? = some (.lst [d, d]) := get_last
  -- the texts
  let h9 : AH := h8 ++ [.lst [X]]
  let h10 : AH := h9 ++ [.lst [X, X, X]]
  have sX : ∀ hh, Sm hh 0 24002 X := fun hh => by
    have := tx_len w
    exact sm_S (n := 6000) (by omega) (tx_lt w)
  have m3 : cBin opMul (cLst (aCons (cVar 4) aNil)) (cC (.int 3)) ε3 h8 = .ok (.ref h9.length) h10 := by
    refine (cBin_eq (cLst_eq (A := aCons (cVar 4) aNil) (ds := [X]) rfl (sl (Nat.le_of_ble_eq_true rfl))) rfl).trans ?_
    have := mul_l (h := h9) (a := h8.length) (k := 3) (xs := [X]) get_last (Nat.le_of_ble_eq_true rfl) (by omega)
    exact this
  have g9 : h10[h4.length]? = some (.lst [X, X, X]) := get_old (get_old g5)
  have r1 := rep_same (F := cVar 1) (G := cBin opMul (cLst (aCons (cVar 4) aNil)) (cC (.int 3))) (ε := ε3) (h := h8) (h1 := h8) (h2 := h10) (x := .ref h4.length) (y := .ref h9.length) ((List.prefix_append _ _).trans (List.prefix_append _ _)) rfl m3 (k := 1) (L := 80000) (by omega) (by omega)
    ((Sm.lst g5 fun d hd => by simp only [List.mem_cons, List.not_mem_nil, or_false] at hd; rcases hd with rfl | rfl | rfl <;> exact sX h8).mono (by omega) (by simp)) (pdx_lst get_last g9)
  -- the worths
  let h11 : AH := h10 ++ [.lst [d, d]]
  have l2 : cLst (aCons (cVar 0) (aCons (cVar 0) aNil)) ε3 h10 = .ok (.ref h10.length) h11 := cLst_eq (ds := [d, d]) rfl (sl (Nat.le_of_ble_eq_true rfl))
  have p810 : h8 <+: h10 := (List.prefix_append _ _).trans (List.prefix_append _ _)
  have g10 : h10[h7.length]? = some (.lst [d, d]) := getElem_pre p810 g7
  have g11 : h11[h7.length]? = some (.lst [d, d]) := get_old g10
  have r2 := rep_same (F := cVar 2) (G := cLst (aCons (cVar 0) (aCons (cVar 0) aNil))) (ε := ε3) (h := h10) (h1 := h10) (h2 := h11) (x := .ref h7.length) (y := .ref h10.length) (List.prefix_append _ _) rfl l2 (k := 19) (L := 60000) (by omega) (by omega)
    ((Sm.lst g10 fun x hd => by simp only [List.mem_cons, List.not_mem_nil, or_false] at hd; rcases hd with rfl | rfl <;> exact sm_ok w hc).mono (by omega) (by simp)) (pdx_lst get_last g11)
  have es' : reprX d h11 = some s := reprX_pre (((((p1.trans p2).trans p3).trans p4).trans (List.prefix_append _ _)).trans (p58.trans (p810.trans (List.prefix_append _ _)))) es
  have r3 : cBin opEq2 (cCall fRepr2 (aCons (cVar 0) aNil)) (cVar 3) ε3 h11 = .ok (.bl true) h11 := by
    refine (cBin_eq (repr_ev (F := cVar 0) rfl es') rfl).trans ?_
    show opEq2 (.str s) (.str s) h11 = _
    rw [eq2S]
    simp
  refine ⟨h11, (((((p1.trans p2).trans p3).trans p4).trans (List.prefix_append _ _)).trans (p58.trans (p810.trans (List.prefix_append _ _)))), runB_ret rfl ((sSeq_nx q1).trans ((sSeq_nx q2).trans ((sSeq_nx q3).trans (sRet_eq ?_))))⟩
  exact (cAnd_t r1.1).trans ((cAnd_t r2.1).trans r3)
end K04

namespace K04
open Mi L2 PySem PySem.Spec PyProof.Rows
def Ok (d : D) : Prop := V 8 d ∧ cn 8 d ≤ 200
theorem ok5 {d : D} (h : V 5 d ∧ cn 5 d ≤ 85) : Ok d := by
  obtain ⟨a, b⟩ := h.1.mono (m := 8) (by omega)
  exact ⟨a, by rw [b]; omega⟩
theorem okL {d : D} (h : d ∈ looks) : Ok d := by
  obtain ⟨a, b⟩ := looks_ok h
  obtain ⟨c, e⟩ := a.mono (m := 8) (by omega)
  exact ⟨c, by rw [e]; omega⟩
theorem okF {d : D} (h : Lf d) : Ok d := ⟨.leaf h, by rw [cn_leaf h]; omega⟩
theorem eq2_nil {h : AH} {n : Nat} {m : Nat} {xs : List D} (k : h[n]? = some (.lst xs)) (k2 : h[m]? = some (.lst [])) (e : xs = []) : opEq2 (.ref n) (.ref m) h = .ok (.bl true) h := by
  subst e
  have x : eqX (.ref n) (.ref m) h = none := by simp [eqX, lstD, k, k2]
  unfold opEq2
  rw [x]
  unfold opEq
  have s0 : scalEq (.ref n) (.ref m) = none := rfl
  have p1 : pd 66 h (.ref n) = some (.list []) := by rw [pd]; simp only [k, omap]; rfl
  have p2 : pd 66 h (.ref m) = some (.list []) := by rw [pd]; simp only [k2, omap]; rfl
  have sh : SeqAt.shaped (.list []) = true := by decide +kernel
  simp only [s0, p1, p2, sh, and_self, if_true]
  simp [PyData.eqv, PyData.eqvAll]
theorem signs_comp {n m k : Nat} {S0 x2 x3 : Option D} {h : AH} {c : Int} (hk : k ≤ 10) (H : Hand h n m c) (hc : 0 ≤ c) (hc2 : c < 40000) :
    ∃ (acc : List D) (h' : AH) (c' : Int), cComp (iRange1 (cC (.int k))) (gN 4) tYes' (cFn f_l_signs (aCons (cVar 1) aNil)) [4] [S0, some (.ref n), x2, x3, none] h = .ok (.ref h.length) h' ∧ acc.length = k ∧ (∀ d ∈ acc, Lf d) ∧ Hand h' n m c' ∧ c ≤ c' ∧ c' ≤ c + 22 * k ∧ Mi.Step n m h h' ∧ h'[h.length]? = some (.lst acc) := by
  have lt := H.lt
  have hi : iRange1 (cC (.int k)) [S0, some (.ref n), x2, x3, none] h = .ok (.fix ((List.range k).map fun (i : Nat) => .int (0 + i))) h := by
    show (Res.ok (D.int k) h).bind _ = _
    rw [Res.bind_ok]
    simp only
    rw [if_pos (by rw [Bool.and_eq_true, decide_eq_true_eq, decide_eq_true_eq]; constructor <;> omega), Int.toNat_natCast]
  obtain ⟨acc, h3, e3, c3, la, ga, H3, q31, q32, s3, g3⟩ := cComp_inv (g := gN 4) (t := tYes') (F := cFn f_l_signs (aCons (cVar 1) aNil)) (own := [4]) hi
    (fun i acc h' => ∃ c' : Int, acc.length = i ∧ (∀ d ∈ acc, Lf d) ∧ Hand h' n m c' ∧ c ≤ c' ∧ c' ≤ c + 22 * i ∧ Mi.Step n m h h' ∧ h'[h.length]? = some (.lst acc)) k (by simp [AIt.len]) (by rw [sizeLine_eq]; omega)
    (by rintro i acc h ⟨_, _, _, _, _, _, _, g⟩; exact g) (by rintro i acc h ⟨_, l, _⟩; omega)
    ⟨c, rfl, by simp, H.app, by omega, by omega, .app, get_last⟩
    (by
      rintro i acc h' hi ⟨c', l, ga, H', q1, q2, st, g⟩
      obtain ⟨d, h4, c4, e4, g4, H4, q3, q4, s4⟩ := signs_drawn H' (by omega) (by omega)
      have ne1 : h.length ≠ n := by omega
      have ne2 : h.length ≠ m := by omega
      have g' : h4[h.length]? = some (.lst acc) := (s4.keep _ ne1 ne2 (List.getElem?_eq_some_iff.mp g).1).trans g
      refine ⟨.int (0 + (i : Int)), [S0, some (.ref n), x2, x3, some (.int (0 + (i : Int)))], true, h', by simp [AIt.item, hi], rfl, rfl, .inr ⟨rfl, d, h4, (cFn_eq (A := aCons (cVar 1) aNil) rfl).trans e4, g', c4, by rw [List.length_append, l]; rfl, fun x hx => ?_, H4.set ne1 ne2, by omega, by omega, step_new (st.trans s4) (Nat.le_refl _), List.getElem?_set_self (List.getElem?_eq_some_iff.mp g').1⟩⟩
      rcases List.mem_append.mp hx with hx | hx
      · exact ga x hx
      · rw [List.mem_singleton.mp hx]; exact g4)
    (by rintro acc h _; rfl)
  exact ⟨acc, h3, c3, e3, la, ga, H3, q31, by omega, s3, g3⟩
theorem last_ok {V' : FV} {h : AH} {s : Nat} {ds : List D} {x0 x1 x4 : Option D} (e : h[s]? = some (.lst ds)) (hs : ds.length ≤ 1000) (g : ∀ d ∈ ds, Ok d) :
    ∃ h', h <+: h' ∧ cBin opEq2 (cComp (iAny (cBin opAdd (cVar 2) (cRev (cVar 2)))) (gN 3) (tNot' (tVal (cFn (f_l_right V') (aCons (cVar 3) aNil)))) (cVar 3) [3]) (cLst aNil) [x0, x1, some (.ref s), none, x4] h = .ok (.bl true) h' := by
  let h1 : AH := h ++ [.lst ds.reverse]
  let h2 : AH := h1 ++ [.lst (ds ++ ds.reverse)]
  have rv : cRev (cVar 2) [x0, x1, some (.ref s), none, x4] h = .ok (.ref h.length) h1 := by
    show (Res.ok (D.ref s) h).bind _ = _
    rw [Res.bind_ok]
    simp only [revD, e]
    rfl
  have ad : cBin opAdd (cVar 2) (cRev (cVar 2)) [x0, x1, some (.ref s), none, x4] h = .ok (.ref h1.length) h2 := by
    refine (cBin_eq (F := cVar 2) (x := .ref s) rfl rv).trans ?_
    have k1 : h1[s]? = some (.lst ds) := get_old e
    have k2 : h1[h.length]? = some (.lst ds.reverse) := get_last
    simp only [opAdd, k1, k2]
    rw [if_pos (by rw [List.length_reverse, sizeLine_eq]; omega)]
  have k : h2[h1.length]? = some (.lst (ds ++ ds.reverse)) := get_last
  have p : h <+: h2 := (List.prefix_append _ _).trans (List.prefix_append _ _)
  obtain ⟨h3, p3, k3, c3⟩ := cComp_any (g := gN 3) (t := tNot' (tVal (cFn (f_l_right V') (aCons (cVar 3) aNil)))) (F := cVar 3) (own := [3]) (iAny_live ad k) rfl (live_at k) (by rw [List.length_append, List.length_reverse, sizeLine_eq]; omega)
    (fun d => [x0, x1, some (.ref s), some d, x4]) (fun _ => false) id (fun _ _ _ => rfl)
    (fun d hd h' p' => by
      have gd : Ok d := g d (by
        rcases List.mem_append.mp hd with hd | hd
        · exact hd
        · exact List.mem_reverse.mp hd)
      obtain ⟨h4, p4, e4⟩ := right_ok (V' := V') gd.1 gd.2 (h := h')
      exact ⟨h4, p4, tNot_eq (tVal_eq ((cFn_eq (aCons_eq rfl aNil_eq)).trans e4))⟩)
    (fun d _ e => by cases e)
  refine ⟨h3 ++ [.lst []], (p.trans p3).trans (List.prefix_append _ _), (cBin_eq c3 (cLst_eq (ds := []) rfl (Nat.zero_le _))).trans (eq2_nil (get_old k3) get_last (by simp))⟩
theorem law_ok {V' : FV} {ns : List Int} (hl : ns.length ≤ 63) (_ : ∀ z ∈ ns, Builtin.Int.intBits z ≤ 1048576) : ∃ h', f_law V' [.rol (ns.map D.int)] [] = .ok (.bl true) h' := by
  obtain ⟨n, m, h1, e1, H1⟩ := begun_ok hl
  obtain ⟨S0, eS⟩ : ∃ S0 : D, S0 = .rol (ns.map D.int) := ⟨_, rfl⟩
  rw [← eS] at e1 ⊢
  have lt1 := H1.lt
  have c3 : cst 3 = 680 := rfl
  have sl : ∀ {j : Nat}, j ≤ 1000 → j ≤ sizeLine := fun q => by rw [sizeLine_eq]; omega
  have w1 : sSet 1 (cFn f_l_begun (aCons (cVar 0) aNil)) [some S0, none, none, none, none] [] = .nx [some S0, some (.ref n), none, none, none] h1 := sSet_eq (i := 1) ((cFn_eq (aCons_eq rfl aNil_eq)).trans e1)
  let ε1 : AEnv := [some S0, some (.ref n), none, none, none]
  obtain ⟨acc, h2, e2, c2, la, ga, H2, q21, q22, s2, g2⟩ := cComp_inv (iF := iRange1 (cC (.int 10))) (it := .fix ((List.range (10 : Int).toNat).map fun (i : Nat) => .int (0 + i))) (g := gN 4) (t := tYes') (F := cFn (f_l_drawn 30) (aCons (cVar 1) (aCons (cC (.int 3)) aNil))) (own := [4])
    (ε := ε1) (h := h1) (h1 := h1) rfl
    (fun i acc h => ∃ c' : Int, acc.length = i ∧ (∀ d ∈ acc, Ok d) ∧ Hand h n m c' ∧ 0 ≤ c' ∧ c' ≤ 680 * i ∧ Mi.Step n m h1 h ∧ h[h1.length]? = some (.lst acc)) 10 (by simp [AIt.len]) (by rw [sizeLine_eq]; omega)
    (by rintro i acc h ⟨_, _, _, _, _, _, _, g⟩; exact g) (by rintro i acc h ⟨_, l, _⟩; omega)
    ⟨0, rfl, by simp, H1.app, by omega, by omega, .app, get_last⟩
    (by
      rintro i acc h' hi ⟨c', l, ga, H', q1, q2, st, g⟩
      obtain ⟨d, h4, c4, e4, g4, H4, q3, q4, s4⟩ := drawn_ok 3 30 h' c' (by omega) (by omega) H' (by omega) (by omega)
      have ne1 : h1.length ≠ n := by omega
      have ne2 : h1.length ≠ m := by omega
      have g' : h4[h1.length]? = some (.lst acc) := (s4.keep _ ne1 ne2 (List.getElem?_eq_some_iff.mp g).1).trans g
      have ir : (List.range (10 : Int).toNat)[i]? = some i := List.getElem?_range (show i < 10 from hi)
      refine ⟨.int (0 + (i : Int)), [some S0, some (.ref n), none, none, some (.int (0 + (i : Int)))], true, h', by simp only [AIt.item, List.getElem?_map, ir]; rfl, rfl, rfl, .inr ⟨rfl, d, h4, (cFn_eq (A := aCons (cVar 1) (aCons (cC (.int 3)) aNil)) rfl).trans e4, g', c4, by rw [List.length_append, l]; rfl, fun x hx => ?_, H4.set ne1 ne2, by omega, by omega, step_new (st.trans s4) (Nat.le_refl _), List.getElem?_set_self (List.getElem?_eq_some_iff.mp g').1⟩⟩
      rcases List.mem_append.mp hx with hx | hx
      · exact ga x hx
      · rw [List.mem_singleton.mp hx]; exact ok5 g4)
    (by rintro acc h _; rfl)
  obtain ⟨sg, h3, G, e3, k3, lG, hG, H3, s3, l3⟩ := greatest_ok H2 q21 (by omega)
  have l12 := (List.getElem?_eq_some_iff.mp g2).1
  have ka : h3[h1.length]? = some (.lst acc) := (s3.keep _ (by omega) (by omega) l12).trans g2
  have ad1 := add_l ka k3 (by omega)
  let h4 : AH := h3 ++ [.lst (acc ++ G)]
  obtain ⟨h5, sk, p5, l5, e5, k5⟩ := alike_ok (h := h4)
  have k4 : h5[h3.length]? = some (.lst (acc ++ G)) := getElem_pre p5 get_last
  have lk : looks.length = 6 := rfl
  have ad2 := add_l k4 k5 (by rw [List.length_append, lk]; omega)
  let A : List D := (acc ++ G) ++ looks
  let h6 : AH := h5 ++ [.lst A]
  have lA : A.length = 20 := by simp only [A, List.length_append, la, lG, lk]
  have w2 := sSet_eq (i := 2) (ε := ε1) (h := h1) ((cBin_eq (f := opAdd) ((cBin_eq (f := opAdd) e2 ((cFn_eq (f := f_l_greatest) (A := aCons (cVar 1) aNil) rfl).trans e3)).trans ad1) ((cFn_eq (f := f_l_alike_looks) aNil_eq).trans e5)).trans ad2)
  have H6 : Hand h6 n m (c2 + 12) := (Hand.ofPre p5 (H3.app (os := [.lst (acc ++ G)]))).app (os := [.lst A])
  let ε2 : AEnv := [some S0, some (.ref n), some (.ref h5.length), none, none]
  obtain ⟨a7, h7, c7, e7, la7, ga7, H7, q71, q72, s7, g7⟩ := signs_comp (k := 6) (S0 := some S0) (x2 := some (.ref h5.length)) (x3 := none) (by omega) H6 (by omega) (by omega)
  have lt3 := H3.lt
  have l34 : h4.length = h3.length + 1 := by simp [h4]
  have p45 := p5.length_le
  have l56 : h6.length = h5.length + 1 := by simp [h6]
  have kA7 : h7[h5.length]? = some (.lst A) := (s7.keep _ (by omega) (by omega) (by omega)).trans get_last
  have ad3 := add_l kA7 g7 (by omega)
  let B : List D := A ++ a7
  let h8 : AH := h7 ++ [.lst B]
  have H8 : Hand h8 n m c7 := H7.app (os := [.lst B])
  obtain ⟨a9, h9, c9, e9, la9, ga9, H9, q91, q92, s9, g9⟩ := signs_comp (k := 3) (S0 := some S0) (x2 := some (.ref h5.length)) (x3 := none) (by omega) H8 (by omega) (by omega)
  have s7l := s7.len
  have l78 : h8.length = h7.length + 1 := by simp [h8]
  have kB9 : h9[h7.length]? = some (.lst B) := (s9.keep _ (by omega) (by omega) (by omega)).trans get_last
  have tp : cCall fTuple (aCons (cComp (iRange1 (cC (.int 3))) (gN 4) tYes' (cFn f_l_signs (aCons (cVar 1) aNil)) [4]) aNil) ε2 h8 = .ok (.tup a9) h9 := (cCall_eq (aCons_eq e9 aNil_eq)).trans (by simp only [fTuple, g9])
  have t9 := cTup_eq (ε := ε2) (h := h8) (aCons_eq (F := cC (.str ("row" : Str))) rfl (aCons_eq tp aNil_eq)) (sl (Nat.le_of_ble_eq_true rfl))
  have w9 := cLst_eq (ε := ε2) (h := h8) (aCons_eq t9 aNil_eq) (sl (Nat.le_of_ble_eq_true rfl))
  have lB : B.length = 26 := by simp only [B, List.length_append, lA, la7]
  have ad4 := add_l (h := h9 ++ [.lst [.tup [.str "row", .tup a9]]]) (get_old kB9) get_last (by rw [lB]; simp)
  have w3 := sSet_eq (i := 2) (ε := ε2) (h := h6) ((cBin_eq (f := opAdd) ((cBin_eq (f := opAdd) (F := cVar 2) (x := .ref h5.length) rfl e7).trans ad3) w9).trans ad4)
  have all : ∀ d ∈ B ++ [.tup [.str "row", .tup a9]], Ok d := fun d hd => by
    rcases List.mem_append.mp hd with hd | hd
    · rcases List.mem_append.mp hd with hd | hd
      · rcases List.mem_append.mp hd with hd | hd
        · rcases List.mem_append.mp hd with hd | hd
          · exact ga d hd
          · exact hG d hd
        · exact okL hd
      · exact okF (ga7 d hd)
    · rw [List.mem_singleton.mp hd]
      have v1 : V 1 (rowT a9) := .row (by omega) fun d hd => .leaf (ga9 d hd)
      obtain ⟨v8, e8⟩ := v1.mono (m := 8) (by omega)
      refine ⟨v8, ?_⟩
      show cn 8 (rowT a9) ≤ 200
      rw [e8, cn_row]
      have s := sumle (f := cn 0) (g := fun _ => 1) (ds := a9) fun d hd => Nat.le_of_eq (cn_leaf (ga9 d hd))
      have e : ∀ ds : List D, (ds.map fun _ => 1).sum = ds.length := fun ds => by
        induction ds with
        | nil => rfl
        | cons a r ih => simp only [List.map_cons, List.sum_cons, ih, List.length_cons]; omega
      rw [e] at s
      omega
  obtain ⟨h10, p10, e10⟩ := last_ok (V' := V') (x0 := some S0) (x1 := some (.ref n)) (x4 := none) (h := h9 ++ [O.lst [.tup [.str "row", .tup a9]]] ++ [O.lst (B ++ [.tup [.str "row", .tup a9]])]) (ds := B ++ [.tup [.str "row", .tup a9]]) get_last (by rw [List.length_append, lB]; simp) all
  exact ⟨h10, runB_ret rfl ((sSeq_nx w1).trans ((sSeq_nx w2).trans ((sSeq_nx w3).trans (sRet_eq e10))))⟩
end K04

namespace K04
open Mi L2 PySem PySem.Spec PyProof.Rows
theorem all_mk {l : PySem.W.OpenLaw} {q : Program} {loose : List Str} {w : World} {K : PySem.W.Frag} {h : Heap} {mg mb : Str → Option Value} {mean : ExcName → Option Value} {fa : Addr} (T : Top q (PySem.W.looseW q loose) mean mg mb h) (X : K.In h) (G : h.Ns mainGlobals mg) (hfa : mg "law" = some (.ref fa))
    {f0 : Addr} {od0 an0 : Option Addr} {sl0 : Array (Option Value)} {oc0 kV0 dc0 pm0 cd0 ct0 : Value}
    {f1 : Addr} {od1 an1 : Option Addr} {sl1 : Array (Option Value)} {oc1 kV1 dc1 pm1 cd1 ct1 : Value}
    {f2 : Addr} {od2 an2 : Option Addr} {sl2 : Array (Option Value)} {oc2 kV2 dc2 pm2 cd2 ct2 : Value}
    {f3 : Addr} {od3 an3 : Option Addr} {sl3 : Array (Option Value)} {oc3 kV3 dc3 pm3 cd3 ct3 : Value}
    {f4 : Addr} {od4 an4 : Option Addr} {sl4 : Array (Option Value)} {oc4 kV4 dc4 pm4 cd4 ct4 : Value}
    {f5 : Addr} {od5 an5 : Option Addr} {sl5 : Array (Option Value)} {oc5 kV5 dc5 pm5 cd5 ct5 : Value}
    {f6 : Addr} {od6 an6 : Option Addr} {sl6 : Array (Option Value)} {oc6 kV6 dc6 pm6 cd6 ct6 : Value}
    {f7 : Addr} {od7 an7 : Option Addr} {sl7 : Array (Option Value)} {oc7 kV7 dc7 pm7 cd7 ct7 : Value}
    {f8 : Addr} {od8 an8 : Option Addr} {sl8 : Array (Option Value)} {oc8 kV8 dc8 pm8 cd8 ct8 : Value}
    {f9 : Addr} {od9 an9 : Option Addr} {sl9 : Array (Option Value)} {oc9 kV9 dc9 pm9 cd9 ct9 : Value}
    {f10 : Addr} {od10 an10 : Option Addr} {sl10 : Array (Option Value)} {oc10 kV10 dc10 pm10 cd10 ct10 : Value}
    {f11 : Addr} {od11 an11 : Option Addr} {sl11 : Array (Option Value)} {oc11 kV11 dc11 pm11 cd11 ct11 : Value}
    {f12 : Addr} {od12 an12 : Option Addr} {sl12 : Array (Option Value)} {oc12 kV12 dc12 pm12 cd12 ct12 : Value}
    {f13 : Addr} {od13 an13 : Option Addr} {sl13 : Array (Option Value)} {oc13 kV13 dc13 pm13 cd13 ct13 : Value}
    {f14 : Addr} {od14 an14 : Option Addr} {sl14 : Array (Option Value)} {oc14 kV14 dc14 pm14 cd14 ct14 : Value}
    {f15 : Addr} {od15 an15 : Option Addr} {sl15 : Array (Option Value)} {oc15 kV15 dc15 pm15 cd15 ct15 : Value}
    {f16 : Addr} {od16 an16 : Option Addr} {sl16 : Array (Option Value)} {oc16 kV16 dc16 pm16 cd16 ct16 : Value}
    {f17 : Addr} {od17 an17 : Option Addr} {sl17 : Array (Option Value)} {oc17 kV17 dc17 pm17 cd17 ct17 : Value}
    {f18 : Addr} {od18 an18 : Option Addr} {sl18 : Array (Option Value)} {oc18 kV18 dc18 pm18 cd18 ct18 : Value}
    {f19 : Addr} {od19 an19 : Option Addr} {sl19 : Array (Option Value)} {oc19 kV19 dc19 pm19 cd19 ct19 : Value}
    {f20 : Addr} {od20 an20 : Option Addr} {sl20 : Array (Option Value)} {oc20 kV20 dc20 pm20 ct20 : Value} {c20 P20 : Addr} {dr20 : DefRec} {oq20 : Value} {oe20 : Option Addr} {vs20 : Array Value} {sm20 : Array (Option Value)}
    {f21 : Addr} {od21 an21 : Option Addr} {sl21 : Array (Option Value)} {oc21 kV21 dc21 pm21 cd21 ct21 : Value}
    {f22 : Addr} {od22 an22 : Option Addr} {sl22 : Array (Option Value)} {oc22 kV22 dc22 pm22 cd22 ct22 : Value}
    {f23 : Addr} {od23 an23 : Option Addr} {sl23 : Array (Option Value)} {oc23 kV23 dc23 pm23 ct23 : Value} {c23 P23 : Addr} {dr23 : DefRec} {oq23 : Value} {oe23 : Option Addr} {vs23 : Array Value} {sm23 : Array (Option Value)}
    {f24 : Addr} {od24 an24 : Option Addr} {sl24 : Array (Option Value)} {oc24 kV24 dc24 pm24 cd24 ct24 : Value}
    {f25 : Addr} {od25 an25 : Option Addr} {sl25 : Array (Option Value)} {oc25 kV25 dc25 pm25 cd25 ct25 : Value}
    {f26 : Addr} {od26 an26 : Option Addr} {sl26 : Array (Option Value)} {oc26 kV26 dc26 pm26 cd26 ct26 : Value}
    {f27 : Addr} {od27 an27 : Option Addr} {sl27 : Array (Option Value)} {oc27 kV27 dc27 pm27 cd27 ct27 : Value}
    {f28 : Addr} {od28 an28 : Option Addr} {sl28 : Array (Option Value)} {oc28 kV28 dc28 pm28 cd28 ct28 : Value}
    {f29 : Addr} {od29 an29 : Option Addr} {sl29 : Array (Option Value)} {oc29 kV29 dc29 pm29 cd29 ct29 : Value}
    {f30 : Addr} {od30 an30 : Option Addr} {sl30 : Array (Option Value)} {oc30 kV30 dc30 pm30 cd30 ct30 : Value}
    {f31 : Addr} {od31 an31 : Option Addr} {sl31 : Array (Option Value)} {oc31 kV31 dc31 pm31 cd31 ct31 : Value}
    {f32 : Addr} {od32 an32 : Option Addr} {sl32 : Array (Option Value)} {oc32 kV32 dc32 pm32 cd32 ct32 : Value}
    {f33 : Addr} {od33 an33 : Option Addr} {sl33 : Array (Option Value)} {oc33 kV33 dc33 pm33 cd33 ct33 : Value}
    {f34 : Addr} {od34 an34 : Option Addr} {sl34 : Array (Option Value)} {oc34 kV34 dc34 pm34 cd34 ct34 : Value}
    {tk_GREATEST : Tok}
    {tk_MOST_FIGURES : Tok}
    {tk_MOST_OPEN : Tok}
    {tk_NAME_SIGNS : Tok}
    {tk_PARTING_SIGNS : Tok}
    {tk_PERCENT : Tok}
    {tk_QUOTE : Tok}
    {tk_ROWS_DEEP : Tok}
    {tk_ROW_PARTS : Tok}
    {tk_TEXT_SIGNS : Tok}
    {tk_WORTHS_IN_ALL : Tok}
    {ad_CLOSED : Addr} {es_CLOSED : Array DictEntry} {nd_CLOSED : Nat}
    {ad_WORDS : Addr} {es_WORDS : Array DictEntry} {nd_WORDS : Nat}
    (a0 : PySem.W.nsIn K mainGlobals ("_law_begun" : Str) = some (some (.ref f0)))
    (l0 : K.lookup f0 = some ⟨oc0, od0, .func (PySem.W.fnOf ("_law_begun" : Str) ("_law_begun" : Str) (defArgs st_l_begun) (defBody st_l_begun) (defScope st_l_begun) .none kV0 dc0 pm0 an0 cd0 ct0), sl0⟩)
    (c_0 : PySem.W.codeIn K cd0 ("_law_begun" : Str) = true)
    (k0 : PySem.W.keepIn K (.ref f0) = true)
    (a1 : PySem.W.nsIn K mainGlobals ("_law_alike_looks" : Str) = some (some (.ref f1)))
    (l1 : K.lookup f1 = some ⟨oc1, od1, .func (PySem.W.fnOf ("_law_alike_looks" : Str) ("_law_alike_looks" : Str) (defArgs st_l_alike_looks) (defBody st_l_alike_looks) (defScope st_l_alike_looks) .none kV1 dc1 pm1 an1 cd1 ct1), sl1⟩)
    (c_1 : PySem.W.codeIn K cd1 ("_law_alike_looks" : Str) = true)
    (k1 : PySem.W.keepIn K (.ref f1) = true)
    (a2 : PySem.W.nsIn K mainGlobals ("_law_dealt" : Str) = some (some (.ref f2)))
    (l2 : K.lookup f2 = some ⟨oc2, od2, .func (PySem.W.fnOf ("_law_dealt" : Str) ("_law_dealt" : Str) (defArgs st_l_dealt) (defBody st_l_dealt) (defScope st_l_dealt) .none kV2 dc2 pm2 an2 cd2 ct2), sl2⟩)
    (c_2 : PySem.W.codeIn K cd2 ("_law_dealt" : Str) = true)
    (k2 : PySem.W.keepIn K (.ref f2) = true)
    (a3 : PySem.W.nsIn K mainGlobals ("_law_pick" : Str) = some (some (.ref f3)))
    (l3 : K.lookup f3 = some ⟨oc3, od3, .func (PySem.W.fnOf ("_law_pick" : Str) ("_law_pick" : Str) (defArgs st_l_pick) (defBody st_l_pick) (defScope st_l_pick) .none kV3 dc3 pm3 an3 cd3 ct3), sl3⟩)
    (c_3 : PySem.W.codeIn K cd3 ("_law_pick" : Str) = true)
    (k3 : PySem.W.keepIn K (.ref f3) = true)
    (a4 : PySem.W.nsIn K mainGlobals ("_law_label" : Str) = some (some (.ref f4)))
    (l4 : K.lookup f4 = some ⟨oc4, od4, .func (PySem.W.fnOf ("_law_label" : Str) ("_law_label" : Str) (defArgs st_l_label) (defBody st_l_label) (defScope st_l_label) .none kV4 dc4 pm4 an4 cd4 ct4), sl4⟩)
    (c_4 : PySem.W.codeIn K cd4 ("_law_label" : Str) = true)
    (k4 : PySem.W.keepIn K (.ref f4) = true)
    (a5 : PySem.W.nsIn K mainGlobals ("_law_leaf" : Str) = some (some (.ref f5)))
    (l5 : K.lookup f5 = some ⟨oc5, od5, .func (PySem.W.fnOf ("_law_leaf" : Str) ("_law_leaf" : Str) (defArgs st_l_leaf) (defBody st_l_leaf) (defScope st_l_leaf) .none kV5 dc5 pm5 an5 cd5 ct5), sl5⟩)
    (c_5 : PySem.W.codeIn K cd5 ("_law_leaf" : Str) = true)
    (k5 : PySem.W.keepIn K (.ref f5) = true)
    (a6 : PySem.W.nsIn K mainGlobals ("_law_drawn" : Str) = some (some (.ref f6)))
    (l6 : K.lookup f6 = some ⟨oc6, od6, .func (PySem.W.fnOf ("_law_drawn" : Str) ("_law_drawn" : Str) (defArgs st_l_drawn) (defBody st_l_drawn) (defScope st_l_drawn) .none kV6 dc6 pm6 an6 cd6 ct6), sl6⟩)
    (c_6 : PySem.W.codeIn K cd6 ("_law_drawn" : Str) = true)
    (k6 : PySem.W.keepIn K (.ref f6) = true)
    (a7 : PySem.W.nsIn K mainGlobals ("_law_chain" : Str) = some (some (.ref f7)))
    (l7 : K.lookup f7 = some ⟨oc7, od7, .func (PySem.W.fnOf ("_law_chain" : Str) ("_law_chain" : Str) (defArgs st_l_chain) (defBody st_l_chain) (defScope st_l_chain) .none kV7 dc7 pm7 an7 cd7 ct7), sl7⟩)
    (c_7 : PySem.W.codeIn K cd7 ("_law_chain" : Str) = true)
    (k7 : PySem.W.keepIn K (.ref f7) = true)
    (a8 : PySem.W.nsIn K mainGlobals ("_law_wide" : Str) = some (some (.ref f8)))
    (l8 : K.lookup f8 = some ⟨oc8, od8, .func (PySem.W.fnOf ("_law_wide" : Str) ("_law_wide" : Str) (defArgs st_l_wide) (defBody st_l_wide) (defScope st_l_wide) .none kV8 dc8 pm8 an8 cd8 ct8), sl8⟩)
    (c_8 : PySem.W.codeIn K cd8 ("_law_wide" : Str) = true)
    (k8 : PySem.W.keepIn K (.ref f8) = true)
    (a9 : PySem.W.nsIn K mainGlobals ("_law_greatest" : Str) = some (some (.ref f9)))
    (l9 : K.lookup f9 = some ⟨oc9, od9, .func (PySem.W.fnOf ("_law_greatest" : Str) ("_law_greatest" : Str) (defArgs st_l_greatest) (defBody st_l_greatest) (defScope st_l_greatest) .none kV9 dc9 pm9 an9 cd9 ct9), sl9⟩)
    (c_9 : PySem.W.codeIn K cd9 ("_law_greatest" : Str) = true)
    (k9 : PySem.W.keepIn K (.ref f9) = true)
    (a10 : PySem.W.nsIn K mainGlobals ("_law_signs" : Str) = some (some (.ref f10)))
    (l10 : K.lookup f10 = some ⟨oc10, od10, .func (PySem.W.fnOf ("_law_signs" : Str) ("_law_signs" : Str) (defArgs st_l_signs) (defBody st_l_signs) (defScope st_l_signs) .none kV10 dc10 pm10 an10 cd10 ct10), sl10⟩)
    (c_10 : PySem.W.codeIn K cd10 ("_law_signs" : Str) = true)
    (k10 : PySem.W.keepIn K (.ref f10) = true)
    (a11 : PySem.W.nsIn K mainGlobals ("show_compound" : Str) = some (some (.ref f11)))
    (l11 : K.lookup f11 = some ⟨oc11, od11, .func (PySem.W.fnOf ("show_compound" : Str) ("show_compound" : Str) (defArgs st_show_compound) (defBody st_show_compound) (defScope st_show_compound) .none kV11 dc11 pm11 an11 cd11 ct11), sl11⟩)
    (c_11 : PySem.W.codeIn K cd11 ("show_compound" : Str) = true)
    (k11 : PySem.W.keepIn K (.ref f11) = true)
    (a12 : PySem.W.nsIn K mainGlobals ("show_worth" : Str) = some (some (.ref f12)))
    (l12 : K.lookup f12 = some ⟨oc12, od12, .func (PySem.W.fnOf ("show_worth" : Str) ("show_worth" : Str) (defArgs st_show_worth) (defBody st_show_worth) (defScope st_show_worth) .none kV12 dc12 pm12 an12 cd12 ct12), sl12⟩)
    (c_12 : PySem.W.codeIn K cd12 ("show_worth" : Str) = true)
    (k12 : PySem.W.keepIn K (.ref f12) = true)
    (a13 : PySem.W.nsIn K mainGlobals ("end_of_quoted" : Str) = some (some (.ref f13)))
    (l13 : K.lookup f13 = some ⟨oc13, od13, .func (PySem.W.fnOf ("end_of_quoted" : Str) ("end_of_quoted" : Str) (defArgs st_end_of_quoted) (defBody st_end_of_quoted) (defScope st_end_of_quoted) .none kV13 dc13 pm13 an13 cd13 ct13), sl13⟩)
    (c_13 : PySem.W.codeIn K cd13 ("end_of_quoted" : Str) = true)
    (k13 : PySem.W.keepIn K (.ref f13) = true)
    (a14 : PySem.W.nsIn K mainGlobals ("end_of_piece" : Str) = some (some (.ref f14)))
    (l14 : K.lookup f14 = some ⟨oc14, od14, .func (PySem.W.fnOf ("end_of_piece" : Str) ("end_of_piece" : Str) (defArgs st_end_of_piece) (defBody st_end_of_piece) (defScope st_end_of_piece) .none kV14 dc14 pm14 an14 cd14 ct14), sl14⟩)
    (c_14 : PySem.W.codeIn K cd14 ("end_of_piece" : Str) = true)
    (k14 : PySem.W.keepIn K (.ref f14) = true)
    (a15 : PySem.W.nsIn K mainGlobals ("pieces_of" : Str) = some (some (.ref f15)))
    (l15 : K.lookup f15 = some ⟨oc15, od15, .func (PySem.W.fnOf ("pieces_of" : Str) ("pieces_of" : Str) (defArgs st_pieces_of) (defBody st_pieces_of) (defScope st_pieces_of) .none kV15 dc15 pm15 an15 cd15 ct15), sl15⟩)
    (c_15 : PySem.W.codeIn K cd15 ("pieces_of" : Str) = true)
    (k15 : PySem.W.keepIn K (.ref f15) = true)
    (a16 : PySem.W.nsIn K mainGlobals ("trees_of" : Str) = some (some (.ref f16)))
    (l16 : K.lookup f16 = some ⟨oc16, od16, .func (PySem.W.fnOf ("trees_of" : Str) ("trees_of" : Str) (defArgs st_trees_of) (defBody st_trees_of) (defScope st_trees_of) .none kV16 dc16 pm16 an16 cd16 ct16), sl16⟩)
    (c_16 : PySem.W.codeIn K cd16 ("trees_of" : Str) = true)
    (k16 : PySem.W.keepIn K (.ref f16) = true)
    (a17 : PySem.W.nsIn K mainGlobals ("only_tree" : Str) = some (some (.ref f17)))
    (l17 : K.lookup f17 = some ⟨oc17, od17, .func (PySem.W.fnOf ("only_tree" : Str) ("only_tree" : Str) (defArgs st_only_tree) (defBody st_only_tree) (defScope st_only_tree) .none kV17 dc17 pm17 an17 cd17 ct17), sl17⟩)
    (c_17 : PySem.W.codeIn K cd17 ("only_tree" : Str) = true)
    (k17 : PySem.W.keepIn K (.ref f17) = true)
    (a18 : PySem.W.nsIn K mainGlobals ("is_short_row" : Str) = some (some (.ref f18)))
    (l18 : K.lookup f18 = some ⟨oc18, od18, .func (PySem.W.fnOf ("is_short_row" : Str) ("is_short_row" : Str) (defArgs st_is_short_row) (defBody st_is_short_row) (defScope st_is_short_row) .none kV18 dc18 pm18 an18 cd18 ct18), sl18⟩)
    (c_18 : PySem.W.codeIn K cd18 ("is_short_row" : Str) = true)
    (k18 : PySem.W.keepIn K (.ref f18) = true)
    (a19 : PySem.W.nsIn K mainGlobals ("is_whole" : Str) = some (some (.ref f19)))
    (l19 : K.lookup f19 = some ⟨oc19, od19, .func (PySem.W.fnOf ("is_whole" : Str) ("is_whole" : Str) (defArgs st_is_whole) (defBody st_is_whole) (defScope st_is_whole) .none kV19 dc19 pm19 an19 cd19 ct19), sl19⟩)
    (c_19 : PySem.W.codeIn K cd19 ("is_whole" : Str) = true)
    (k19 : PySem.W.keepIn K (.ref f19) = true)
    (a20 : PySem.W.nsIn K mainGlobals ("is_short_text" : Str) = some (some (.ref f20)))
    (l20 : K.lookup f20 = some ⟨oc20, od20, .func (PySem.W.fnOf ("is_short_text" : Str) ("is_short_text" : Str) (defArgs st_is_short_text) (defBody st_is_short_text) (defScope st_is_short_text) .none kV20 dc20 pm20 an20 (.ref c20) ct20), sl20⟩)
    (c_20 : PySem.W.codeIn K (.ref c20) ("is_short_text" : Str) = true)
    (k20 : PySem.W.keepIn K (.ref f20) = true)
    (lc20 : K.lookup c20 = some ⟨oq20, oe20, .fields vs20, sm20⟩)
    (t20 : (vs20[11]? : Option Value) = some (.ref P20))
    (n20 : K.lookup P20 = none)
    (r20 : (recsOf q).find? (fun e => e.name == ("is_short_text" : Str)) = some dr20)
    (a21 : PySem.W.nsIn K mainGlobals ("is_plain_single" : Str) = some (some (.ref f21)))
    (l21 : K.lookup f21 = some ⟨oc21, od21, .func (PySem.W.fnOf ("is_plain_single" : Str) ("is_plain_single" : Str) (defArgs st_is_plain_single) (defBody st_is_plain_single) (defScope st_is_plain_single) .none kV21 dc21 pm21 an21 cd21 ct21), sl21⟩)
    (c_21 : PySem.W.codeIn K cd21 ("is_plain_single" : Str) = true)
    (k21 : PySem.W.keepIn K (.ref f21) = true)
    (a22 : PySem.W.nsIn K mainGlobals ("is_thing" : Str) = some (some (.ref f22)))
    (l22 : K.lookup f22 = some ⟨oc22, od22, .func (PySem.W.fnOf ("is_thing" : Str) ("is_thing" : Str) (defArgs st_is_thing) (defBody st_is_thing) (defScope st_is_thing) .none kV22 dc22 pm22 an22 cd22 ct22), sl22⟩)
    (c_22 : PySem.W.codeIn K cd22 ("is_thing" : Str) = true)
    (k22 : PySem.W.keepIn K (.ref f22) = true)
    (a23 : PySem.W.nsIn K mainGlobals ("is_name" : Str) = some (some (.ref f23)))
    (l23 : K.lookup f23 = some ⟨oc23, od23, .func (PySem.W.fnOf ("is_name" : Str) ("is_name" : Str) (defArgs st_is_name) (defBody st_is_name) (defScope st_is_name) .none kV23 dc23 pm23 an23 (.ref c23) ct23), sl23⟩)
    (c_23 : PySem.W.codeIn K (.ref c23) ("is_name" : Str) = true)
    (k23 : PySem.W.keepIn K (.ref f23) = true)
    (lc23 : K.lookup c23 = some ⟨oq23, oe23, .fields vs23, sm23⟩)
    (t23 : (vs23[11]? : Option Value) = some (.ref P23))
    (n23 : K.lookup P23 = none)
    (r23 : (recsOf q).find? (fun e => e.name == ("is_name" : Str)) = some dr23)
    (a24 : PySem.W.nsIn K mainGlobals ("is_deed_or_kind" : Str) = some (some (.ref f24)))
    (l24 : K.lookup f24 = some ⟨oc24, od24, .func (PySem.W.fnOf ("is_deed_or_kind" : Str) ("is_deed_or_kind" : Str) (defArgs st_is_deed_or_kind) (defBody st_is_deed_or_kind) (defScope st_is_deed_or_kind) .none kV24 dc24 pm24 an24 cd24 ct24), sl24⟩)
    (c_24 : PySem.W.codeIn K cd24 ("is_deed_or_kind" : Str) = true)
    (k24 : PySem.W.keepIn K (.ref f24) = true)
    (a25 : PySem.W.nsIn K mainGlobals ("is_single" : Str) = some (some (.ref f25)))
    (l25 : K.lookup f25 = some ⟨oc25, od25, .func (PySem.W.fnOf ("is_single" : Str) ("is_single" : Str) (defArgs st_is_single) (defBody st_is_single) (defScope st_is_single) .none kV25 dc25 pm25 an25 cd25 ct25), sl25⟩)
    (c_25 : PySem.W.codeIn K cd25 ("is_single" : Str) = true)
    (k25 : PySem.W.keepIn K (.ref f25) = true)
    (a26 : PySem.W.nsIn K mainGlobals ("is_built_of" : Str) = some (some (.ref f26)))
    (l26 : K.lookup f26 = some ⟨oc26, od26, .func (PySem.W.fnOf ("is_built_of" : Str) ("is_built_of" : Str) (defArgs st_is_built_of) (defBody st_is_built_of) (defScope st_is_built_of) .none kV26 dc26 pm26 an26 cd26 ct26), sl26⟩)
    (c_26 : PySem.W.codeIn K cd26 ("is_built_of" : Str) = true)
    (k26 : PySem.W.keepIn K (.ref f26) = true)
    (a27 : PySem.W.nsIn K mainGlobals ("is_worth" : Str) = some (some (.ref f27)))
    (l27 : K.lookup f27 = some ⟨oc27, od27, .func (PySem.W.fnOf ("is_worth" : Str) ("is_worth" : Str) (defArgs st_is_worth) (defBody st_is_worth) (defScope st_is_worth) .none kV27 dc27 pm27 an27 cd27 ct27), sl27⟩)
    (c_27 : PySem.W.codeIn K cd27 ("is_worth" : Str) = true)
    (k27 : PySem.W.keepIn K (.ref f27) = true)
    (a28 : PySem.W.nsIn K mainGlobals ("whole_of" : Str) = some (some (.ref f28)))
    (l28 : K.lookup f28 = some ⟨oc28, od28, .func (PySem.W.fnOf ("whole_of" : Str) ("whole_of" : Str) (defArgs st_whole_of) (defBody st_whole_of) (defScope st_whole_of) .none kV28 dc28 pm28 an28 cd28 ct28), sl28⟩)
    (c_28 : PySem.W.codeIn K cd28 ("whole_of" : Str) = true)
    (k28 : PySem.W.keepIn K (.ref f28) = true)
    (a29 : PySem.W.nsIn K mainGlobals ("single_of" : Str) = some (some (.ref f29)))
    (l29 : K.lookup f29 = some ⟨oc29, od29, .func (PySem.W.fnOf ("single_of" : Str) ("single_of" : Str) (defArgs st_single_of) (defBody st_single_of) (defScope st_single_of) .none kV29 dc29 pm29 an29 cd29 ct29), sl29⟩)
    (c_29 : PySem.W.codeIn K cd29 ("single_of" : Str) = true)
    (k29 : PySem.W.keepIn K (.ref f29) = true)
    (a30 : PySem.W.nsIn K mainGlobals ("worth_of" : Str) = some (some (.ref f30)))
    (l30 : K.lookup f30 = some ⟨oc30, od30, .func (PySem.W.fnOf ("worth_of" : Str) ("worth_of" : Str) (defArgs st_worth_of) (defBody st_worth_of) (defScope st_worth_of) .none kV30 dc30 pm30 an30 cd30 ct30), sl30⟩)
    (c_30 : PySem.W.codeIn K cd30 ("worth_of" : Str) = true)
    (k30 : PySem.W.keepIn K (.ref f30) = true)
    (a31 : PySem.W.nsIn K mainGlobals ("read_worth" : Str) = some (some (.ref f31)))
    (l31 : K.lookup f31 = some ⟨oc31, od31, .func (PySem.W.fnOf ("read_worth" : Str) ("read_worth" : Str) (defArgs st_read_worth) (defBody st_read_worth) (defScope st_read_worth) .none kV31 dc31 pm31 an31 cd31 ct31), sl31⟩)
    (c_31 : PySem.W.codeIn K cd31 ("read_worth" : Str) = true)
    (k31 : PySem.W.keepIn K (.ref f31) = true)
    (a32 : PySem.W.nsIn K mainGlobals ("_law_text_of" : Str) = some (some (.ref f32)))
    (l32 : K.lookup f32 = some ⟨oc32, od32, .func (PySem.W.fnOf ("_law_text_of" : Str) ("_law_text_of" : Str) (defArgs st_l_text_of) (defBody st_l_text_of) (defScope st_l_text_of) .none kV32 dc32 pm32 an32 cd32 ct32), sl32⟩)
    (c_32 : PySem.W.codeIn K cd32 ("_law_text_of" : Str) = true)
    (k32 : PySem.W.keepIn K (.ref f32) = true)
    (a33 : PySem.W.nsIn K mainGlobals ("_law_right" : Str) = some (some (.ref f33)))
    (l33 : K.lookup f33 = some ⟨oc33, od33, .func (PySem.W.fnOf ("_law_right" : Str) ("_law_right" : Str) (defArgs st_l_right) (defBody st_l_right) (defScope st_l_right) .none kV33 dc33 pm33 an33 cd33 ct33), sl33⟩)
    (c_33 : PySem.W.codeIn K cd33 ("_law_right" : Str) = true)
    (k33 : PySem.W.keepIn K (.ref f33) = true)
    (a34 : PySem.W.nsIn K mainGlobals ("law" : Str) = some (some (.ref f34)))
    (l34 : K.lookup f34 = some ⟨oc34, od34, .func (PySem.W.fnOf ("law" : Str) ("law" : Str) (defArgs st_law) (defBody st_law) (defScope st_law) .none kV34 dc34 pm34 an34 cd34 ct34), sl34⟩)
    (c_34 : PySem.W.codeIn K cd34 ("law" : Str) = true)
    (k34 : PySem.W.keepIn K (.ref f34) = true)
    (z_all : PySem.W.nsIn K mainGlobals ("all" : Str) = some none)
    (z_bool : PySem.W.nsIn K mainGlobals ("bool" : Str) = some none)
    (z_int : PySem.W.nsIn K mainGlobals ("int" : Str) = some none)
    (z_isinstance : PySem.W.nsIn K mainGlobals ("isinstance" : Str) = some none)
    (z_len : PySem.W.nsIn K mainGlobals ("len" : Str) = some none)
    (z_list : PySem.W.nsIn K mainGlobals ("list" : Str) = some none)
    (z_ord : PySem.W.nsIn K mainGlobals ("ord" : Str) = some none)
    (z_range : PySem.W.nsIn K mainGlobals ("range" : Str) = some none)
    (z_repr : PySem.W.nsIn K mainGlobals ("repr" : Str) = some none)
    (z_str : PySem.W.nsIn K mainGlobals ("str" : Str) = some none)
    (z_tuple : PySem.W.nsIn K mainGlobals ("tuple" : Str) = some none)
    (v_GREATEST : PySem.W.nsIn K mainGlobals ("GREATEST" : Str) = some (some (.int (1000000000000000) tk_GREATEST)))
    (v_MOST_FIGURES : PySem.W.nsIn K mainGlobals ("MOST_FIGURES" : Str) = some (some (.int (16) tk_MOST_FIGURES)))
    (v_MOST_OPEN : PySem.W.nsIn K mainGlobals ("MOST_OPEN" : Str) = some (some (.int (160) tk_MOST_OPEN)))
    (v_NAME_SIGNS : PySem.W.nsIn K mainGlobals ("NAME_SIGNS" : Str) = some (some (.int (8) tk_NAME_SIGNS)))
    (v_PARTING_SIGNS : PySem.W.nsIn K mainGlobals ("PARTING_SIGNS" : Str) = some (some (.str (("()[] '" : Str)) tk_PARTING_SIGNS)))
    (v_PERCENT : PySem.W.nsIn K mainGlobals ("PERCENT" : Str) = some (some (.int (37) tk_PERCENT)))
    (v_QUOTE : PySem.W.nsIn K mainGlobals ("QUOTE" : Str) = some (some (.int (39) tk_QUOTE)))
    (v_ROWS_DEEP : PySem.W.nsIn K mainGlobals ("ROWS_DEEP" : Str) = some (some (.int (8) tk_ROWS_DEEP)))
    (v_ROW_PARTS : PySem.W.nsIn K mainGlobals ("ROW_PARTS" : Str) = some (some (.int (40) tk_ROW_PARTS)))
    (v_TEXT_SIGNS : PySem.W.nsIn K mainGlobals ("TEXT_SIGNS" : Str) = some (some (.int (20) tk_TEXT_SIGNS)))
    (v_WORTHS_IN_ALL : PySem.W.nsIn K mainGlobals ("WORTHS_IN_ALL" : Str) = some (some (.int (200) tk_WORTHS_IN_ALL)))
    (vd_CLOSED : PySem.W.nsIn K mainGlobals ("CLOSED" : Str) = some (some (.ref ad_CLOSED)))
    (ld_CLOSED : K.lookup ad_CLOSED = some ⟨.type "dict", none, .dict es_CLOSED nd_CLOSED, #[]⟩)
    (kd_CLOSED : PySem.W.KeysLit w.params es_CLOSED.toList)
    (lw_CLOSED : (ad_CLOSED == sysModules) = false)
    (pd_CLOSED : KPr K es_CLOSED.toList tab_CLOSED)
    (vd_WORDS : PySem.W.nsIn K mainGlobals ("WORDS" : Str) = some (some (.ref ad_WORDS)))
    (ld_WORDS : K.lookup ad_WORDS = some ⟨.type "dict", none, .dict es_WORDS nd_WORDS, #[]⟩)
    (kd_WORDS : PySem.W.KeysLit w.params es_WORDS.toList)
    (lw_WORDS : (ad_WORDS == sysModules) = false)
    (pd_WORDS : KPr K es_WORDS.toList tab_WORDS)
    (nsm : K.lookup sysModules = none) (ins : importsNone q = true)
    : LawG l w K 63 63 "_law_script" mg fa h := by
  have e := hfa.symm.trans (PySem.W.mg_of X G a34)
  cases e
  have D0 : Kd K mg ("_law_begun" : Str) st_l_begun _ _ _ := ⟨⟨_, _, _, _, _, _, _, _, rfl, l0⟩, ⟨k0, c_0⟩, PySem.W.mg_of X G a0⟩
  have D1 : Kd K mg ("_law_alike_looks" : Str) st_l_alike_looks _ _ _ := ⟨⟨_, _, _, _, _, _, _, _, rfl, l1⟩, ⟨k1, c_1⟩, PySem.W.mg_of X G a1⟩
  have D2 : Kd K mg ("_law_dealt" : Str) st_l_dealt _ _ _ := ⟨⟨_, _, _, _, _, _, _, _, rfl, l2⟩, ⟨k2, c_2⟩, PySem.W.mg_of X G a2⟩
  have D3 : Kd K mg ("_law_pick" : Str) st_l_pick _ _ _ := ⟨⟨_, _, _, _, _, _, _, _, rfl, l3⟩, ⟨k3, c_3⟩, PySem.W.mg_of X G a3⟩
  have D4 : Kd K mg ("_law_label" : Str) st_l_label _ _ _ := ⟨⟨_, _, _, _, _, _, _, _, rfl, l4⟩, ⟨k4, c_4⟩, PySem.W.mg_of X G a4⟩
  have D5 : Kd K mg ("_law_leaf" : Str) st_l_leaf _ _ _ := ⟨⟨_, _, _, _, _, _, _, _, rfl, l5⟩, ⟨k5, c_5⟩, PySem.W.mg_of X G a5⟩
  have D6 : Kd K mg ("_law_drawn" : Str) st_l_drawn _ _ _ := ⟨⟨_, _, _, _, _, _, _, _, rfl, l6⟩, ⟨k6, c_6⟩, PySem.W.mg_of X G a6⟩
  have D7 : Kd K mg ("_law_chain" : Str) st_l_chain _ _ _ := ⟨⟨_, _, _, _, _, _, _, _, rfl, l7⟩, ⟨k7, c_7⟩, PySem.W.mg_of X G a7⟩
  have D8 : Kd K mg ("_law_wide" : Str) st_l_wide _ _ _ := ⟨⟨_, _, _, _, _, _, _, _, rfl, l8⟩, ⟨k8, c_8⟩, PySem.W.mg_of X G a8⟩
  have D9 : Kd K mg ("_law_greatest" : Str) st_l_greatest _ _ _ := ⟨⟨_, _, _, _, _, _, _, _, rfl, l9⟩, ⟨k9, c_9⟩, PySem.W.mg_of X G a9⟩
  have D10 : Kd K mg ("_law_signs" : Str) st_l_signs _ _ _ := ⟨⟨_, _, _, _, _, _, _, _, rfl, l10⟩, ⟨k10, c_10⟩, PySem.W.mg_of X G a10⟩
  have D11 : Kd K mg ("show_compound" : Str) st_show_compound _ _ _ := ⟨⟨_, _, _, _, _, _, _, _, rfl, l11⟩, ⟨k11, c_11⟩, PySem.W.mg_of X G a11⟩
  have D12 : Kd K mg ("show_worth" : Str) st_show_worth _ _ _ := ⟨⟨_, _, _, _, _, _, _, _, rfl, l12⟩, ⟨k12, c_12⟩, PySem.W.mg_of X G a12⟩
  have D13 : Kd K mg ("end_of_quoted" : Str) st_end_of_quoted _ _ _ := ⟨⟨_, _, _, _, _, _, _, _, rfl, l13⟩, ⟨k13, c_13⟩, PySem.W.mg_of X G a13⟩
  have D14 : Kd K mg ("end_of_piece" : Str) st_end_of_piece _ _ _ := ⟨⟨_, _, _, _, _, _, _, _, rfl, l14⟩, ⟨k14, c_14⟩, PySem.W.mg_of X G a14⟩
  have D15 : Kd K mg ("pieces_of" : Str) st_pieces_of _ _ _ := ⟨⟨_, _, _, _, _, _, _, _, rfl, l15⟩, ⟨k15, c_15⟩, PySem.W.mg_of X G a15⟩
  have D16 : Kd K mg ("trees_of" : Str) st_trees_of _ _ _ := ⟨⟨_, _, _, _, _, _, _, _, rfl, l16⟩, ⟨k16, c_16⟩, PySem.W.mg_of X G a16⟩
  have D17 : Kd K mg ("only_tree" : Str) st_only_tree _ _ _ := ⟨⟨_, _, _, _, _, _, _, _, rfl, l17⟩, ⟨k17, c_17⟩, PySem.W.mg_of X G a17⟩
  have D18 : Kd K mg ("is_short_row" : Str) st_is_short_row _ _ _ := ⟨⟨_, _, _, _, _, _, _, _, rfl, l18⟩, ⟨k18, c_18⟩, PySem.W.mg_of X G a18⟩
  have D19 : Kd K mg ("is_whole" : Str) st_is_whole _ _ _ := ⟨⟨_, _, _, _, _, _, _, _, rfl, l19⟩, ⟨k19, c_19⟩, PySem.W.mg_of X G a19⟩
  have D20 : Kd K mg ("is_short_text" : Str) st_is_short_text _ _ _ := ⟨⟨_, _, _, _, _, _, _, _, rfl, l20⟩, ⟨k20, c_20⟩, PySem.W.mg_of X G a20⟩
  have D21 : Kd K mg ("is_plain_single" : Str) st_is_plain_single _ _ _ := ⟨⟨_, _, _, _, _, _, _, _, rfl, l21⟩, ⟨k21, c_21⟩, PySem.W.mg_of X G a21⟩
  have D22 : Kd K mg ("is_thing" : Str) st_is_thing _ _ _ := ⟨⟨_, _, _, _, _, _, _, _, rfl, l22⟩, ⟨k22, c_22⟩, PySem.W.mg_of X G a22⟩
  have D23 : Kd K mg ("is_name" : Str) st_is_name _ _ _ := ⟨⟨_, _, _, _, _, _, _, _, rfl, l23⟩, ⟨k23, c_23⟩, PySem.W.mg_of X G a23⟩
  have D24 : Kd K mg ("is_deed_or_kind" : Str) st_is_deed_or_kind _ _ _ := ⟨⟨_, _, _, _, _, _, _, _, rfl, l24⟩, ⟨k24, c_24⟩, PySem.W.mg_of X G a24⟩
  have D25 : Kd K mg ("is_single" : Str) st_is_single _ _ _ := ⟨⟨_, _, _, _, _, _, _, _, rfl, l25⟩, ⟨k25, c_25⟩, PySem.W.mg_of X G a25⟩
  have D26 : Kd K mg ("is_built_of" : Str) st_is_built_of _ _ _ := ⟨⟨_, _, _, _, _, _, _, _, rfl, l26⟩, ⟨k26, c_26⟩, PySem.W.mg_of X G a26⟩
  have D27 : Kd K mg ("is_worth" : Str) st_is_worth _ _ _ := ⟨⟨_, _, _, _, _, _, _, _, rfl, l27⟩, ⟨k27, c_27⟩, PySem.W.mg_of X G a27⟩
  have D28 : Kd K mg ("whole_of" : Str) st_whole_of _ _ _ := ⟨⟨_, _, _, _, _, _, _, _, rfl, l28⟩, ⟨k28, c_28⟩, PySem.W.mg_of X G a28⟩
  have D29 : Kd K mg ("single_of" : Str) st_single_of _ _ _ := ⟨⟨_, _, _, _, _, _, _, _, rfl, l29⟩, ⟨k29, c_29⟩, PySem.W.mg_of X G a29⟩
  have D30 : Kd K mg ("worth_of" : Str) st_worth_of _ _ _ := ⟨⟨_, _, _, _, _, _, _, _, rfl, l30⟩, ⟨k30, c_30⟩, PySem.W.mg_of X G a30⟩
  have D31 : Kd K mg ("read_worth" : Str) st_read_worth _ _ _ := ⟨⟨_, _, _, _, _, _, _, _, rfl, l31⟩, ⟨k31, c_31⟩, PySem.W.mg_of X G a31⟩
  have D32 : Kd K mg ("_law_text_of" : Str) st_l_text_of _ _ _ := ⟨⟨_, _, _, _, _, _, _, _, rfl, l32⟩, ⟨k32, c_32⟩, PySem.W.mg_of X G a32⟩
  have D33 : Kd K mg ("_law_right" : Str) st_l_right _ _ _ := ⟨⟨_, _, _, _, _, _, _, _, rfl, l33⟩, ⟨k33, c_33⟩, PySem.W.mg_of X G a33⟩
  have D34 : Kd K mg ("law" : Str) st_law _ _ _ := ⟨⟨_, _, _, _, _, _, _, _, rfl, l34⟩, ⟨k34, c_34⟩, PySem.W.mg_of X G a34⟩
  have Tx : Txt K mg := ⟨PySem.W.mg_none_of X G z_all, PySem.W.mg_none_of X G z_bool, PySem.W.mg_none_of X G z_int, PySem.W.mg_none_of X G z_isinstance, PySem.W.mg_none_of X G z_len, PySem.W.mg_none_of X G z_list, PySem.W.mg_none_of X G z_ord, PySem.W.mg_none_of X G z_range, PySem.W.mg_none_of X G z_repr, PySem.W.mg_none_of X G z_str, PySem.W.mg_none_of X G z_tuple, ⟨_, PySem.W.mg_of X G v_GREATEST, ⟨_, rfl⟩⟩, ⟨_, PySem.W.mg_of X G v_MOST_FIGURES, ⟨_, rfl⟩⟩, ⟨_, PySem.W.mg_of X G v_MOST_OPEN, ⟨_, rfl⟩⟩, ⟨_, PySem.W.mg_of X G v_NAME_SIGNS, ⟨_, rfl⟩⟩, ⟨_, PySem.W.mg_of X G v_PARTING_SIGNS, ⟨_, rfl⟩⟩, ⟨_, PySem.W.mg_of X G v_PERCENT, ⟨_, rfl⟩⟩, ⟨_, PySem.W.mg_of X G v_QUOTE, ⟨_, rfl⟩⟩, ⟨_, PySem.W.mg_of X G v_ROWS_DEEP, ⟨_, rfl⟩⟩, ⟨_, PySem.W.mg_of X G v_ROW_PARTS, ⟨_, rfl⟩⟩, ⟨_, PySem.W.mg_of X G v_TEXT_SIGNS, ⟨_, rfl⟩⟩, ⟨_, PySem.W.mg_of X G v_WORTHS_IN_ALL, ⟨_, rfl⟩⟩⟩
  have tb20 := PySem.W.tab_of T X r20 (Mi.tabIn_of a20 l20 rfl lc20 t20)
  have tb23 := PySem.W.tab_of T X r23 (Mi.tabIn_of a23 l23 rfl lc23 t23)
  obtain ⟨V, eV⟩ : ∃ V : FV, V = ⟨ad_CLOSED, ad_WORDS, f25⟩ := ⟨_, rfl⟩
  have hV : HV K w V mg := by rw [eV]; exact ⟨PySem.W.mg_of X G vd_CLOSED, ⟨_, _, ⟨ld_CLOSED, kd_CLOSED, lw_CLOSED⟩, pd_CLOSED⟩, PySem.W.mg_of X G vd_WORDS, ⟨_, _, ⟨ld_WORDS, kd_WORDS, lw_WORDS⟩, pd_WORDS⟩, PySem.W.mg_of X G a25⟩
  refine ⟨PySem.W.fnOf "law" "law" (defArgs st_law) (defBody st_law) (defScope st_law) .none kV34 dc34 pm34 an34 cd34 ct34, [], [(c20, P20), (c23, P23)], (f_law V), (by intro p hp; simp only [List.mem_cons, List.not_mem_nil, or_false] at hp; rcases hp with rfl | rfl <;> first | exact tb20.2 | exact tb23.2), (by intro p hp; simp only [List.mem_cons, List.not_mem_nil, or_false] at hp; rcases hp with rfl | rfl <;> first | exact n20 | exact n23), (by intro p hp; simp only [List.mem_cons, List.not_mem_nil, or_false] at hp; rcases hp with rfl | rfl <;> first | exact tb20.1 | exact tb23.1), nsm, (let ⟨mm, z, _⟩ := (T.seer ins).mods; ⟨mm, z⟩), fun s v => .of_eq rfl, fun ns hl hb => law_ok hl hb, fun base _ _ TB => ?_⟩
  have TB20 := TB (c20, P20) (by simp)
  have hP20 : P20 ∈ [(c20, P20), (c23, P23)].map (·.2) := by simp
  have TB23 := TB (c23, P23) (by simp)
  have hP23 : P23 ∈ [(c20, P20), (c23, P23)].map (·.2) := by simp
  have C_l_begun := ok_l_begun (P := l.prog) (w := w) (base := base) (cls := []) (ts := [(c20, P20), (c23, P23)].map (·.2)) Tx D0
  have C_l_alike_looks := ok_l_alike_looks (P := l.prog) (w := w) (base := base) (cls := []) (ts := [(c20, P20), (c23, P23)].map (·.2)) Tx D1
  have C_l_dealt := ok_l_dealt (P := l.prog) (w := w) (base := base) (cls := []) (ts := [(c20, P20), (c23, P23)].map (·.2)) Tx D2
  have C_l_pick := ok_l_pick (P := l.prog) (w := w) (base := base) (cls := []) (ts := [(c20, P20), (c23, P23)].map (·.2)) Tx C_l_dealt D3
  have C_l_label := ok_l_label (P := l.prog) (w := w) (base := base) (cls := []) (ts := [(c20, P20), (c23, P23)].map (·.2)) Tx C_l_pick D4
  have C_l_leaf := ok_l_leaf (P := l.prog) (w := w) (base := base) (cls := []) (ts := [(c20, P20), (c23, P23)].map (·.2)) Tx C_l_dealt C_l_pick C_l_label D5
  have C_l_drawn := ok_l_drawn (P := l.prog) (w := w) (base := base) (cls := []) (ts := [(c20, P20), (c23, P23)].map (·.2)) Tx C_l_dealt C_l_leaf C_l_pick C_l_alike_looks D6 30
  have C_l_chain := ok_l_chain (P := l.prog) (w := w) (base := base) (cls := []) (ts := [(c20, P20), (c23, P23)].map (·.2)) Tx D7
  have C_l_wide := ok_l_wide (P := l.prog) (w := w) (base := base) (cls := []) (ts := [(c20, P20), (c23, P23)].map (·.2)) Tx D8
  have C_l_greatest := ok_l_greatest (P := l.prog) (w := w) (base := base) (cls := []) (ts := [(c20, P20), (c23, P23)].map (·.2)) Tx C_l_leaf C_l_chain C_l_wide D9
  have C_l_signs := ok_l_signs (P := l.prog) (w := w) (base := base) (cls := []) (ts := [(c20, P20), (c23, P23)].map (·.2)) Tx C_l_dealt C_l_pick D10
  have C_show_worth := ok_show_worth (P := l.prog) (w := w) (base := base) (cls := []) (ts := [(c20, P20), (c23, P23)].map (·.2)) Tx D11 D12 30
  have C_end_of_quoted := ok_end_of_quoted (P := l.prog) (w := w) (base := base) (cls := []) (ts := [(c20, P20), (c23, P23)].map (·.2)) Tx D13
  have C_end_of_piece := ok_end_of_piece (P := l.prog) (w := w) (base := base) (cls := []) (ts := [(c20, P20), (c23, P23)].map (·.2)) Tx C_end_of_quoted D14
  have C_pieces_of := ok_pieces_of (P := l.prog) (w := w) (base := base) (cls := []) (ts := [(c20, P20), (c23, P23)].map (·.2)) Tx C_end_of_piece D15
  have C_trees_of := ok_trees_of (P := l.prog) (w := w) (base := base) (cls := []) (ts := [(c20, P20), (c23, P23)].map (·.2)) Tx hV C_pieces_of D16
  have C_only_tree := ok_only_tree (P := l.prog) (w := w) (base := base) (cls := []) (ts := [(c20, P20), (c23, P23)].map (·.2)) Tx hV C_trees_of D17
  have C_is_short_row := ok_is_short_row (P := l.prog) (w := w) (base := base) (cls := []) (ts := [(c20, P20), (c23, P23)].map (·.2)) Tx D18
  have C_is_whole := ok_is_whole (P := l.prog) (w := w) (base := base) (cls := []) (ts := [(c20, P20), (c23, P23)].map (·.2)) Tx D19
  have C_is_short_text := ok_is_short_text (P := l.prog) (w := w) (base := base) (cls := []) (ts := [(c20, P20), (c23, P23)].map (·.2)) Tx TB20 hP20 D20
  have C_is_plain_single := ok_is_plain_single (P := l.prog) (w := w) (base := base) (cls := []) (ts := [(c20, P20), (c23, P23)].map (·.2)) Tx C_is_whole C_is_short_text D21
  have C_is_thing := ok_is_thing (P := l.prog) (w := w) (base := base) (cls := []) (ts := [(c20, P20), (c23, P23)].map (·.2)) Tx C_is_whole D22
  have C_is_name := ok_is_name (P := l.prog) (w := w) (base := base) (cls := []) (ts := [(c20, P20), (c23, P23)].map (·.2)) Tx TB23 hP23 D23
  have C_is_deed_or_kind := ok_is_deed_or_kind (P := l.prog) (w := w) (base := base) (cls := []) (ts := [(c20, P20), (c23, P23)].map (·.2)) Tx C_is_name D24
  have C_is_single := ok_is_single (P := l.prog) (w := w) (base := base) (cls := []) (ts := [(c20, P20), (c23, P23)].map (·.2)) Tx C_is_plain_single C_is_thing C_is_deed_or_kind D25
  have C_is_built_of := ok_is_built_of (P := l.prog) (w := w) (base := base) (cls := []) (ts := [(c20, P20), (c23, P23)].map (·.2)) Tx hV C_is_short_row C_is_single D26
  have C_is_worth := ok_is_worth (P := l.prog) (w := w) (base := base) (cls := []) (ts := [(c20, P20), (c23, P23)].map (·.2)) Tx hV C_is_built_of D27
  have C_whole_of := ok_whole_of (P := l.prog) (w := w) (base := base) (cls := []) (ts := [(c20, P20), (c23, P23)].map (·.2)) Tx D28
  have C_single_of := ok_single_of (P := l.prog) (w := w) (base := base) (cls := []) (ts := [(c20, P20), (c23, P23)].map (·.2)) Tx hV C_whole_of D29
  have C_worth_of := ok_worth_of (P := l.prog) (w := w) (base := base) (cls := []) (ts := [(c20, P20), (c23, P23)].map (·.2)) Tx hV C_single_of D30 30
  have C_read_worth := ok_read_worth (P := l.prog) (w := w) (base := base) (cls := []) (ts := [(c20, P20), (c23, P23)].map (·.2)) Tx hV C_worth_of C_only_tree C_is_worth C_show_worth D31
  have C_l_text_of := ok_l_text_of (P := l.prog) (w := w) (base := base) (cls := []) (ts := [(c20, P20), (c23, P23)].map (·.2)) Tx D32 30
  have C_l_right := ok_l_right (P := l.prog) (w := w) (base := base) (cls := []) (ts := [(c20, P20), (c23, P23)].map (·.2)) Tx hV C_l_text_of C_show_worth C_read_worth D33
  exact fn_law (P := l.prog) (w := w) (cls := []) Tx hV C_l_begun C_l_drawn C_l_greatest C_l_alike_looks C_l_signs C_l_right D34
end K04
open PySem PySem.W PyProof.Rows in
set_option maxRecDepth 100000 in
set_option maxHeartbeats 0 in
theorem PySem.Challenge.cw_everso_k04_worths_there_and_back_holds : PySem.Challenge.rw_everso_k04_worths_there_and_back.Holds := by
  w_on; o_law; k_head; (case hw => w_witness2)
  k_fill
  refine Mi.walkG (l := PySem.Challenge.rw_everso_k04_worths_there_and_back) (n := 63) (k := 63) (x := "_law_script") rfl (by decide) rfl ⟨rfl, by decide, by decide⟩ (fun w h Y => PySem.W.kIn_of Y) ?F
  case F =>
    intro w mg mb mean fa h T Y KX G hmg
    refine' K04.all_mk T KX G hmg ?a0 ?l0 ?c_0 ?k0 ?a1 ?l1 ?c_1 ?k1 ?a2 ?l2 ?c_2 ?k2 ?a3 ?l3 ?c_3 ?k3 ?a4 ?l4 ?c_4 ?k4 ?a5 ?l5 ?c_5 ?k5 ?a6 ?l6 ?c_6 ?k6 ?a7 ?l7 ?c_7 ?k7 ?a8 ?l8 ?c_8 ?k8 ?a9 ?l9 ?c_9 ?k9 ?a10 ?l10 ?c_10 ?k10 ?a11 ?l11 ?c_11 ?k11 ?a12 ?l12 ?c_12 ?k12 ?a13 ?l13 ?c_13 ?k13 ?a14 ?l14 ?c_14 ?k14 ?a15 ?l15 ?c_15 ?k15 ?a16 ?l16 ?c_16 ?k16 ?a17 ?l17 ?c_17 ?k17 ?a18 ?l18 ?c_18 ?k18 ?a19 ?l19 ?c_19 ?k19 ?a20 ?l20 ?c_20 ?k20 ?lc20 ?t20 ?n20 ?r20 ?a21 ?l21 ?c_21 ?k21 ?a22 ?l22 ?c_22 ?k22 ?a23 ?l23 ?c_23 ?k23 ?lc23 ?t23 ?n23 ?r23 ?a24 ?l24 ?c_24 ?k24 ?a25 ?l25 ?c_25 ?k25 ?a26 ?l26 ?c_26 ?k26 ?a27 ?l27 ?c_27 ?k27 ?a28 ?l28 ?c_28 ?k28 ?a29 ?l29 ?c_29 ?k29 ?a30 ?l30 ?c_30 ?k30 ?a31 ?l31 ?c_31 ?k31 ?a32 ?l32 ?c_32 ?k32 ?a33 ?l33 ?c_33 ?k33 ?a34 ?l34 ?c_34 ?k34 ?z_all ?z_bool ?z_int ?z_isinstance ?z_len ?z_list ?z_ord ?z_range ?z_repr ?z_str ?z_tuple ?v_GREATEST ?v_MOST_FIGURES ?v_MOST_OPEN ?v_NAME_SIGNS ?v_PARTING_SIGNS ?v_PERCENT ?v_QUOTE ?v_ROWS_DEEP ?v_ROW_PARTS ?v_TEXT_SIGNS ?v_WORTHS_IN_ALL ?vd_CLOSED ?ld_CLOSED ?kd_CLOSED ?lw_CLOSED ?pd_CLOSED ?vd_WORDS ?ld_WORDS ?kd_WORDS ?lw_WORDS ?pd_WORDS ?nsm ?ins
    (case a0 => k_is)
    (case l0 => k_is)
    (case c_0 => k_is)
    (case k0 => k_is)
    (case a1 => k_is)
    (case l1 => k_is)
    (case c_1 => k_is)
    (case k1 => k_is)
    (case a2 => k_is)
    (case l2 => k_is)
    (case c_2 => k_is)
    (case k2 => k_is)
    (case a3 => k_is)
    (case l3 => k_is)
    (case c_3 => k_is)
    (case k3 => k_is)
    (case a4 => k_is)
    (case l4 => k_is)
    (case c_4 => k_is)
    (case k4 => k_is)
    (case a5 => k_is)
    (case l5 => k_is)
    (case c_5 => k_is)
    (case k5 => k_is)
    (case a6 => k_is)
    (case l6 => k_is)
    (case c_6 => k_is)
    (case k6 => k_is)
    (case a7 => k_is)
    (case l7 => k_is)
    (case c_7 => k_is)
    (case k7 => k_is)
    (case a8 => k_is)
    (case l8 => k_is)
    (case c_8 => k_is)
    (case k8 => k_is)
    (case a9 => k_is)
    (case l9 => k_is)
    (case c_9 => k_is)
    (case k9 => k_is)
    (case a10 => k_is)
    (case l10 => k_is)
    (case c_10 => k_is)
    (case k10 => k_is)
    (case a11 => k_is)
    (case l11 => k_is)
    (case c_11 => k_is)
    (case k11 => k_is)
    (case a12 => k_is)
    (case l12 => k_is)
    (case c_12 => k_is)
    (case k12 => k_is)
    (case a13 => k_is)
    (case l13 => k_is)
    (case c_13 => k_is)
    (case k13 => k_is)
    (case a14 => k_is)
    (case l14 => k_is)
    (case c_14 => k_is)
    (case k14 => k_is)
    (case a15 => k_is)
    (case l15 => k_is)
    (case c_15 => k_is)
    (case k15 => k_is)
    (case a16 => k_is)
    (case l16 => k_is)
    (case c_16 => k_is)
    (case k16 => k_is)
    (case a17 => k_is)
    (case l17 => k_is)
    (case c_17 => k_is)
    (case k17 => k_is)
    (case a18 => k_is)
    (case l18 => k_is)
    (case c_18 => k_is)
    (case k18 => k_is)
    (case a19 => k_is)
    (case l19 => k_is)
    (case c_19 => k_is)
    (case k19 => k_is)
    (case a20 => k_is)
    (case l20 => k_is)
    (case c_20 => k_is)
    (case k20 => k_is)
    (case lc20 => k_is)
    (case t20 => first | rfl | kernel_rfl)
    (case n20 => first | rfl | kernel_rfl)
    (case r20 => first | rfl | kernel_rfl)
    (case a21 => k_is)
    (case l21 => k_is)
    (case c_21 => k_is)
    (case k21 => k_is)
    (case a22 => k_is)
    (case l22 => k_is)
    (case c_22 => k_is)
    (case k22 => k_is)
    (case a23 => k_is)
    (case l23 => k_is)
    (case c_23 => k_is)
    (case k23 => k_is)
    (case lc23 => k_is)
    (case t23 => first | rfl | kernel_rfl)
    (case n23 => first | rfl | kernel_rfl)
    (case r23 => first | rfl | kernel_rfl)
    (case a24 => k_is)
    (case l24 => k_is)
    (case c_24 => k_is)
    (case k24 => k_is)
    (case a25 => k_is)
    (case l25 => k_is)
    (case c_25 => k_is)
    (case k25 => k_is)
    (case a26 => k_is)
    (case l26 => k_is)
    (case c_26 => k_is)
    (case k26 => k_is)
    (case a27 => k_is)
    (case l27 => k_is)
    (case c_27 => k_is)
    (case k27 => k_is)
    (case a28 => k_is)
    (case l28 => k_is)
    (case c_28 => k_is)
    (case k28 => k_is)
    (case a29 => k_is)
    (case l29 => k_is)
    (case c_29 => k_is)
    (case k29 => k_is)
    (case a30 => k_is)
    (case l30 => k_is)
    (case c_30 => k_is)
    (case k30 => k_is)
    (case a31 => k_is)
    (case l31 => k_is)
    (case c_31 => k_is)
    (case k31 => k_is)
    (case a32 => k_is)
    (case l32 => k_is)
    (case c_32 => k_is)
    (case k32 => k_is)
    (case a33 => k_is)
    (case l33 => k_is)
    (case c_33 => k_is)
    (case k33 => k_is)
    (case a34 => k_is)
    (case l34 => k_is)
    (case c_34 => k_is)
    (case k34 => k_is)
    (case z_all => k_is)
    (case z_bool => k_is)
    (case z_int => k_is)
    (case z_isinstance => k_is)
    (case z_len => k_is)
    (case z_list => k_is)
    (case z_ord => k_is)
    (case z_range => k_is)
    (case z_repr => k_is)
    (case z_str => k_is)
    (case z_tuple => k_is)
    (case v_GREATEST => k_is)
    (case v_MOST_FIGURES => k_is)
    (case v_MOST_OPEN => k_is)
    (case v_NAME_SIGNS => k_is)
    (case v_PARTING_SIGNS => k_is)
    (case v_PERCENT => k_is)
    (case v_QUOTE => k_is)
    (case v_ROWS_DEEP => k_is)
    (case v_ROW_PARTS => k_is)
    (case v_TEXT_SIGNS => k_is)
    (case v_WORTHS_IN_ALL => k_is)
    (case vd_CLOSED => k_is)
    (case ld_CLOSED => k_is)
    (case kd_CLOSED => exact ⟨⟨_, _, rfl, rfl⟩, ⟨⟨_, _, rfl, rfl⟩, trivial⟩⟩)
    (case lw_CLOSED => first | rfl | decide)
    (case pd_CLOSED => exact (.cons ⟨⟨_, rfl⟩, _, fun _ _ => .str _, ⟨_, rfl⟩⟩ (.cons ⟨⟨_, rfl⟩, _, fun _ _ => .str _, ⟨_, rfl⟩⟩ .nil)))
    (case vd_WORDS => k_is)
    (case ld_WORDS => k_is)
    (case kd_WORDS => exact ⟨⟨_, _, rfl, rfl⟩, ⟨⟨_, _, rfl, rfl⟩, ⟨⟨_, _, rfl, rfl⟩, trivial⟩⟩⟩)
    (case lw_WORDS => first | rfl | decide)
    (case pd_WORDS => exact (.cons ⟨⟨_, rfl⟩, _, fun _ _ => .non, rfl⟩ (.cons ⟨⟨_, rfl⟩, _, fun _ _ => .bl true, rfl⟩ (.cons ⟨⟨_, rfl⟩, _, fun _ _ => .bl false, rfl⟩ .nil))))
    (case nsm => first | rfl | kernel_rfl)
    (case ins => first | rfl | kernel_rfl)

