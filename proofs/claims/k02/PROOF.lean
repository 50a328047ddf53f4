import PyProof.Rows.All
import HandS.ForMost
import HandS.ForExc
import HandS.AnyAll
import HandS.IsInst
import HandS.Style
import HandS.TupAny
import HandS.TupMul
import HandS.Flow
import HandS.Deep
import HandS.Text
import HandS.ForDict
import HandS.EndTab
import HandS.EndBits
import HandS.Dict
import HandS.Words
import HandS.DeepEq
import PySem.Challenge.RW_everso_k02_worths_of_anything
set_option Elab.async false
set_option linter.all false
set_option maxRecDepth 100000
set_option maxHeartbeats 0
/-! Mi0: a small store semantics over the layer: values, stores, what stands for what. -/
namespace Mi
open L2 PySem PySem.Spec PyProof.Rows

/-- a value: tuples (and lists that nobody changes: the script) are inline, what may change stands at a number of the store -/
inductive D where
  | non | bl (b : Bool) | int (i : Int) | str (x : Str) | tup (xs : List D) | rol (xs : List D) | ref (n : Nat) | ty (n : String) | own (C : Addr)
/-- what stands at a number -/
inductive O where
  | lst (xs : List D) | dic (kvs : List (Key × D)) | ins (c : Nat) (fs : List (Str × D))
abbrev AH := List O
/-- an exception: its class (an own one by its number, or a built-in one), its fields -/
inductive Cl where
  | own (c : Nat) | ty (n : String)
structure Exn where
  cl : Cl
  fs : List (Str × D)
inductive Res (α : Type) where
  | ok (a : α) (h : AH) | exc (x : Exn) (h : AH) | stuck
def Res.bind {α β : Type} (r : Res α) (f : α → AH → Res β) : Res β :=
  match r with
  | .ok a h => f a h
  | .exc x h => .exc x h
  | .stuck => .stuck
@[simp] theorem Res.bind_ok {α β : Type} (a : α) (h : AH) (f : α → AH → Res β) : (Res.ok a h).bind f = f a h := rfl
@[simp] theorem Res.bind_exc {α β : Type} (x : Exn) (h : AH) (f : α → AH → Res β) : (Res.exc (α := α) x h).bind f = .exc x h := rfl
@[simp] theorem Res.bind_stuck {α β : Type} (f : α → AH → Res β) : (Res.stuck (α := α)).bind f = .stuck := rfl
abbrev AEnv := List (Option D)

/-- a list that nobody changes -/
def SqR (K : PySem.W.Frag) (H : Hp) (a : Addr) (xs : List V) : Prop :=
  (∃ o, H a = some (.frz o (.lst xs))) ∨
    ∃ (ob : Obj) (zs : Array Value) (k : Nat), K.lookup a = some ob ∧ ob.cls = .type "list" ∧ ob.dict = none ∧ ob.data = .seq zs k ∧ zs.size ≤ sizeLine ∧ Vals xs zs.toList
theorem SqR.sq {K : PySem.W.Frag} {H : Hp} {a : Addr} {xs : List V} (h : SqR K H a xs) : SqL K H a xs := by
  rcases h with ⟨o, h⟩ | h
  · exact .inl (.inr ⟨o, h⟩)
  · exact .inr h
section
variable (K : PySem.W.Frag)
mutual
/-- v stands for d -/
inductive RV (ρ : List Addr) (H : Hp) : V → D → Prop where
  | non : RV ρ H .non .non
  | bl (b : Bool) : RV ρ H (.bl b) (.bl b)
  | int (i : Int) : RV ρ H (.int i) (.int i)
  | str (x : Str) : RV ρ H (.str x) (.str x)
  | tup {a : Addr} {xs : List V} {ds : List D} : SqT K H a xs → RVs ρ H xs ds → RV ρ H (.ref a) (.tup ds)
  | rol {a : Addr} {xs : List V} {ds : List D} : SqR K H a xs → RVs ρ H xs ds → RV ρ H (.ref a) (.rol ds)
  | ref {a : Addr} {n : Nat} : ρ[n]? = some a → RV ρ H (.ref a) (.ref n)
  | ty (n : String) : RV ρ H (.ty n) (.ty n)
  | own (C : Addr) : RV ρ H (.ref C) (.own C)
inductive RVs (ρ : List Addr) (H : Hp) : List V → List D → Prop where
  | nil : RVs ρ H [] []
  | cons {x : V} {d : D} {xs : List V} {ds : List D} : RV ρ H x d → RVs ρ H xs ds → RVs ρ H (x :: xs) (d :: ds)
end
def RKs (ρ : List Addr) (H : Hp) : List (Key × V) → List (Key × D) → Prop := Paired fun p q => p.1 = q.1 ∧ RV K ρ H p.2 q.2
def RFs (ρ : List Addr) (H : Hp) : List (Str × V) → List (Str × D) → Prop := Paired fun p q => p.1 = q.1 ∧ RV K ρ H p.2 q.2
/-- what stands at a -/
def RO (cls : List Addr) (ρ : List Addr) (H : Hp) (a : Addr) : O → Prop
  | .lst ds => ∃ xs, H a = some (.lst xs) ∧ RVs K ρ H xs ds
  | .dic kvs => ∃ xs, H a = some (.dK xs) ∧ RKs K ρ H xs kvs
  | .ins c fs => ∃ C dx xs, cls[c]? = some C ∧ H a = some (.ins C dx xs) ∧ RFs K ρ H xs fs
/-- the store h, its numbers standing at ρ -/
structure RH (cls : List Addr) (ts : List Addr) (ρ : List Addr) (H : Hp) (h : AH) : Prop where
  len : ρ.length = h.length
  nd : ρ.Nodup
  obj : ∀ (n : Nat) (a : Addr) (o : O), ρ[n]? = some a → h[n]? = some o → RO K cls ρ H a o
  tab : ∀ P ∈ ts, P ∉ ρ ∧ ∃ ps : Array Value, H P = some (.tbl ps) ∧ TriplesOk ps.toList
  sm : sysModules ∉ ρ ∧ ∃ φ, H sysModules = some (.ext φ)
/-- the slots stand for the names' values -/
def RE (ρ : List Addr) (H : Hp) (σ : L2.St) (ε : AEnv) : Prop := ε.length = σ.length ∧ ∀ (i : Nat) (d : D), ε[i]? = some (some d) → ∃ v, σ[i]? = some (some v) ∧ RV K ρ H v d
end
/-- the world goes on: numbers stay, new ones stand at new places, what no number stands at is as it was -/
structure Ext (ts : List Addr) (ρ ρ' : List Addr) (H H' : Hp) : Prop where
  pre : ρ <+: ρ'
  new : ∀ a ∈ ρ', a ∉ ρ → H a = none
  keep : ∀ a o, H a = some o → a ∉ ρ → a ∉ ts → H' a = some o
  tup : ∀ a xs, H a = some (.tup xs) → H' a = some (.tup xs)
  frz : ∀ a o u, H a = some (.frz o u) → H' a = some (.frz o u)
  there : ∀ a, H' a = none → H a = none
theorem Ext.refl {ts ρ : List Addr} {H : Hp} : Ext ts ρ ρ H H := ⟨List.prefix_refl _, fun _ h n => absurd h n, fun _ _ e _ _ => e, fun _ _ e => e, fun _ _ _ e => e, fun _ e => e⟩
theorem Ext.get {ts ρ ρ' : List Addr} {H H' : Hp} (e : Ext ts ρ ρ' H H') {n : Nat} {a : Addr} (h : ρ[n]? = some a) : ρ'[n]? = some a := by
  obtain ⟨r, rfl⟩ := e.pre
  rw [List.getElem?_append_left (List.getElem?_eq_some_iff.mp h).1]
  exact h
theorem Ext.sub {ts ρ ρ' : List Addr} {H H' : Hp} (e : Ext ts ρ ρ' H H') {a : Addr} (h : a ∈ ρ) : a ∈ ρ' := e.pre.subset h
theorem Ext.trans {ts ρ ρ1 ρ2 : List Addr} {H H1 H2 : Hp} (a : Ext ts ρ ρ1 H H1) (b : Ext ts ρ1 ρ2 H1 H2) : Ext ts ρ ρ2 H H2 where
  pre := a.pre.trans b.pre
  new := fun c h n => by
    by_cases h1 : c ∈ ρ1
    · exact a.new c h1 n
    · exact a.there c (b.new c h h1)
  keep := fun c o e n ht => by
    have z := a.keep c o e n ht
    refine b.keep c o z (fun h1 => ?_) ht
    rw [a.new c h1 n] at e
    cases e
  tup := fun c xs e => b.tup c xs (a.tup c xs e)
  frz := fun c o u e => b.frz c o u (a.frz c o u e)
  there := fun c e => a.there c (b.there c e)
theorem Ext.sqT {K : PySem.W.Frag} {ts ρ ρ' : List Addr} {H H' : Hp} (e : Ext ts ρ ρ' H H') {a : Addr} {xs : List V} (h : SqT K H a xs) : SqT K H' a xs := by
  rcases h with (z | ⟨o, z⟩) | z
  · exact .inl (.inl (e.tup _ _ z))
  · exact .inl (.inr ⟨o, e.frz _ _ _ z⟩)
  · exact .inr z
theorem Ext.sqR {K : PySem.W.Frag} {ts ρ ρ' : List Addr} {H H' : Hp} (e : Ext ts ρ ρ' H H') {a : Addr} {xs : List V} (h : SqR K H a xs) : SqR K H' a xs := by
  rcases h with ⟨o, h⟩ | h
  · exact .inl ⟨o, e.frz _ _ _ h⟩
  · exact .inr h
section
variable {K : PySem.W.Frag} {ts ρ ρ' : List Addr} {H H' : Hp}
mutual
theorem RV.mono (e : Ext ts ρ ρ' H H') : ∀ {v : V} {d : D}, RV K ρ H v d → RV K ρ' H' v d
  | _, _, .non => .non
  | _, _, .bl b => .bl b
  | _, _, .int i => .int i
  | _, _, .str x => .str x
  | _, _, .tup h r => .tup (e.sqT h) (RVs.mono e r)
  | _, _, .rol h r => .rol (e.sqR h) (RVs.mono e r)
  | _, _, .ref h => .ref (e.get h)
  | _, _, .ty n => .ty n
  | _, _, .own C => .own C
theorem RVs.mono (e : Ext ts ρ ρ' H H') : ∀ {xs : List V} {ds : List D}, RVs K ρ H xs ds → RVs K ρ' H' xs ds
  | _, _, .nil => .nil
  | _, _, .cons h r => .cons (RV.mono e h) (RVs.mono e r)
end
theorem RE.mono {σ : L2.St} {ε : AEnv} (e : Ext ts ρ ρ' H H') (h : RE K ρ H σ ε) : RE K ρ' H' σ ε :=
  ⟨h.1, fun i d q => let ⟨v, q1, r⟩ := h.2 i d q; ⟨v, q1, r.mono e⟩⟩
theorem RVs.length : ∀ {xs : List V} {ds : List D}, RVs K ρ H xs ds → xs.length = ds.length
  | _, _, .nil => rfl
  | _, _, .cons _ r => congrArg Nat.succ (RVs.length r)
theorem RVs.append : ∀ {xs ys : List V} {ds es : List D}, RVs K ρ H xs ds → RVs K ρ H ys es → RVs K ρ H (xs ++ ys) (ds ++ es)
  | _, _, _, _, .nil, s => s
  | _, _, _, _, .cons h r, s => .cons h (RVs.append r s)
theorem RVs.get : ∀ {xs : List V} {ds : List D} {i : Nat} {d : D}, RVs K ρ H xs ds → ds[i]? = some d → ∃ v, xs[i]? = some v ∧ RV K ρ H v d
  | _, _, _, _, .nil, e => absurd e (by simp)
  | _, _, 0, _, .cons h _, e => by simp at e; subst e; exact ⟨_, rfl, h⟩
  | _, _, i + 1, d, .cons _ r, e => by
    obtain ⟨v, h1, h2⟩ := RVs.get (i := i) (d := d) r (by simpa using e)
    exact ⟨v, by simpa using h1, h2⟩
theorem RVs.take : ∀ {xs : List V} {ds : List D} (n : Nat), RVs K ρ H xs ds → RVs K ρ H (xs.take n) (ds.take n)
  | _, _, 0, _ => .nil
  | _, _, _ + 1, .nil => .nil
  | _, _, n + 1, .cons h r => .cons h (RVs.take n r)
theorem RVs.drop : ∀ {xs : List V} {ds : List D} (n : Nat), RVs K ρ H xs ds → RVs K ρ H (xs.drop n) (ds.drop n)
  | _, _, 0, r => r
  | _, _, _ + 1, .nil => .nil
  | _, _, n + 1, .cons _ r => RVs.drop n r
theorem RVs.set {v : V} {d : D} (h : RV K ρ H v d) : ∀ {xs : List V} {ds : List D} (i : Nat), RVs K ρ H xs ds → RVs K ρ H (xs.set i v) (ds.set i d)
  | _, _, _, .nil => .nil
  | _, _, 0, .cons _ r => .cons h r
  | _, _, i + 1, .cons q r => .cons q (RVs.set h i r)
theorem RVs.reverse {xs : List V} {ds : List D} (h : RVs K ρ H xs ds) : RVs K ρ H xs.reverse ds.reverse := by
  induction xs generalizing ds with
  | nil => cases h; exact .nil
  | cons x xs ih =>
    cases h with
    | cons a b =>
      simp only [List.reverse_cons]
      exact (ih b).append (.cons a .nil)
theorem RVs.dropLast {xs : List V} {ds : List D} (h : RVs K ρ H xs ds) : RVs K ρ H xs.dropLast ds.dropLast := by
  rw [List.dropLast_eq_take, List.dropLast_eq_take, h.length]
  exact h.take _
theorem RVs.rep {xs : List V} {ds : List D} (h : RVs K ρ H xs ds) : ∀ k : Nat, RVs K ρ H (List.replicate k xs).flatten (List.replicate k ds).flatten
  | 0 => .nil
  | k + 1 => by
    simp only [List.replicate_succ, List.flatten_cons]
    exact h.append (RVs.rep h k)
theorem RKs.mono {xs : List (Key × V)} {ds : List (Key × D)} (e : Ext ts ρ ρ' H H') (h : RKs K ρ H xs ds) : RKs K ρ' H' xs ds := Paired.mapP h fun _ _ q => ⟨q.1, q.2.mono e⟩
theorem RFs.mono {xs : List (Str × V)} {ds : List (Str × D)} (e : Ext ts ρ ρ' H H') (h : RFs K ρ H xs ds) : RFs K ρ' H' xs ds := Paired.mapP h fun _ _ q => ⟨q.1, q.2.mono e⟩
end
end Mi

namespace Mi
open L2 PySem PySem.Spec PyProof.Rows

section
variable {K : PySem.W.Frag} {cls ts ρ ρ' : List Addr} {H H' : Hp} {h : AH}
theorem RO.mono {a : Addr} (e : Ext ts ρ ρ' H H') (k : ∀ o, H a = some o → H' a = some o) : ∀ {o : O}, RO K cls ρ H a o → RO K cls ρ' H' a o
  | .lst ds, ⟨xs, h1, r⟩ => ⟨xs, k _ h1, r.mono e⟩
  | .dic kvs, ⟨xs, h1, r⟩ => ⟨xs, k _ h1, r.mono e⟩
  | .ins c fs, ⟨C, dx, xs, h0, h1, r⟩ => ⟨C, dx, xs, h0, k _ h1, r.mono e⟩
theorem RO.there {a : Addr} {o : O} (r : RO K cls ρ H a o) : ∃ u, H a = some u ∧ Mut (some u) := by
  cases o with
  | lst ds =>
    obtain ⟨xs, h1, _⟩ := r
    exact ⟨_, h1, trivial⟩
  | dic kvs =>
    obtain ⟨xs, h1, _⟩ := r
    exact ⟨_, h1, trivial⟩
  | ins c fs =>
    obtain ⟨_, _, xs, _, h1, _⟩ := r
    exact ⟨_, h1, trivial⟩
theorem RH.at (r : RH K cls ts ρ H h) {n : Nat} {o : O} (e : h[n]? = some o) : ∃ a, ρ[n]? = some a ∧ RO K cls ρ H a o := by
  have hn := (List.getElem?_eq_some_iff.mp e).1
  have hn' : n < ρ.length := by rw [r.len]; exact hn
  exact ⟨ρ[n], List.getElem?_eq_getElem hn', r.obj n _ o (List.getElem?_eq_getElem hn') e⟩
theorem RH.ref (r : RH K cls ts ρ H h) {n : Nat} {o : O} {a : Addr} (q : ρ[n]? = some a) (e : h[n]? = some o) : RO K cls ρ H a o := r.obj n a o q e

/-- a new thing is laid that no number stands for -/
theorem ext_other {p : Addr} {u : HO} (hp : H p = none) : Ext ts ρ ρ H (upd H p u) :=
  ⟨List.prefix_refl _, fun _ h n => absurd h n, fun a o e _ _ => by rw [upd_ne (ne_of_none e hp)]; exact e, fun a o e => by rw [upd_ne (ne_of_none e hp)]; exact e,
    fun a o w e => by rw [upd_ne (ne_of_none e hp)]; exact e, fun a e => by
      by_cases z : a = p
      · rw [z]; exact hp
      · rw [upd_ne z] at e; exact e⟩
theorem RH.keepAll (r : RH K cls ts ρ H h) (e : Ext ts ρ ρ H H') (k : ∀ a o, H a = some o → H' a = some o) : RH K cls ts ρ H' h :=
  ⟨r.len, r.nd, fun n a o q1 q2 => (r.obj n a o q1 q2).mono e (k a), fun P hP => let ⟨a, ps, b, c⟩ := r.tab P hP; ⟨a, ps, k _ _ b, c⟩, let ⟨a, φ, b⟩ := r.sm; ⟨a, φ, k _ _ b⟩⟩
theorem RH.other (r : RH K cls ts ρ H h) {p : Addr} {u : HO} (hp : H p = none) : RH K cls ts ρ (upd H p u) h :=
  r.keepAll (ext_other hp) fun a o e => by rw [upd_ne (ne_of_none e hp)]; exact e
theorem RH.fresh_not (r : RH K cls ts ρ H h) {p : Addr} (hp : H p = none) : p ∉ ts := fun hm => by
  obtain ⟨_, ps, b, _⟩ := r.tab p hm
  rw [hp] at b
  cases b
/-- what a number stands for is there, and may change -/
theorem RH.mem (r : RH K cls ts ρ H h) {a : Addr} (hm : a ∈ ρ) : ∃ u, H a = some u ∧ Mut (some u) := by
  obtain ⟨n, hn, e⟩ := List.getElem_of_mem hm
  have hn' : n < h.length := by rw [← r.len]; exact hn
  exact (r.obj n a h[n] (by rw [← e]; exact List.getElem?_eq_getElem hn) (List.getElem?_eq_getElem hn')).there
theorem RH.not_in (r : RH K cls ts ρ H h) {p : Addr} (hp : H p = none) : p ∉ ρ := fun hm => by
  obtain ⟨u, e, _⟩ := r.mem hm
  rw [hp] at e
  cases e
/-- a new thing at a new number -/
theorem ext_new {p : Addr} {u : HO} (hp : H p = none) : Ext ts ρ (ρ ++ [p]) H (upd H p u) := by
  have e := ext_other (ts := ts) (ρ := ρ) (u := u) hp
  refine ⟨List.prefix_append _ _, fun a h n => ?_, e.keep, e.tup, e.frz, e.there⟩
  rcases List.mem_append.mp h with z | z
  · exact absurd z n
  · rw [List.mem_singleton.mp z]; exact hp
theorem RH.new (r : RH K cls ts ρ H h) {p : Addr} {u : HO} {o : O} (hp : H p = none) (ho : RO K cls (ρ ++ [p]) (upd H p u) p o) : RH K cls ts (ρ ++ [p]) (upd H p u) (h ++ [o]) := by
  have e := ext_new (ts := ts) (ρ := ρ) (u := u) hp
  refine ⟨by rw [List.length_append, List.length_append, r.len] <;> rfl, ?_, fun n a o' q1 q2 => ?_, fun P hP => ?_, ?_⟩
  · rw [List.nodup_append]
    refine ⟨r.nd, by simp, fun a ha b hb => ?_⟩
    rw [List.mem_singleton.mp hb]
    intro z
    subst z
    exact r.not_in hp ha
  · by_cases hn : n < h.length
    · rw [List.getElem?_append_left hn] at q2
      rw [List.getElem?_append_left (by rw [r.len]; exact hn)] at q1
      exact (r.obj n a o' q1 q2).mono e fun w z => by rw [upd_ne (ne_of_none z hp)]; exact z
    · have hl : n = h.length := by
        have := (List.getElem?_eq_some_iff.mp q2).1
        rw [List.length_append, List.length_singleton] at this
        omega
      subst hl
      rw [List.getElem?_append_right (Nat.le_refl _)] at q2
      rw [← r.len, List.getElem?_append_right (Nat.le_refl _)] at q1
      simp at q1 q2
      subst q1 q2
      exact ho
  · obtain ⟨a, ps, b, c⟩ := r.tab P hP
    refine ⟨fun hm => ?_, ps, ?_, c⟩
    · rcases List.mem_append.mp hm with z | z
      · exact a z
      · rw [List.mem_singleton.mp z, hp] at b; cases b
    · rw [upd_ne (ne_of_none b hp)]; exact b
  · obtain ⟨a, φ, b⟩ := r.sm
    refine ⟨fun hm => ?_, φ, by rw [upd_ne (ne_of_none b hp)]; exact b⟩
    rcases List.mem_append.mp hm with z | z
    · exact a z
    · rw [List.mem_singleton.mp z, hp] at b; cases b
theorem get_new {p : Addr} : (ρ ++ [p])[ρ.length]? = some p := by
  rw [List.getElem?_append_right (Nat.le_refl _)]
  simp
/-- what stands at a number is put otherwise -/
theorem ext_put {a : Addr} {u : HO} (ha : a ∈ ρ) (r : RH K cls ts ρ H h) : Ext ts ρ ρ H (upd H a u) := by
  obtain ⟨w, e, m⟩ := r.mem ha
  have nt : ∀ b v, H b = some v → ¬ Mut (some v) → b ≠ a := fun b v q nm z => by
    subst z
    rw [e] at q
    cases q
    exact nm m
  refine ⟨List.prefix_refl _, fun _ h n => absurd h n, fun b o q n _ => ?_, fun b xs q => ?_, fun b o w q => ?_, fun b q => ?_⟩
  · have nb : b ≠ a := fun z => n (by rw [z]; exact ha)
    rw [upd_ne nb]; exact q
  · rw [upd_ne (nt b _ q fun z => z)]; exact q
  · rw [upd_ne (nt b _ q fun z => z)]; exact q
  · by_cases z : b = a
    · rw [z, upd_same] at q; cases q
    · rw [upd_ne z] at q; exact q
theorem RH.put (r : RH K cls ts ρ H h) {n : Nat} {a : Addr} {u : HO} {o : O} (hn : ρ[n]? = some a) (ho : RO K cls ρ (upd H a u) a o) : RH K cls ts ρ (upd H a u) (h.set n o) := by
  have ha : a ∈ ρ := List.mem_of_getElem? hn
  have e := ext_put (u := u) ha r
  refine ⟨by rw [List.length_set]; exact r.len, r.nd, fun m b o' q1 q2 => ?_, fun P hP => ?_, ?_⟩
  · by_cases z : n = m
    · subst z
      rw [hn] at q1
      cases q1
      have hl := (List.getElem?_eq_some_iff.mp q2).1
      rw [List.length_set] at hl
      rw [List.getElem?_set_self hl] at q2
      cases q2
      exact ho
    · rw [List.getElem?_set_ne z] at q2
      refine (r.obj m b o' q1 q2).mono e fun w q => ?_
      rw [upd_ne ?_]
      · exact q
      · intro z'
        subst z'
        obtain ⟨l1, e1⟩ := List.getElem?_eq_some_iff.mp hn
        obtain ⟨l2, e2⟩ := List.getElem?_eq_some_iff.mp q1
        exact z ((List.getElem_inj r.nd).mp (e1.trans e2.symm))
  · obtain ⟨x, ps, b, c⟩ := r.tab P hP
    have nb : P ≠ a := fun z => x (by rw [z]; exact ha)
    exact ⟨x, ps, by rw [upd_ne nb]; exact b, c⟩
  · obtain ⟨x, φ, b⟩ := r.sm
    exact ⟨x, φ, by rw [upd_ne fun z => x (by rw [z]; exact ha)]; exact b⟩
end

/-! ### what is told of an exception -/
def RX (K : PySem.W.Frag) (cls : List Addr) (ρ : List Addr) (H : Hp) (c : Value) (dd : Option Addr) (x : Exn) : Prop :=
  (match x.cl with
   | .own k => ∃ C, cls[k]? = some C ∧ c = .ref C
   | .ty n => c = .type n) ∧
  ((x.fs = [] ∧ dd = none) ∨ ∃ d fs, dd = some d ∧ H d = some (.xd fs) ∧ RFs K ρ H fs x.fs)

/-! ### readings by a function over the store -/
section
variable {α β γ δ : Type}
def Post (K : PySem.W.Frag) (cls ts : List Addr) (rel : List Addr → Hp → β → α → Prop) (W : Value → Option Addr → Hp → Prop) (ρ : List Addr) (H : Hp) (r : Res α) (Q : β → Hp → Prop) : Prop :=
  match r with
  | .ok d h' => ∀ ρ' H' v, Ext ts ρ ρ' H H' → RH K cls ts ρ' H' h' → rel ρ' H' v d → Q v H'
  | .exc x h' => ∀ ρ' H' c dd, Ext ts ρ ρ' H H' → RH K cls ts ρ' H' h' → RX K cls ρ' H' c dd x → W c dd H'
  | .stuck => False
theorem Post.ext {K : PySem.W.Frag} {cls ts ρ ρ1 : List Addr} {H H1 : Hp} {rel : List Addr → Hp → β → α → Prop} {W : Value → Option Addr → Hp → Prop} {r : Res α} {Q : β → Hp → Prop} (e : Ext ts ρ ρ1 H H1) (p : Post K cls ts rel W ρ H r Q) : Post K cls ts rel W ρ1 H1 r Q := by
  cases r with
  | ok d h' => exact fun ρ' H' v e' => p ρ' H' v (e.trans e')
  | exc x h' => exact fun ρ' H' c dd e' => p ρ' H' c dd (e.trans e')
  | stuck => exact p
def tG (K : PySem.W.Frag) (cls ts : List Addr) (rel : List Addr → Hp → β → α → Prop) (W : WX) (F : AEnv → AH → Res α) : L2.St → Hp → (β → Hp → Prop) → Prop :=
  fun σ H Q => ∃ ρ ε h, RH K cls ts ρ H h ∧ RE K ρ H σ ε ∧ Post K cls ts rel (fun c dd H' => W c dd σ H') ρ H (F ε h) Q
/-- THE STEP: the first part is gone, then what is behind it -/
theorem tG_bind {K : PySem.W.Frag} {cls ts ρ : List Addr} {H : Hp} {rel : List Addr → Hp → β → α → Prop} {rel2 : List Addr → Hp → δ → γ → Prop} {W : WX} {F : AEnv → AH → Res α} {G : α → AH → Res γ} {σ : L2.St} {ε : AEnv} {h : AH} {Q : δ → Hp → Prop} {Q' : β → Hp → Prop}
    (hH : RH K cls ts ρ H h) (hE : RE K ρ H σ ε) (hp : Post K cls ts rel2 (fun c dd H' => W c dd σ H') ρ H ((F ε h).bind G) Q)
    (k : ∀ ρ1 H1 v h1 a, F ε h = .ok a h1 → Ext ts ρ ρ1 H H1 → RH K cls ts ρ1 H1 h1 → rel ρ1 H1 v a → RE K ρ1 H1 σ ε → Post K cls ts rel2 (fun c dd H' => W c dd σ H') ρ1 H1 (G a h1) Q → Q' v H1) : tG K cls ts rel W F σ H Q' := by
  refine ⟨ρ, ε, h, hH, hE, ?_⟩
  cases q : F ε h with
  | ok a h1 =>
    rw [q] at hp
    exact fun ρ1 H1 v e r rv => k ρ1 H1 v h1 a q e r rv (hE.mono e) (hp.ext e)
  | exc x h1 =>
    rw [q] at hp
    exact hp
  | stuck =>
    rw [q] at hp
    exact hp
theorem tG_imp {K : PySem.W.Frag} {cls ts : List Addr} {rel : List Addr → Hp → β → α → Prop} {W : WX} {F : AEnv → AH → Res α} {σ : L2.St} {H : Hp} {Q Q' : β → Hp → Prop} (h : tG K cls ts rel W F σ H Q) (k : ∀ v H', Q v H' → Q' v H') : tG K cls ts rel W F σ H Q' := by
  obtain ⟨ρ, ε, h, hH, hE, hp⟩ := h
  refine ⟨ρ, ε, h, hH, hE, ?_⟩
  cases q : F ε h with
  | ok a h1 =>
    rw [q] at hp
    exact fun ρ1 H1 v e r rv => k _ _ (hp ρ1 H1 v e r rv)
  | exc x h1 =>
    rw [q] at hp
    exact hp
  | stuck =>
    rw [q] at hp
    exact hp
end
abbrev EF := AEnv → AH → Res D
abbrev TF := AEnv → AH → Res Bool
abbrev AF := AEnv → AH → Res (List D)
abbrev relD (K : PySem.W.Frag) : List Addr → Hp → V → D → Prop := fun ρ H v d => RV K ρ H v d
abbrev relB : List Addr → Hp → Bool → Bool → Prop := fun _ _ b a => b = a
abbrev relL (K : PySem.W.Frag) : List Addr → Hp → List V → List D → Prop := fun ρ H v d => RVs K ρ H v d
abbrev tE (K : PySem.W.Frag) (cls ts : List Addr) (W : WX) (F : EF) : TE := tG K cls ts (relD K) W F
abbrev tT (K : PySem.W.Frag) (cls ts : List Addr) (W : WX) (F : TF) : TT := tG K cls ts relB W F
abbrev tA (K : PySem.W.Frag) (cls ts : List Addr) (W : WX) (F : AF) : TA := tG K cls ts (relL K) W F
end Mi

namespace Mi
open L2 PySem PySem.Spec PyProof.Rows

/-! ### ends -/
section
variable {K : PySem.W.Frag} {cls ts ρ : List Addr} {H : Hp} {h h' : AH} {W : Value → Option Addr → Hp → Prop} {Q : VK} {v : V} {d : D} {xs : List V} {ds : List D}
theorem post_val (r : RH K cls ts ρ H h) (rv : RV K ρ H v d) (p : Post K cls ts (relD K) W ρ H (.ok d h) Q) : Q v H := p ρ H v .refl r rv
theorem post_newL (r : RH K cls ts ρ H h) (rv : RVs K ρ H xs ds) (p : Post K cls ts (relD K) W ρ H (.ok (.ref h.length) (h ++ [.lst ds])) Q) : ∀ a, H a = none → Q (.ref a) (upd H a (.lst xs)) := fun a ha => by
  have e := ext_new (ts := ts) (ρ := ρ) (u := .lst xs) ha
  exact p (ρ ++ [a]) _ _ e (r.new ha ⟨xs, upd_same, rv.mono e⟩) (.ref (by rw [← r.len]; exact get_new))
theorem post_newD {kvs : List (Key × D)} {xs : List (Key × V)} (r : RH K cls ts ρ H h) (rv : RKs K ρ H xs kvs) (p : Post K cls ts (relD K) W ρ H (.ok (.ref h.length) (h ++ [.dic kvs])) Q) : ∀ a, H a = none → Q (.ref a) (upd H a (.dK xs)) := fun a ha => by
  have e := ext_new (ts := ts) (ρ := ρ) (u := .dK xs) ha
  exact p (ρ ++ [a]) _ _ e (r.new ha ⟨xs, upd_same, rv.mono e⟩) (.ref (by rw [← r.len]; exact get_new))
theorem post_newT (r : RH K cls ts ρ H h) (rv : RVs K ρ H xs ds) (p : Post K cls ts (relD K) W ρ H (.ok (.tup ds) h) Q) : ∀ a, H a = none → Q (.ref a) (upd H a (.tup xs)) := fun a ha => by
  have e := ext_other (ts := ts) (ρ := ρ) (u := .tup xs) ha
  exact p ρ _ _ e (r.other ha) (.tup (SqT.of upd_same) (rv.mono e))
/-- a list at a number is put otherwise, something is told -/
theorem post_put {n : Nat} {a : Addr} {us : List V} (r : RH K cls ts ρ H h) (hn : ρ[n]? = some a) (rv : RVs K ρ H xs ds) (rd : RV K ρ H v d) (p : Post K cls ts (relD K) W ρ H (.ok d (h.set n (.lst ds))) Q) : Q v (upd H a (.lst xs)) := by
  have e := ext_put (u := .lst xs) (List.mem_of_getElem? hn) r
  exact p ρ _ _ e (r.put hn ⟨xs, upd_same, rv.mono e⟩) (rd.mono e)
/-- a list at a number -/
theorem RH.lst (r : RH K cls ts ρ H h) {n : Nat} {a : Addr} (q : ρ[n]? = some a) (e : h[n]? = some (.lst ds)) : ∃ xs, H a = some (.lst xs) ∧ RVs K ρ H xs ds := r.obj n a _ q e
theorem RH.dic (r : RH K cls ts ρ H h) {n : Nat} {a : Addr} {ds : List (Key × D)} (q : ρ[n]? = some a) (e : h[n]? = some (.dic ds)) : ∃ xs, H a = some (.dK xs) ∧ RKs K ρ H xs ds := r.obj n a _ q e
end

/-! ### operations on two values -/
abbrev Op2 := D → D → AH → Res D
def OpS (K : PySem.W.Frag) (cls ts : List Addr) (r : R2) (f : Op2) : Prop :=
  ∀ (W : Value → Option Addr → Hp → Prop) (ρ : List Addr) (H : Hp) (h : AH) (x y : V) (dx dy : D) (Q : VK), RH K cls ts ρ H h → RV K ρ H x dx → RV K ρ H y dy → Post K cls ts (relD K) W ρ H (f dx dy h) Q → r x y H Q
def cBin (f : Op2) (a b : EF) : EF := fun ε h => (a ε h).bind fun x h1 => (b ε h1).bind fun y h2 => f x y h2

def opAdd : Op2
  | .int i, .int j, h => .ok (.int (i + j)) h
  | .str a, .str b, h => if a.length + b.length ≤ sizeLine then .ok (.str (a ++ b)) h else .stuck
  | .tup xs, .tup ys, h => if xs.length + ys.length ≤ sizeLine then .ok (.tup (xs ++ ys)) h else .stuck
  | .ref a, .ref b, h => match h[a]?, h[b]? with
    | some (.lst xs), some (.lst ys) => if xs.length + ys.length ≤ sizeLine then .ok (.ref h.length) (h ++ [.lst (xs ++ ys)]) else .stuck
    | _, _ => .stuck
  | _, _, _ => .stuck
def rAddM (K : PySem.W.Frag) : R2 := fun x y H Q => rI0 (fun i j => .int (i + j)) x y H Q ∨ (∃ i j, x = .str i ∧ y = .str j ∧ i.length + j.length ≤ sizeLine ∧ Q (.str (i ++ j)) H) ∨ rCatA K x y H Q ∨ rCat x y H Q
theorem op_addM {X : Cx} : OpR X (binaryOp .Add) (rAddM X.K) := op_add.or (op_add_str.or (op_catA.or op_cat))
theorem opAdd_ok {K : PySem.W.Frag} {cls ts : List Addr} : OpS K cls ts (rAddM K) opAdd := by
  intro W ρ H h x y dx dy Q r rx ry p
  cases rx with
  | int i =>
    cases ry <;> first | exact p.elim | skip
    exact .inl ⟨_, _, rfl, rfl, post_val r (.int _) p⟩
  | str a =>
    cases ry <;> first | exact p.elim | skip
    rename_i b
    by_cases c : a.length + b.length ≤ sizeLine
    · simp only [opAdd, if_pos c] at p
      exact .inr (.inl ⟨_, _, rfl, rfl, c, post_val r (.str _) p⟩)
    · simp only [opAdd, if_neg c] at p
      exact p.elim
  | tup h1 r1 =>
    cases ry <;> first | exact p.elim | skip
    rename_i a xs ds b ys es h2 r2
    by_cases c : ds.length + es.length ≤ sizeLine
    · simp only [opAdd, if_pos c] at p
      refine .inr (.inr (.inl ⟨_, _, _, _, rfl, rfl, h1, h2, by rw [r1.length, r2.length]; exact c, fun z => ?_, fun _ z => ?_, fun _ _ => post_newT r (r1.append r2) p⟩))
      · subst z
        cases r1
        exact post_val r (.tup h2 r2) p
      · subst z
        cases r2
        rw [List.append_nil] at p
        exact post_val r (.tup h1 r1) p
    · simp only [opAdd, if_neg c] at p
      exact p.elim
  | ref q1 =>
    cases ry <;> first | exact p.elim | skip
    rename_i a n b m q2
    simp only [opAdd] at p
    split at p <;> first | exact p.elim | skip
    rename_i xs ys e1 e2
    split at p <;> first | exact p.elim | skip
    rename_i c
    obtain ⟨us, k1, r1⟩ := r.lst q1 e1
    obtain ⟨ws, k2, r2⟩ := r.lst q2 e2
    exact .inr (.inr (.inr ⟨_, _, _, _, rfl, rfl, k1, k2, by rw [r1.length, r2.length]; exact c, post_newL r (r1.append r2) p⟩))
  | _ => exact p.elim

/-- ints alone -/
def opII (C : Int → Int → Bool) (g : Int → Int → Int) : Op2
  | .int i, .int j, h => if C i j then .ok (.int (g i j)) h else .stuck
  | _, _, _ => .stuck
theorem opII_ok {K : PySem.W.Frag} {cls ts : List Addr} {C : Int → Int → Prop} {c : Int → Int → Bool} {g : Int → Int → Int} (hc : ∀ i j, c i j = true → C i j) : OpS K cls ts (rI C fun i j => .int (g i j)) (opII c g) := by
  intro W ρ H h x y dx dy Q r rx ry p
  cases rx <;> first | exact p.elim | skip
  cases ry <;> first | exact p.elim | skip
  rename_i i j
  simp only [opII] at p
  split at p <;> first | exact p.elim | skip
  rename_i q
  exact ⟨_, _, rfl, rfl, hc _ _ q, post_val r (.int _) p⟩
def opSub : Op2 := opII (fun _ _ => true) (· - ·)
theorem op_subM {X : Cx} : OpR X (binaryOp .Sub) (rI (fun _ _ => True) fun i j => .int (i - j)) := opI fun _ _ _ _ _ _ _ _ q => sub_int q
theorem opSub_ok {K : PySem.W.Frag} {cls ts : List Addr} : OpS K cls ts (rI (fun _ _ => True) fun i j => .int (i - j)) opSub := opII_ok fun _ _ _ => trivial
def opFdiv : Op2 := opII (fun _ j => j != 0 && decide (j.natAbs < 1073741824)) Int.fdiv
theorem opFdiv_ok {K : PySem.W.Frag} {cls ts : List Addr} : OpS K cls ts (rI CDivN fun i j => .int (i.fdiv j)) opFdiv := opII_ok fun i j h => by
  simp only [Bool.and_eq_true, bne_iff_ne, decide_eq_true_eq] at h
  exact h
def opMod : Op2 := opII (fun _ j => j != 0) Int.fmod
theorem opMod_ok {K : PySem.W.Frag} {cls ts : List Addr} : OpS K cls ts (rI (fun _ j => j ≠ 0) fun i j => .int (i.fmod j)) opMod := opII_ok fun i j h => by
  simp only [bne_iff_ne] at h
  exact h
def opPow : Op2 := opII (fun i j => decide (0 ≤ j) && decide (j ≤ 1000000) && decide (i.natAbs < 2 ^ 64)) fun i j => i ^ j.toNat
theorem opPow_ok {K : PySem.W.Frag} {cls ts : List Addr} : OpS K cls ts (rI CPow fun i j => .int (i ^ j.toNat)) opPow := opII_ok fun i j hq => by
  simp only [Bool.and_eq_true, decide_eq_true_eq] at hq
  exact ⟨hq.1.1, hq.1.2, hq.2⟩
def small64 (i : Int) : Bool := decide (-(2 ^ 64) < i) && decide (i < 2 ^ 64)
/-- how a text is said again and again -/
def strRep (a : Str) (k : Nat) : Str := ⟨(List.replicate k a.cps.toList).flatten.toArray⟩
theorem foldl_cat (a : Array Nat) : ∀ (k : Nat) (b : Array Nat), ((List.replicate k a).foldl (· ++ ·) b).toList = b.toList ++ (List.replicate k a.toList).flatten
  | 0, b => by simp
  | k + 1, b => by
    rw [show List.replicate (k + 1) a = a :: List.replicate k a from rfl, List.foldl_cons, foldl_cat a k (b ++ a)]
    simp [List.replicate_succ]
theorem strRep_eq (a : Str) (k : Nat) : (⟨(List.replicate k a.cps).foldl (· ++ ·) #[]⟩ : Str) = strRep a k := by
  unfold strRep
  congr 1
  apply Array.toList_inj.mp
  rw [foldl_cat]
  simp
theorem strRep_length (a : Str) (k : Nat) : (strRep a k).length = k * a.length := by
  unfold strRep Str.length
  simp [List.length_flatten]
def rRepS : R2 := fun x y H Q => ∃ (a : Str) (k : Int), x = .str a ∧ y = .int k ∧ 2 ≤ k ∧ k ≤ 10000 ∧ 1 ≤ a.length ∧ a.length ≤ 1000 ∧ Q (.str (strRep a k.toNat)) H
theorem op_repS {X : Cx} : OpR X (binaryOp .Mult) rRepS := by
  rintro pins s σ H x y v u Q I rx ry ⟨a, k, rfl, rfl, h1, h2, h3, h4, q⟩
  obtain ⟨t, rfl⟩ := rx
  obtain ⟨t', rfl⟩ := ry
  have n1 : ¬ k < 1 := by omega
  have nk : (k == 1 || a.length == 0) = false := by
    rw [Bool.or_eq_false_iff]
    exact ⟨beq_eq_false_iff_ne.mpr (by omega), beq_eq_false_iff_ne.mpr (by omega)⟩
  have lm : a.length * k.toNat ≤ 10000000 := Nat.le_trans (Nat.mul_le_mul h4 (show k.toNat ≤ 10000 by omega)) (by omega)
  refine PySem.P.mul_str ?_ (fun _ _ z => ?_) (fun _ _ => ?_) ?_
  · rw [Bool.or_eq_false_iff]
    exact ⟨decide_eq_false (by omega), decide_eq_false (by omega)⟩
  · have : (1000 : Int) ≤ (2 ^ 63 - 1) / k := by
      rw [Int.le_ediv_iff_mul_le (by omega)]
      omega
    omega
  · exact decide_eq_false (by rw [sizeLine_eq]; omega)
  · rw [if_neg n1, nk, if_neg Bool.false_ne_true, strRep_eq]
    refine ⟨?_, .str (strRep a k.toNat), H, I.tok _, ⟨_, rfl⟩, q⟩
    rw [strRep_length, Nat.mul_comm, sizeLine_eq]
    omega
def opMul : Op2
  | .int i, .int j, h => if small64 i || small64 j then .ok (.int (i * j)) h else .stuck
  | .str a, .int k, h => if decide (2 ≤ k) && decide (k ≤ 10000) && decide (1 ≤ a.length) && decide (a.length ≤ 1000) then .ok (.str (strRep a k.toNat)) h else .stuck
  | .tup xs, .int k, h => if !xs.isEmpty && decide (2 ≤ k) && decide (k ≤ 1000) && decide (xs.length ≤ 1000) then .ok (.tup (List.replicate k.toNat xs).flatten) h else .stuck
  | .ref a, .int k, h => match h[a]? with
    | some (.lst xs) => if decide (-(2 ^ 63) ≤ k) && decide (k < 2 ^ 63) && decide (xs.length * k.toNat ≤ sizeLine) then .ok (.ref h.length) (h ++ [.lst (List.replicate k.toNat xs).flatten]) else .stuck
    | _ => .stuck
  | _, _, _ => .stuck
def rMulM (K : PySem.W.Frag) : R2 := fun x y H Q => rI CMul (fun i j => .int (i * j)) x y H Q ∨ rRepT K x y H Q ∨ rRep x y H Q ∨ rRepS x y H Q
theorem op_mulM {X : Cx} : OpR X (binaryOp .Mult) (rMulM X.K) := op_mul.or (op_repT.or (op_rep.or op_repS))
theorem opMul_ok {K : PySem.W.Frag} {cls ts : List Addr} : OpS K cls ts (rMulM K) opMul := by
  intro W ρ H h x y dx dy Q r rx ry p
  cases rx with
  | int i =>
    cases ry <;> first | exact p.elim | skip
    rename_i j
    simp only [opMul] at p
    split at p <;> first | exact p.elim | skip
    rename_i c
    refine .inl ⟨_, _, rfl, rfl, ?_, post_val r (.int _) p⟩
    simp only [small64, Bool.or_eq_true, Bool.and_eq_true, decide_eq_true_eq] at c
    exact c
  | str a =>
    cases ry <;> first | exact p.elim | skip
    rename_i k
    simp only [opMul] at p
    split at p <;> first | exact p.elim | skip
    rename_i c
    simp only [Bool.and_eq_true, decide_eq_true_eq] at c
    exact .inr (.inr (.inr ⟨_, _, rfl, rfl, c.1.1.1, c.1.1.2, c.1.2, c.2, post_val r (.str _) p⟩))
  | tup h1 r1 =>
    cases ry <;> first | exact p.elim | skip
    rename_i a xs ds k
    simp only [opMul] at p
    split at p <;> first | exact p.elim | skip
    rename_i c
    simp only [Bool.and_eq_true, decide_eq_true_eq] at c
    refine .inr (.inl ⟨_, _, _, rfl, rfl, h1, ?_, c.1.1.2, c.1.2, by rw [r1.length]; exact c.2, post_newT r (r1.rep _) p⟩)
    intro z
    subst z
    cases r1
    simp at c
  | ref q1 =>
    cases ry <;> first | exact p.elim | skip
    rename_i a n k
    simp only [opMul] at p
    split at p <;> first | exact p.elim | skip
    rename_i xs e1
    split at p <;> first | exact p.elim | skip
    rename_i c
    simp only [Bool.and_eq_true, decide_eq_true_eq] at c
    obtain ⟨us, k1, r1⟩ := r.lst q1 e1
    exact .inr (.inr (.inl ⟨_, _, _, rfl, rfl, k1, c.1.1, c.1.2, by rw [r1.length]; exact c.2, post_newL r (r1.rep _) p⟩))
  | _ => exact p.elim
end Mi

namespace Mi
open L2 PySem PySem.Spec PyProof.Rows

/-! ### the forms of expressions -/
def cC (d : D) : EF := fun _ h => .ok d h
def cVar (i : Nat) : EF := fun ε h => match ε[i]? with
  | some (some d) => .ok d h
  | _ => .stuck
def aNil : AF := fun _ h => .ok [] h
def aCons (a : EF) (r : AF) : AF := fun ε h => (a ε h).bind fun d h1 => (r ε h1).bind fun ds h2 => .ok (d :: ds) h2
def cTup (A : AF) : EF := fun ε h => (A ε h).bind fun ds h1 => if ds.length ≤ sizeLine then .ok (.tup ds) h1 else .stuck
def cLst (A : AF) : EF := fun ε h => (A ε h).bind fun ds h1 => if ds.length ≤ sizeLine then .ok (.ref h1.length) (h1 ++ [.lst ds]) else .stuck
def truD (d : D) (h : AH) : Option Bool :=
  match d with
  | .non => some false
  | .bl b => some b
  | .int i => some (i != 0)
  | .str x => if x.length ≤ sizeLine then some (x.length != 0) else none
  | .tup xs => some (!xs.isEmpty)
  | .rol xs => some (!xs.isEmpty)
  | .ref n => match h[n]? with
    | some (.lst xs) => some (!xs.isEmpty)
    | some (.dic kvs) => some (!kvs.isEmpty)
    | _ => none
  | _ => none
def tTru (F : EF) : TF := fun ε h => (F ε h).bind fun d h1 => match truD d h1 with
  | some b => .ok b h1
  | none => .stuck
def asBl (d : D) (h : AH) : Res Bool :=
  match d with
  | .bl b => .ok b h
  | _ => .stuck
def tVal (F : EF) : TF := fun ε h => (F ε h).bind asBl
def tAnd' (a b : TF) : TF := fun ε h => (a ε h).bind fun c h1 => if c = true then b ε h1 else .ok false h1
def tOr' (a b : TF) : TF := fun ε h => (a ε h).bind fun c h1 => if c = true then .ok true h1 else b ε h1
def tNot' (a : TF) : TF := fun ε h => (a ε h).bind fun c h1 => .ok (!c) h1
def cIf (t : TF) (a b : EF) : EF := fun ε h => (t ε h).bind fun c h1 => if c = true then a ε h1 else b ε h1
/-- and, or as values -/
def cAnd (a b : EF) : EF := fun ε h => (a ε h).bind fun d h1 => match truD d h1 with
  | some true => b ε h1
  | some false => .ok d h1
  | none => .stuck
def cOr (a b : EF) : EF := fun ε h => (a ε h).bind fun d h1 => match truD d h1 with
  | some true => .ok d h1
  | some false => b ε h1
  | none => .stuck
def cNot (a : EF) : EF := fun ε h => (a ε h).bind fun d h1 => match truD d h1 with
  | some b => .ok (.bl (!b)) h1
  | none => .stuck
/-- a op b op' c, b gone once -/
def cChain (f g : Op2) (a b c : EF) : EF := fun ε h => (a ε h).bind fun x h1 => (b ε h1).bind fun y h2 => (f x y h2).bind fun z h3 => match z with
  | .bl true => (c ε h3).bind fun w h4 => g y w h4
  | .bl false => .ok (.bl false) h3
  | _ => .stuck

section
variable {X : Cx} {W : WX} {cls ts : List Addr} {a b c e : Expr} {Fa Fb Fc F : EF} {Ta Tb : TF} {A : AF} {es : List Expr} {pos : Pos}
abbrev E' (X : Cx) (cls ts : List Addr) (W : WX) (e : Expr) (F : EF) : Prop := PE X e (tE X.K cls ts W F)
abbrev T' (X : Cx) (cls ts : List Addr) (W : WX) (e : Expr) (F : TF) : Prop := PT X e (tT X.K cls ts W F)
abbrev A' (X : Cx) (cls ts : List Addr) (W : WX) (es : List Expr) (F : AF) : Prop := PA X es (tA X.K cls ts W F)
theorem e_c {d : D} {v : V} (hv : ∀ K ρ H, RV K ρ H v d) (h : PE X e (L2.tC v)) : E' X cls ts W e (cC d) :=
  ⟨fun pins s σ H Q I ⟨ρ, ε, hh, hH, hE, p⟩ => h.run pins s σ H Q I (post_val hH (hv _ _ _) p)⟩
theorem e_int {i j pos} : E' X cls ts W (.Constant (.int i) j pos) (cC (.int i)) := e_c (fun _ _ _ => .int i) pe_int
theorem e_str {i j pos} : E' X cls ts W (.Constant (.str i) j pos) (cC (.str i)) := e_c (fun _ _ _ => .str i) pe_str
theorem e_bl {i j pos} : E' X cls ts W (.Constant (.bool i) j pos) (cC (.bl i)) := e_c (fun _ _ _ => .bl i) pe_bl
theorem e_non {j pos} : E' X cls ts W (.Constant .none j pos) (cC .non) := e_c (fun _ _ _ => .non) pe_non
theorem e_glob {x : Str} {d : D} {v : V} {u : Value} (hg : Gl X x) (hm : X.mg x = some u) (r : RelV v u) (hv : ∀ K ρ H, RV K ρ H v d) (hd : (x == ("__debug__" : Str)) = false := by decide) : E' X cls ts W (.Name x pos) (cC d) := e_c hv (pe_glob hg hm r hd)
theorem e_var (i : Nat) {x : Str} (hN : X.N[i]? = some x := by rfl) (hv : Vis X.env.scope x := by first | exact Or.inl rfl | exact Or.inr (Or.inl rfl) | exact Or.inr (Or.inr rfl)) (hd : (x == ("__debug__" : Str)) = false := by decide)
    (hcd : (x == ("__classdict__" : Str)) = false := by decide) : E' X cls ts W (.Name x pos) (cVar i) := by
  refine ⟨fun pins s σ H Q I ⟨ρ, ε, hh, hH, hE, p⟩ => (pe_var hN hv hd hcd).run pins s σ H Q I ?_⟩
  unfold cVar at p
  split at p
  · rename_i d q
    obtain ⟨v, e, r⟩ := hE.2 i d q
    exact ⟨v, e, post_val hH r p⟩
  · exact p.elim
theorem e_bin {op : Operator} {r : R2} {f : Op2} (ho : OpR X (binaryOp op) r) (os : OpS X.K cls ts r f) (ha : E' X cls ts W a Fa) (hb : E' X cls ts W b Fb) : E' X cls ts W (.BinOp a op b pos) (cBin f Fa Fb) :=
  ⟨fun pins s σ H Q I ⟨ρ, ε, h, hH, hE, p⟩ => (pe_op ho ha hb).run pins s σ H Q I (tG_bind hH hE p fun ρ1 H1 x h1 dx _ e1 hH1 rx hE1 p1 =>
    tG_bind hH1 hE1 p1 fun ρ2 H2 y h2 dy _ e2 hH2 ry hE2 p2 => os _ _ _ _ _ _ _ _ _ hH2 (rx.mono e2) ry p2)⟩
theorem e_cmp {op : CmpOp} {r : R2} {f : Op2} (ho : OpR X (compareOp op) r) (os : OpS X.K cls ts r f) (ha : E' X cls ts W a Fa) (hb : E' X cls ts W b Fb) (hm : behindInMarks op b = false) : E' X cls ts W (.Compare a [op] [b] pos) (cBin f Fa Fb) :=
  ⟨fun pins s σ H Q I ⟨ρ, ε, h, hH, hE, p⟩ => (pe_cmpR ho ha hb hm).run pins s σ H Q I (tG_bind hH hE p fun ρ1 H1 x h1 dx _ e1 hH1 rx hE1 p1 =>
    tG_bind hH1 hE1 p1 fun ρ2 H2 y h2 dy _ e2 hH2 ry hE2 p2 => os _ _ _ _ _ _ _ _ _ hH2 (rx.mono e2) ry p2)⟩
theorem bl_of {K : PySem.W.Frag} {cls ts ρ : List Addr} {H : Hp} {h : AH} {W : Value → Option Addr → Hp → Prop} {d : D} {v : V} {Q : Bool → Hp → Prop} (r : RH K cls ts ρ H h) (rv : RV K ρ H v d)
    (p : Post K cls ts relB W ρ H (asBl d h) Q) : ∃ k, v = .bl k ∧ Q k H := by
  cases rv <;> first | exact p.elim | skip
  exact ⟨_, rfl, p _ _ _ .refl r rfl⟩
theorem t_cmp {op : CmpOp} {r : R2} {f : Op2} (ho : OpR X (compareOp op) r) (os : OpS X.K cls ts r f) (ha : E' X cls ts W a Fa) (hb : E' X cls ts W b Fb) (hm : behindInMarks op b = false) : T' X cls ts W (.Compare a [op] [b] pos) (tVal (cBin f Fa Fb)) := by
  refine ⟨fun pins s σ H Q I ⟨ρ, ε, h, hH, hE, p⟩ => (pt_cmpR ho ha hb hm).run pins s σ H Q I ?_⟩
  unfold tVal at p
  have q : tE X.K cls ts W (cBin f Fa Fb) σ H (fun x H' => ∃ k, x = .bl k ∧ Q k H') := tG_bind hH hE p fun ρ1 H1 x h1 dx _ e1 hH1 rx hE1 p1 => bl_of hH1 rx p1
  obtain ⟨ρ', ε', h', hH', hE', p'⟩ := q
  exact tG_bind hH' hE' p' fun ρ1 H1 x h1 dx _ e1 hH1 rx hE1 p1 =>
    tG_bind hH1 hE1 p1 fun ρ2 H2 y h2 dy _ e2 hH2 ry hE2 p2 => os _ _ _ _ _ _ _ _ _ hH2 (rx.mono e2) ry p2
theorem t_val (ha : E' X cls ts W e F) (he : ∀ whole, isTrue e X.env whole = (do let v ← whole; standAt e.pos; holding [v] (truthy v)) := by intro _; rfl) : T' X cls ts W e (tVal F) :=
  ⟨fun pins s σ H Q I ⟨ρ, ε, h, hH, hE, p⟩ => (pt_val ha he).run pins s σ H Q I (tG_bind hH hE p fun ρ1 H1 x h1 dx _ e1 hH1 rx hE1 p1 => bl_of hH1 rx p1)⟩
theorem truD_ok {K : PySem.W.Frag} {ρ : List Addr} {H : Hp} {h : AH} {d : D} {v : V} {b : Bool} (r : RH K cls ts ρ H h) (rv : RV K ρ H v d) (q : truD d h = some b) : TruV K v H b := by
  have emp : ∀ {xs : List V} {ds : List D}, RVs K ρ H xs ds → (!ds.isEmpty) = !xs.isEmpty := fun r => by cases r <;> rfl
  cases rv with
  | non => cases q; rfl
  | bl b => cases q; rfl
  | int i => cases q; rfl
  | str x =>
    simp only [truD] at q
    split at q <;> cases q
    rename_i c
    refine ⟨c, ?_⟩
    rw [Bool.eq_iff_iff, bne_iff_ne, bne_iff_ne]
    omega
  | tup h1 r1 =>
    cases q
    exact .inr (.inl ⟨_, h1, emp r1⟩)
  | rol h1 r1 =>
    cases q
    exact .inl ⟨_, h1.sq, emp r1⟩
  | ref q1 =>
    simp only [truD] at q
    split at q <;> cases q
    · rename_i xs e
      obtain ⟨us, k1, r1⟩ := r.lst q1 e
      exact .inl ⟨_, SqL.of k1, emp r1⟩
    · rename_i xs e
      obtain ⟨us, k1, r1⟩ := r.dic q1 e
      refine .inr (.inr ⟨_, k1, ?_⟩)
      cases r1 <;> rfl
  | _ => cases q
theorem t_tru (ha : E' X cls ts W e F) (he : ∀ whole, isTrue e X.env whole = (do let v ← whole; standAt e.pos; holding [v] (truthy v)) := by intro _; rfl) : T' X cls ts W e (tTru F) := by
  refine ⟨fun pins s σ H Q I ⟨ρ, ε, h, hH, hE, p⟩ => (pt_truth ha he).run pins s σ H Q I (tG_bind hH hE p fun ρ1 H1 x h1 dx _ e1 hH1 rx hE1 p1 => ?_)⟩
  split at p1
  · rename_i b q
    exact ⟨b, truD_ok hH1 rx q, p1 _ _ _ .refl hH1 rfl⟩
  · exact p1.elim
theorem t_not (ha : T' X cls ts W a Ta) : T' X cls ts W (.UnaryOp .Not a pos) (tNot' Ta) :=
  ⟨fun pins s σ H Q I ⟨ρ, ε, h, hH, hE, p⟩ => (pt_not ha).run pins s σ H Q I (tG_bind hH hE p fun ρ1 H1 x h1 dx _ e1 hH1 rx hE1 p1 => p1 _ _ _ .refl hH1 (by rw [rx]))⟩
abbrev W' (X : Cx) (cls ts : List Addr) (W : WX) (e : Expr) (F : TF) : Prop := PW X e (tT X.K cls ts W F)
theorem w_and1 (ha : T' X cls ts W a Ta) : W' X cls ts W (.BoolOp .And [a] pos) Ta := pw_and1 ha
theorem w_or1 (ha : T' X cls ts W a Ta) : W' X cls ts W (.BoolOp .Or [a] pos) Ta := pw_or1 ha
theorem w_and {rest : List Expr} (ha : T' X cls ts W a Ta) (hb : W' X cls ts W (.BoolOp .And (b :: rest) pos) Tb) : W' X cls ts W (.BoolOp .And (a :: b :: rest) pos) (tAnd' Ta Tb) := by
  refine ⟨fun wh pins s σ H Q I ⟨ρ, ε, h, hH, hE, p⟩ => (pw_and ha hb).run wh pins s σ H Q I (tG_bind hH hE p fun ρ1 H1 x h1 dx _ e1 hH1 rx hE1 p1 => ?_)⟩
  cases rx
  cases x with
  | true => exact ⟨_, _, _, hH1, hE1, p1⟩
  | false => exact p1 _ _ _ .refl hH1 rfl
theorem w_or {rest : List Expr} (ha : T' X cls ts W a Ta) (hb : W' X cls ts W (.BoolOp .Or (b :: rest) pos) Tb) : W' X cls ts W (.BoolOp .Or (a :: b :: rest) pos) (tOr' Ta Tb) := by
  refine ⟨fun wh pins s σ H Q I ⟨ρ, ε, h, hH, hE, p⟩ => (pw_or ha hb).run wh pins s σ H Q I (tG_bind hH hE p fun ρ1 H1 x h1 dx _ e1 hH1 rx hE1 p1 => ?_)⟩
  cases rx
  cases x with
  | false => exact ⟨_, _, _, hH1, hE1, p1⟩
  | true => exact p1 _ _ _ .refl hH1 rfl
theorem t_pw (h : W' X cls ts W e Ta) : T' X cls ts W e Ta := h.pt
theorem e_ifExp (hc : T' X cls ts W c Ta) (ha : E' X cls ts W a Fa) (hb : E' X cls ts W b Fb) : E' X cls ts W (.IfExp c a b pos) (cIf Ta Fa Fb) := by
  refine ⟨fun pins s σ H Q I ⟨ρ, ε, h, hH, hE, p⟩ => (pe_ifExp hc ha hb).run pins s σ H Q I (tG_bind hH hE p fun ρ1 H1 x h1 dx _ e1 hH1 rx hE1 p1 => ?_)⟩
  cases rx
  cases x with
  | true => exact ⟨_, _, _, hH1, hE1, p1⟩
  | false => exact ⟨_, _, _, hH1, hE1, p1⟩
theorem e_one {op : BoolOp} (ha : E' X cls ts W a Fa) : E' X cls ts W (.BoolOp op [a] pos) Fa := pe_one ha
theorem e_and {rest : List Expr} (ha : E' X cls ts W a Fa) (hb : E' X cls ts W (.BoolOp .And (b :: rest) pos) Fb) : E' X cls ts W (.BoolOp .And (a :: b :: rest) pos) (cAnd Fa Fb) := by
  refine ⟨fun pins s σ H Q I ⟨ρ, ε, h, hH, hE, p⟩ => (pe_andT ha hb).run pins s σ H Q I (tG_bind hH hE p fun ρ1 H1 x h1 dx _ e1 hH1 rx hE1 p1 => ?_)⟩
  split at p1
  · rename_i q
    exact ⟨true, truD_ok hH1 rx q, iteT ⟨_, _, _, hH1, hE1, p1⟩⟩
  · rename_i q
    exact ⟨false, truD_ok hH1 rx q, iteF (post_val hH1 rx p1)⟩
  · exact p1.elim
theorem e_or {rest : List Expr} (ha : E' X cls ts W a Fa) (hb : E' X cls ts W (.BoolOp .Or (b :: rest) pos) Fb) : E' X cls ts W (.BoolOp .Or (a :: b :: rest) pos) (cOr Fa Fb) := by
  refine ⟨fun pins s σ H Q I ⟨ρ, ε, h, hH, hE, p⟩ => (pe_orT ha hb).run pins s σ H Q I (tG_bind hH hE p fun ρ1 H1 x h1 dx _ e1 hH1 rx hE1 p1 => ?_)⟩
  split at p1
  · rename_i q
    exact ⟨true, truD_ok hH1 rx q, iteT (post_val hH1 rx p1)⟩
  · rename_i q
    exact ⟨false, truD_ok hH1 rx q, iteF ⟨_, _, _, hH1, hE1, p1⟩⟩
  · exact p1.elim
theorem e_not (ha : E' X cls ts W a Fa) : E' X cls ts W (.UnaryOp .Not a pos) (cNot Fa) := by
  refine ⟨fun pins s σ H Q I ⟨ρ, ε, h, hH, hE, p⟩ => (pe_notT ha).run pins s σ H Q I (tG_bind hH hE p fun ρ1 H1 x h1 dx _ e1 hH1 rx hE1 p1 => ?_)⟩
  split at p1
  · rename_i b q
    exact ⟨b, truD_ok hH1 rx q, post_val hH1 (.bl _) p1⟩
  · exact p1.elim
theorem chain_ok {r r' : R2} {f g : Op2} (os : OpS X.K cls ts r f) (os' : OpS X.K cls ts r' g) {σ : L2.St} {H : Hp} {Q : VK} (p : tE X.K cls ts W (cChain f g Fa Fb Fc) σ H Q) :
    tChain r r' (tE X.K cls ts W Fa) (tE X.K cls ts W Fb) (tE X.K cls ts W Fc) σ H Q := by
  obtain ⟨ρ, ε, h, hH, hE, p⟩ := p
  refine tG_bind hH hE p fun ρ1 H1 x h1 dx _ e1 hH1 rx hE1 p1 => tG_bind hH1 hE1 p1 fun ρ2 H2 y h2 dy _ e2 hH2 ry hE2 p2 => ?_
  have p2' : Post X.K cls ts (relD X.K) (fun c dd H' => W c dd σ H') ρ2 H2 ((f dx dy h2).bind fun z h3 => match z with
    | .bl true => (Fc ε h3).bind fun w h4 => g dy w h4
    | .bl false => .ok (.bl false) h3
    | _ => .stuck) Q := p2
  refine os (fun c dd H' => W c dd σ H') ρ2 H2 h2 x y dx dy _ hH2 (rx.mono e2) ry ?_
  cases q : f dx dy h2 with
  | stuck => rw [q] at p2'; exact p2'
  | exc x' h' => rw [q] at p2'; exact p2'
  | ok z h3 =>
    rw [q] at p2'
    intro ρ3 H3 v e3 hH3 rz
    have p3 := p2'.ext e3
    simp only [Res.bind_ok] at p3
    cases rz <;> first | exact p3.elim | skip
    rename_i k
    cases k with
    | true =>
      exact ⟨true, rfl, iteT (tG_bind hH3 (hE2.mono e3) p3 fun ρ4 H4 w h4 dw _ e4 hH4 rw' hE4 p4 => os' _ _ _ _ _ _ _ _ _ hH4 (ry.mono (e3.trans e4)) rw' p4)⟩
    | false => exact ⟨false, rfl, iteF (post_val hH3 (.bl _) p3)⟩
theorem e_chain {op op' : CmpOp} {r r' : R2} {f g : Op2} (ho : OpR X (compareOp op) r) (os : OpS X.K cls ts r f) (ho' : OpR X (compareOp op') r') (os' : OpS X.K cls ts r' g) (ha : E' X cls ts W a Fa) (hb : E' X cls ts W b Fb) (hc : E' X cls ts W c Fc)
    (hm : lastMarks [op, op'] [b, c] = false := by with_unfolding_all rfl) : E' X cls ts W (.Compare a [op, op'] [b, c] pos) (cChain f g Fa Fb Fc) :=
  ⟨fun pins s σ H Q I p => (pe_chain ho ho' ha hb hc hm).run pins s σ H Q I (chain_ok os os' p)⟩
theorem t_chain {op op' : CmpOp} {r r' : R2} {f g : Op2} (ho : OpR X (compareOp op) r) (os : OpS X.K cls ts r f) (ho' : OpR X (compareOp op') r') (os' : OpS X.K cls ts r' g) (ha : E' X cls ts W a Fa) (hb : E' X cls ts W b Fb) (hc : E' X cls ts W c Fc)
    (hm : lastMarks [op, op'] [b, c] = false := by with_unfolding_all rfl) : T' X cls ts W (.Compare a [op, op'] [b, c] pos) (tVal (cChain f g Fa Fb Fc)) := by
  refine ⟨fun pins s σ H Q I ⟨ρ, ε, h, hH, hE, p⟩ => (pt_chain ho ho' ha hb hc hm).run pins s σ H Q I (chain_ok os os' ?_)⟩
  exact tG_bind hH hE p fun ρ1 H1 x h1 dx _ e1 hH1 rx hE1 p1 => bl_of hH1 rx p1
theorem a_nil : A' X cls ts W [] aNil := ⟨fun pos pins s σ H Q I ⟨ρ, ε, h, hH, hE, p⟩ => pa_nil.run pos pins s σ H Q I (p _ _ _ .refl hH .nil)⟩
theorem a_cons (ha : E' X cls ts W e Fa) (hr : A' X cls ts W es A) (hs : starEach (e :: es) X.env = (false, eval e X.env) :: starEach es X.env := by rfl) : A' X cls ts W (e :: es) (aCons Fa A) :=
  ⟨fun pos pins s σ H Q I ⟨ρ, ε, h, hH, hE, p⟩ => (pa_cons ha hr hs).run pos pins s σ H Q I (tG_bind hH hE p fun ρ1 H1 x h1 dx _ e1 hH1 rx hE1 p1 =>
    tG_bind hH1 hE1 p1 fun ρ2 H2 y h2 dy _ e2 hH2 ry hE2 p2 => p2 _ _ _ .refl hH2 (.cons (rx.mono e2) ry))⟩
theorem e_tup {x1} (h : A' X cls ts W es A) : E' X cls ts W (.Tuple es x1 pos) (cTup A) := by
  refine ⟨fun pins s σ H Q I ⟨ρ, ε, hh, hH, hE, p⟩ => (pe_tup h).run pins s σ H Q I (tG_bind hH hE p fun ρ1 H1 x h1 dx _ e1 hH1 rx hE1 p1 => ?_)⟩
  split at p1
  · rename_i c
    exact ⟨by rw [rx.length]; exact c, post_newT hH1 rx p1⟩
  · exact p1.elim
theorem e_lst (h : A' X cls ts W es A) : E' X cls ts W (.List es pos) (cLst A) := by
  refine ⟨fun pins s σ H Q I ⟨ρ, ε, hh, hH, hE, p⟩ => (pe_lst h).run pins s σ H Q I (tG_bind hH hE p fun ρ1 H1 x h1 dx _ e1 hH1 rx hE1 p1 => ?_)⟩
  split at p1
  · rename_i c
    exact ⟨by rw [rx.length]; exact c, post_newL hH1 rx p1⟩
  · exact p1.elim
end
end Mi

namespace Mi
open L2 PySem PySem.Spec PyProof.Rows

/-! ### data as a whole -/
def omap {α β : Type} (f : α → Option β) : List α → Option (List β)
  | [] => some []
  | x :: xs => match f x, omap f xs with
    | some y, some ys => some (y :: ys)
    | _, _ => none
def pd : Nat → AH → D → Option PyData
  | _, _, .non => some .none
  | _, _, .bl b => some (.bool b)
  | _, _, .int i => some (.int i)
  | _, _, .str x => some (.str x)
  | 0, _, _ => none
  | n + 1, h, .tup xs => (omap (pd n h) xs).map .tuple
  | n + 1, h, .rol xs => (omap (pd n h) xs).map .list
  | n + 1, h, .ref r => match h[r]? with
    | some (.lst xs) => (omap (pd n h) xs).map .list
    | _ => none
  | _, _, _ => none
section
variable {K : PySem.W.Frag} {cls ts ρ : List Addr} {H : Hp} {h : AH}
theorem dpAll_of {f : D → Option PyData} (ih : ∀ v d p, RV K ρ H v d → f d = some p → Dp K H v p) : ∀ {xs : List V} {ds : List D} {ps : List PyData}, RVs K ρ H xs ds → omap f ds = some ps → DpAll K H xs ps
  | _, _, _, .nil, e => by cases e; exact .nil
  | x :: xs, d :: ds, ps, .cons r rs, e => by
    unfold omap at e
    split at e <;> cases e
    rename_i y ys q1 q2
    exact .cons (ih _ _ _ r q1) (dpAll_of ih rs q2)
theorem dp_of (r : RH K cls ts ρ H h) : ∀ (n : Nat) (v : V) (d : D) (p : PyData), RV K ρ H v d → pd n h d = some p → Dp K H v p := by
  intro n
  induction n with
  | zero =>
    intro v d p rv e
    cases rv <;> simp only [pd] at e <;> cases e
    · exact .non
    · exact .bl _
    · exact .int _
    · exact .str _
  | succ n ih =>
    intro v d p rv e
    cases rv with
    | non => cases e; exact .non
    | bl b => cases e; exact .bl b
    | int i => cases e; exact .int i
    | str x => cases e; exact .str x
    | tup h1 r1 =>
      simp only [pd, Option.map_eq_some_iff] at e
      obtain ⟨ps, q, rfl⟩ := e
      exact .tup h1 (dpAll_of ih r1 q)
    | rol h1 r1 =>
      simp only [pd, Option.map_eq_some_iff] at e
      obtain ⟨ps, q, rfl⟩ := e
      exact .lst h1.sq (dpAll_of ih r1 q)
    | ref q1 =>
      simp only [pd] at e
      split at e <;> first | (cases e; done) | skip
      rename_i xs e1
      obtain ⟨ps, q, rfl⟩ := Option.map_eq_some_iff.mp e
      obtain ⟨us, k1, r1⟩ := r.lst q1 e1
      exact .lst (SqL.of k1) (dpAll_of ih r1 q)
    | _ => cases e
end
/-- flat values -/
def flat : D → Option V
  | .non => some .non
  | .bl b => some (.bl b)
  | .int i => some (.int i)
  | .str x => some (.str x)
  | _ => none
section
variable {K : PySem.W.Frag} {cls ts ρ : List Addr} {H : Hp} {h : AH}
theorem flat_of {v w : V} {d : D} (r : RV K ρ H v d) (e : flat d = some w) : v = w ∧ flatV w = true := by
  cases r <;> cases e <;> exact ⟨rfl, rfl⟩
theorem flats_of : ∀ {xs ws : List V} {ds : List D}, RVs K ρ H xs ds → omap flat ds = some ws → xs = ws ∧ ws.all flatV = true
  | _, _, _, .nil, e => by cases e; exact ⟨rfl, rfl⟩
  | x :: xs, ws, d :: ds, .cons r rs, e => by
    unfold omap at e
    split at e <;> cases e
    rename_i y ys q1 q2
    obtain ⟨rfl, f1⟩ := flat_of r q1
    obtain ⟨rfl, f2⟩ := flats_of rs q2
    exact ⟨rfl, by rw [List.all_cons, f1, f2] <;> rfl⟩
end
/-- scalars compared: as == does it -/
def scalEq : D → D → Option Bool
  | .int i, .int j => some (decide (i = j))
  | .str a, .str b => some (decide (a = b))
  | .bl a, .bl b => some (decide (a = b))
  | .non, .non => some true
  | .int _, .str _ => some false
  | .str _, .int _ => some false
  | .non, .int _ => some false
  | .non, .str _ => some false
  | .non, .bl _ => some false
  | .int _, .non => some false
  | .str _, .non => some false
  | .bl _, .non => some false
  | .bl _, .str _ => some false
  | .str _, .bl _ => some false
  | _, _ => none
def opEq : Op2 := fun x y h => match scalEq x y with
  | some b => .ok (.bl b) h
  | none => match pd 66 h x, pd 66 h y with
    | some p, some q => if SeqAt.shaped p = true ∧ SeqAt.shaped q = true then .ok (.bl (PyData.eqv p q)) h else .stuck
    | _, _ => .stuck
def opNe : Op2 := fun x y h => match scalEq x y with
  | some b => .ok (.bl (!b)) h
  | none => match pd 66 h x, pd 66 h y with
    | some p, some q => if SeqAt.shaped p = true ∧ SeqAt.shaped q = true then .ok (.bl (!PyData.eqv p q)) h else .stuck
    | _, _ => .stuck
def rEqM (K : PySem.W.Frag) : R2 := fun x y H Q => rEq x y H Q ∨ rEqD K x y H Q
def rNeM (K : PySem.W.Frag) : R2 := fun x y H Q => rNe x y H Q ∨ rNeD K x y H Q
theorem op_eqM {X : Cx} (hu : X.A.units + 64 < cLine) : OpR X (compareOp .Eq) (rEqM X.K) := op_eq.or (op_eqD hu)
theorem op_neM {X : Cx} (hu : X.A.units + 64 < cLine) : OpR X (compareOp .NotEq) (rNeM X.K) := op_ne.or (op_neD hu)
section
variable {K : PySem.W.Frag} {cls ts ρ : List Addr} {H : Hp} {h : AH}
theorem scal_of {x y : V} {dx dy : D} {b : Bool} (rx : RV K ρ H x dx) (ry : RV K ρ H y dy) (e : scalEq dx dy = some b) : scal x y = true ∧ b = decide (x = y) := by
  cases rx <;> cases ry <;> simp only [scalEq, Option.some.injEq, reduceCtorEq] at e <;> first | (subst e; refine ⟨rfl, ?_⟩; simp)
theorem opEq_ok : OpS K cls ts (rEqM K) opEq := by
  intro W ρ H h x y dx dy Q r rx ry p
  unfold opEq at p
  split at p
  · rename_i b e
    obtain ⟨s1, rfl⟩ := scal_of rx ry e
    exact .inl ⟨s1, post_val r (.bl _) p⟩
  · split at p <;> first | exact p.elim | skip
    rename_i p1 p2 q1 q2
    split at p <;> first | exact p.elim | skip
    rename_i c
    exact .inr ⟨p1, p2, dp_of r _ _ _ _ rx q1, dp_of r _ _ _ _ ry q2, c.1, c.2, post_val r (.bl _) p⟩
theorem opNe_ok : OpS K cls ts (rNeM K) opNe := by
  intro W ρ H h x y dx dy Q r rx ry p
  unfold opNe at p
  split at p
  · rename_i b e
    obtain ⟨s1, rfl⟩ := scal_of rx ry e
    exact .inl ⟨s1, post_val r (.bl _) p⟩
  · split at p <;> first | exact p.elim | skip
    rename_i p1 p2 q1 q2
    split at p <;> first | exact p.elim | skip
    rename_i c
    exact .inr ⟨p1, p2, dp_of r _ _ _ _ rx q1, dp_of r _ _ _ _ ry q2, c.1, c.2, post_val r (.bl _) p⟩
end
def ltS (a b : Str) : Bool := decide (a.cps.toList < b.cps.toList)
def opLt : Op2
  | .int i, .int j, h => .ok (.bl (decide (i < j))) h
  | .str a, .str b, h => .ok (.bl (ltS a b)) h
  | _, _, _ => .stuck
def opLe : Op2
  | .int i, .int j, h => .ok (.bl (decide (i ≤ j))) h
  | .str a, .str b, h => .ok (.bl (!ltS b a)) h
  | _, _, _ => .stuck
def opGt : Op2
  | .int i, .int j, h => .ok (.bl (decide (j < i))) h
  | .str a, .str b, h => .ok (.bl (ltS b a)) h
  | _, _, _ => .stuck
def opGe : Op2
  | .int i, .int j, h => .ok (.bl (decide (j ≤ i))) h
  | .str a, .str b, h => .ok (.bl (!ltS a b)) h
  | _, _, _ => .stuck
def rOrd (f : Int → Int → Bool) (g : Str → Str → Bool) : R2 := fun x y H Q => rI0 (fun i j => .bl (f i j)) x y H Q ∨ ∃ i j, x = .str i ∧ y = .str j ∧ Q (.bl (g i j)) H
theorem op_ltM {X : Cx} : OpR X (compareOp .Lt) (rOrd (fun i j => decide (i < j)) ltS) := op_lt.or op_lt_str
theorem op_leM {X : Cx} : OpR X (compareOp .LtE) (rOrd (fun i j => decide (i ≤ j)) fun a b => !ltS b a) := op_le.or op_le_str
theorem op_gtM {X : Cx} : OpR X (compareOp .Gt) (rOrd (fun i j => decide (j < i)) fun a b => ltS b a) := op_gt.or op_gt_str
theorem op_geM {X : Cx} : OpR X (compareOp .GtE) (rOrd (fun i j => decide (j ≤ i)) fun a b => !ltS a b) := op_ge.or op_ge_str
section
variable {K : PySem.W.Frag} {cls ts : List Addr}
theorem ord_ok {f : Int → Int → Bool} {g : Str → Str → Bool} {op : Op2} (h1 : ∀ i j h, op (.int i) (.int j) h = .ok (.bl (f i j)) h) (h2 : ∀ i j h, op (.str i) (.str j) h = .ok (.bl (g i j)) h)
    (h3 : ∀ x y h, (∀ i j, ¬ (x = .int i ∧ y = .int j)) → (∀ i j, ¬ (x = .str i ∧ y = .str j)) → op x y h = .stuck) : OpS K cls ts (rOrd f g) op := by
  intro W ρ H h x y dx dy Q r rx ry p
  cases rx with
  | int i =>
    cases ry with
    | int j =>
      rw [h1] at p
      exact .inl ⟨_, _, rfl, rfl, post_val r (.bl _) p⟩
    | _ =>
      rw [h3 _ _ _ (by intro i j ⟨_, z⟩; cases z) (by intro i j ⟨z, _⟩; cases z)] at p
      exact p.elim
  | str i =>
    cases ry with
    | str j =>
      rw [h2] at p
      exact .inr ⟨_, _, rfl, rfl, post_val r (.bl _) p⟩
    | _ =>
      rw [h3 _ _ _ (by intro i j ⟨z, _⟩; cases z) (by intro i j ⟨_, z⟩; cases z)] at p
      exact p.elim
  | _ =>
    rw [h3 _ _ _ (by intro i j ⟨z, _⟩; cases z) (by intro i j ⟨z, _⟩; cases z)] at p
    exact p.elim
theorem opLt_ok : OpS K cls ts (rOrd (fun i j => decide (i < j)) ltS) opLt := ord_ok (fun _ _ _ => rfl) (fun _ _ _ => rfl) fun x y h a b => by
  cases x <;> cases y <;> first | rfl | exact absurd ⟨rfl, rfl⟩ (a _ _) | exact absurd ⟨rfl, rfl⟩ (b _ _)
theorem opLe_ok : OpS K cls ts (rOrd (fun i j => decide (i ≤ j)) fun a b => !ltS b a) opLe := ord_ok (fun _ _ _ => rfl) (fun _ _ _ => rfl) fun x y h a b => by
  cases x <;> cases y <;> first | rfl | exact absurd ⟨rfl, rfl⟩ (a _ _) | exact absurd ⟨rfl, rfl⟩ (b _ _)
theorem opGt_ok : OpS K cls ts (rOrd (fun i j => decide (j < i)) fun a b => ltS b a) opGt := ord_ok (fun _ _ _ => rfl) (fun _ _ _ => rfl) fun x y h a b => by
  cases x <;> cases y <;> first | rfl | exact absurd ⟨rfl, rfl⟩ (a _ _) | exact absurd ⟨rfl, rfl⟩ (b _ _)
theorem opGe_ok : OpS K cls ts (rOrd (fun i j => decide (j ≤ i)) fun a b => !ltS a b) opGe := ord_ok (fun _ _ _ => rfl) (fun _ _ _ => rfl) fun x y h a b => by
  cases x <;> cases y <;> first | rfl | exact absurd ⟨rfl, rfl⟩ (a _ _) | exact absurd ⟨rfl, rfl⟩ (b _ _)
end
/-- is, is not: with None; of truths; of two things of the store -/
def isD : D → D → AH → Option Bool
  | .non, .non, _ => some true
  | .bl _, .non, _ => some false
  | .int _, .non, _ => some false
  | .str _, .non, _ => some false
  | .tup _, .non, _ => some false
  | .rol _, .non, _ => some false
  | .ref _, .non, _ => some false
  | .bl a, .bl b, _ => some (decide (a = b))
  | .ref a, .ref b, h => match h[a]?, h[b]? with
    | some (.lst _), some (.lst _) => some (decide (a = b))
    | some (.lst _), some (.ins _ _) => some (decide (a = b))
    | some (.ins _ _), some (.lst _) => some (decide (a = b))
    | some (.ins _ _), some (.ins _ _) => some (decide (a = b))
    | _, _ => none
  | _, _, _ => none
def opIs : Op2 := fun x y h => match isD x y h with
  | some b => .ok (.bl b) h
  | none => .stuck
def opIsNot : Op2 := fun x y h => match isD x y h with
  | some b => .ok (.bl (!b)) h
  | none => .stuck
def rIsA (n : Bool) : R2 := fun x y H Q => (y = .non ∧ Q (.bl (if n then !decide (x = .non) else decide (x = .non))) H) ∨ (∃ a b : Bool, x = .bl a ∧ y = .bl b ∧ Q (.bl (if n then !decide (a = b) else decide (a = b))) H) ∨
  ∃ a b oa ob, x = .ref a ∧ y = .ref b ∧ H a = some oa ∧ isObj oa = true ∧ H b = some ob ∧ isObj ob = true ∧ Q (.bl (if n then !decide (a = b) else decide (a = b))) H
theorem op_isM {X : Cx} : OpR X (compareOp .Is) (rIsA false) := op_isN.or (op_isBl.or op_is_ref)
theorem op_isNotM {X : Cx} : OpR X (compareOp .IsNot) (rIsA true) := op_notN.or (op_notBl.or op_isnot_ref)
section
variable {K : PySem.W.Frag} {cls ts ρ : List Addr} {H : Hp} {h : AH}
theorem isObj_of {a : Addr} {o : O} (r : RO K cls ρ H a o) (ho : (∃ ds, o = .lst ds) ∨ ∃ c fs, o = .ins c fs) : ∃ u, H a = some u ∧ isObj u = true := by
  rcases ho with ⟨ds, rfl⟩ | ⟨c, fs, rfl⟩
  · obtain ⟨xs, k, _⟩ := r
    exact ⟨_, k, rfl⟩
  · obtain ⟨_, _, _, _, k, _⟩ := r
    exact ⟨_, k, rfl⟩
theorem isD_ok {n : Bool} {x y : V} {dx dy : D} {b : Bool} {Q : VK} (r : RH K cls ts ρ H h) (rx : RV K ρ H x dx) (ry : RV K ρ H y dy) (e : isD dx dy h = some b) (q : Q (.bl (if n then !b else b)) H) : rIsA n x y H Q := by
  cases ry with
  | non =>
    refine .inl ⟨rfl, ?_⟩
    have : b = decide (x = .non) := by
      cases rx <;> cases e <;> simp
    rw [this] at q
    exact q
  | bl b2 =>
    cases rx <;> cases e
    exact .inr (.inl ⟨_, _, rfl, rfl, q⟩)
  | ref q2 =>
    cases rx with
    | ref q1 =>
      rename_i a2 n2 a1 n1
      have key : ∀ {o1 o2 : O}, h[n1]? = some o1 → h[n2]? = some o2 → ((∃ ds, o1 = .lst ds) ∨ ∃ c fs, o1 = .ins c fs) → ((∃ ds, o2 = .lst ds) ∨ ∃ c fs, o2 = .ins c fs) → b = decide (n1 = n2) → rIsA n (.ref a1) (.ref a2) H Q := fun {o1 o2} e1 e2 k1 k2 eb => by
        obtain ⟨u1, w1, i1⟩ := isObj_of (r.ref q1 e1) k1
        obtain ⟨u2, w2, i2⟩ := isObj_of (r.ref q2 e2) k2
        refine .inr (.inr ⟨a1, a2, u1, u2, rfl, rfl, w1, i1, w2, i2, ?_⟩)
        have : b = decide (a1 = a2) := by
          rw [eb, Bool.eq_iff_iff, decide_eq_true_iff, decide_eq_true_iff]
          constructor
          · intro z
            subst z
            rw [q1] at q2
            exact Option.some.inj q2
          · intro z
            subst z
            obtain ⟨l1, z1⟩ := List.getElem?_eq_some_iff.mp q1
            obtain ⟨l2, z2⟩ := List.getElem?_eq_some_iff.mp q2
            exact (List.getElem_inj r.nd).mp (z1.trans z2.symm)
        rw [← this]
        exact q
      simp only [isD] at e
      split at e <;> cases e
      · rename_i e1 e2; exact key e1 e2 (.inl ⟨_, rfl⟩) (.inl ⟨_, rfl⟩) rfl
      · rename_i e1 e2; exact key e1 e2 (.inl ⟨_, rfl⟩) (.inr ⟨_, _, rfl⟩) rfl
      · rename_i e1 e2; exact key e1 e2 (.inr ⟨_, _, rfl⟩) (.inl ⟨_, rfl⟩) rfl
      · rename_i e1 e2; exact key e1 e2 (.inr ⟨_, _, rfl⟩) (.inr ⟨_, _, rfl⟩) rfl
    | _ => cases e
  | _ => cases rx <;> cases e
theorem opIs_ok : OpS K cls ts (rIsA false) opIs := by
  intro W ρ H h x y dx dy Q r rx ry p
  unfold opIs at p
  split at p <;> first | exact p.elim | skip
  rename_i b e
  exact isD_ok r rx ry e (post_val r (.bl _) p)
theorem opIsNot_ok : OpS K cls ts (rIsA true) opIsNot := by
  intro W ρ H h x y dx dy Q r rx ry p
  unfold opIsNot at p
  split at p <;> first | exact p.elim | skip
  rename_i b e
  exact isD_ok r rx ry e (post_val r (.bl _) p)
end
/-- what a list, a tuple holds -/
def seqD : D → AH → Option (List D)
  | .tup xs, _ => some xs
  | .rol xs, _ => some xs
  | .ref n, h => match h[n]? with
    | some (.lst xs) => some xs
    | _ => none
  | _, _ => none
theorem seq_of {K : PySem.W.Frag} {cls ts ρ : List Addr} {H : Hp} {h : AH} {v : V} {d : D} {ds : List D} (r : RH K cls ts ρ H h) (rv : RV K ρ H v d) (e : seqD d h = some ds) : ∃ a xs, v = .ref a ∧ (SqL K H a xs ∨ SqT K H a xs) ∧ RVs K ρ H xs ds := by
  cases rv with
  | tup h1 r1 => cases e; exact ⟨_, _, rfl, .inr h1, r1⟩
  | rol h1 r1 => cases e; exact ⟨_, _, rfl, .inl h1.sq, r1⟩
  | ref q1 =>
    simp only [seqD] at e
    split at e <;> cases e
    rename_i e1
    obtain ⟨us, k1, r1⟩ := r.lst q1 e1
    exact ⟨_, _, rfl, .inl (SqL.of k1), r1⟩
  | _ => cases e
/-- in, not in: flat things in a row of flat ones; data in a list; a text in a text -/
def inD (x y : D) (h : AH) : Option Bool :=
  match y with
  | .str z => match x with
    | .str i => some (!(Builtin.Str.occurrences z i 0 z.length 1).isEmpty)
    | _ => none
  | _ => match seqD y h with
    | none => none
    | some ds => match flat x, omap flat ds with
      | some v, some vs => some (inV v vs)
      | _, _ => match pd 66 h x, pd 66 h y with
        | some p, some (.list ps) => if SeqAt.shaped p = true ∧ SeqAt.shaped (.list ps) = true then some (ps.any fun z => PyData.eqv z p) else none
        | _, _ => none
def opIn : Op2 := fun x y h => match inD x y h with
  | some b => .ok (.bl b) h
  | none => .stuck
def opNotIn : Op2 := fun x y h => match inD x y h with
  | some b => .ok (.bl (!b)) h
  | none => .stuck
def rInM (K : PySem.W.Frag) : R2 := fun x y H Q => rIn K false x y H Q ∨ (∃ i j, x = .str i ∧ y = .str j ∧ Q (.bl (!(Builtin.Str.occurrences j i 0 j.length 1).isEmpty)) H) ∨ rInD K x y H Q
def rNotInM (K : PySem.W.Frag) : R2 := fun x y H Q => rIn K true x y H Q ∨ (∃ i j, x = .str i ∧ y = .str j ∧ Q (.bl (!(!(Builtin.Str.occurrences j i 0 j.length 1).isEmpty))) H) ∨ rNotInD K x y H Q
theorem op_inM {X : Cx} (hu : X.A.units + 65 < cLine) : OpR X (compareOp .In) (rInM X.K) := op_in_seq.or (op_in_str.or (op_inD hu))
theorem op_notInM {X : Cx} (hu : X.A.units + 65 < cLine) : OpR X (compareOp .NotIn) (rNotInM X.K) := op_notIn_seq.or (op_notin_str.or (op_notInD hu))
section
variable {K : PySem.W.Frag} {cls ts ρ : List Addr} {H : Hp} {h : AH}
theorem inD_ok {x y : V} {dx dy : D} {b : Bool} {Q : VK} (r : RH K cls ts ρ H h) (rx : RV K ρ H x dx) (ry : RV K ρ H y dy) (e : inD dx dy h = some b) : (Q (.bl b) H → rInM K x y H Q) ∧ (Q (.bl (!b)) H → rNotInM K x y H Q) := by
  unfold inD at e
  split at e
  · split at e <;> cases e
    cases rx
    cases ry
    exact ⟨fun q => .inr (.inl ⟨_, _, rfl, rfl, q⟩), fun q => .inr (.inl ⟨_, _, rfl, rfl, q⟩)⟩
  · split at e <;> first | (cases e; done) | skip
    rename_i ds es
    obtain ⟨a, xs, rfl, hs, rs⟩ := seq_of r ry es
    split at e
    · rename_i w ws q1 q2
      cases e
      obtain ⟨rfl, f1⟩ := flat_of rx q1
      obtain ⟨rfl, f2⟩ := flats_of rs q2
      exact ⟨fun q => .inl ⟨_, _, rfl, hs, f1, f2, q⟩, fun q => .inl ⟨_, _, rfl, hs, f1, f2, q⟩⟩
    · split at e <;> first | (cases e; done) | skip
      rename_i p ps q1 q2
      split at e <;> cases e
      rename_i c
      exact ⟨fun q => .inr (.inr ⟨_, _, dp_of r _ _ _ _ rx q1, dp_of r _ _ _ _ ry q2, c.1, c.2, q⟩), fun q => .inr (.inr ⟨_, _, dp_of r _ _ _ _ rx q1, dp_of r _ _ _ _ ry q2, c.1, c.2, q⟩)⟩
theorem opIn_ok : OpS K cls ts (rInM K) opIn := by
  intro W ρ H h x y dx dy Q r rx ry p
  unfold opIn at p
  split at p <;> first | exact p.elim | skip
  rename_i b e
  exact (inD_ok r rx ry e).1 (post_val r (.bl _) p)
theorem opNotIn_ok : OpS K cls ts (rNotInM K) opNotIn := by
  intro W ρ H h x y dx dy Q r rx ry p
  unfold opNotIn at p
  split at p <;> first | exact p.elim | skip
  rename_i b e
  exact (inD_ok r rx ry e).2 (post_val r (.bl _) p)
end
end Mi

namespace Mi
open L2 PySem PySem.Spec PyProof.Rows

/-! ### items and cuts -/
def opIx : Op2
  | .str z, .int i, h => if z.length ≤ sizeLine then match atI z.cps.toList i with
      | some c => .ok (.str ⟨#[c]⟩) h
      | none => .stuck
    else .stuck
  | c, .int i, h => match seqD c h with
    | some ds => match atI ds i with
      | some d => .ok d h
      | none => .stuck
    | none => .stuck
  | _, _, _ => .stuck
theorem RVs.at {K : PySem.W.Frag} {ρ : List Addr} {H : Hp} {xs : List V} {ds : List D} {i : Int} {d : D} (r : RVs K ρ H xs ds) (e : atI ds i = some d) : ∃ v, atI xs i = some v ∧ RV K ρ H v d := by
  unfold atI at e ⊢
  rw [r.length]
  obtain ⟨j, hj, e⟩ := Option.bind_eq_some_iff.mp e
  rw [hj]
  exact r.get e
theorem opIx_ok {K : PySem.W.Frag} {cls ts : List Addr} : OpS K cls ts (rIx K) opIx := by
  intro W ρ H h x y dx dy Q r rx ry p
  cases ry with
  | int i =>
    have seq : ∀ {c : D}, RV K ρ H x c → Post K cls ts (relD K) W ρ H (match seqD c h with
        | some ds => match atI ds i with
          | some d => .ok d h
          | none => .stuck
        | none => .stuck) Q → rIx K x (.int i) H Q := fun {c} rc p => by
      split at p <;> first | exact p.elim | skip
      rename_i ds e
      split at p <;> first | exact p.elim | skip
      rename_i d e2
      obtain ⟨a, xs, rfl, hs, rs⟩ := seq_of r rc e
      obtain ⟨v, hv, rv⟩ := rs.at e2
      rcases hs with hs | hs
      · exact .inl ⟨_, _, _, _, rfl, rfl, hs, hv, post_val r rv p⟩
      · exact .inr (.inl ⟨_, _, _, _, rfl, rfl, hs, hv, post_val r rv p⟩)
    cases rx with
    | str z =>
      simp only [opIx] at p
      split at p <;> first | exact p.elim | skip
      rename_i c
      split at p <;> first | exact p.elim | skip
      rename_i k e
      exact .inr (.inr ⟨_, _, _, rfl, rfl, c, e, post_val r (.str _) p⟩)
    | tup h1 r1 => exact seq (.tup h1 r1) p
    | rol h1 r1 => exact seq (.rol h1 r1) p
    | ref q1 => exact seq (.ref q1) p
    | _ => exact p.elim
  | _ => cases rx <;> exact p.elim
abbrev OF := AEnv → AH → Res (Option Int)
def oNone : OF := fun _ h => .ok none h
def oSome (F : EF) : OF := fun ε h => (F ε h).bind fun d h1 => match d with
  | .int i => .ok (some i) h1
  | _ => .stuck
def cutL {α : Type} (xs : List α) (lo hi : Option Int) : List α := (xs.drop (HT.sIx xs.length 0 lo)).take (HT.sIx xs.length xs.length hi - HT.sIx xs.length 0 lo)
def cutD (c : D) (lo hi : Option Int) (h : AH) : Res D :=
  match c with
  | .str z => if z.length ≤ sizeLine then .ok (.str (cutS z lo hi)) h else .stuck
  | .tup xs => .ok (.tup (cutL xs lo hi)) h
  | .rol xs => .ok (.ref h.length) (h ++ [.lst (cutL xs lo hi)])
  | .ref n => match h[n]? with
    | some (.lst xs) => .ok (.ref h.length) (h ++ [.lst (cutL xs lo hi)])
    | _ => .stuck
  | _ => .stuck
def cCut (F : EF) (lo hi : OF) : EF := fun ε h => (F ε h).bind fun c h1 => (lo ε h1).bind fun l h2 => (hi ε h2).bind fun u h3 => cutD c l u h3
def revD (c : D) (h : AH) : Res D :=
  match c with
  | .rol xs => .ok (.ref h.length) (h ++ [.lst xs.reverse])
  | .ref n => match h[n]? with
    | some (.lst xs) => .ok (.ref h.length) (h ++ [.lst xs.reverse])
    | _ => .stuck
  | _ => .stuck
def cRev (F : EF) : EF := fun ε h => (F ε h).bind revD
def rSlM (K : PySem.W.Frag) : V → Option Int → Option Int → Hp → VK → Prop := fun x lo hi H Q => rSlS x lo hi H Q ∨ rSlA K x lo hi H Q ∨ rSlL K x lo hi H Q
theorem cut_rel {K : PySem.W.Frag} {ρ : List Addr} {H : Hp} {xs : List V} {ds : List D} (r : RVs K ρ H xs ds) (lo hi : Option Int) : RVs K ρ H (cutV xs lo hi) (cutL ds lo hi) := by
  unfold cutV cutL
  rw [r.length]
  exact (r.drop _).take _
section
variable {X : Cx} {W : WX} {cls ts : List Addr} {a b c e : Expr} {Fa Fb Fc F : EF} {A : AF} {es : List Expr} {pos : Pos} {lo hi : OF}
theorem e_ix (ha : E' X cls ts W a Fa) (hb : E' X cls ts W b Fb) (hs : PlainIx b := by exact fun _ _ => rfl) : E' X cls ts W (.Subscript a b pos) (cBin opIx Fa Fb) :=
  ⟨fun pins s σ H Q I ⟨ρ, ε, h, hH, hE, p⟩ => (pe_ix ix_seq ha hb hs).run pins s σ H Q I (tG_bind hH hE p fun ρ1 H1 x h1 dx _ e1 hH1 rx hE1 p1 =>
    tG_bind hH1 hE1 p1 fun ρ2 H2 y h2 dy _ e2 hH2 ry hE2 p2 => opIx_ok _ _ _ _ _ _ _ _ _ hH2 (rx.mono e2) ry p2)⟩
abbrev relO : List Addr → Hp → Option Int → Option Int → Prop := fun _ _ b a => b = a
abbrev O' (X : Cx) (cls ts : List Addr) (W : WX) (e : Option Expr) (F : OF) : Prop := PO X e (tG X.K cls ts relO W F)
theorem o_none : O' X cls ts W none oNone := ⟨fun pins s σ H Q I ⟨ρ, ε, h, hH, hE, p⟩ => po_none.run pins s σ H Q I (p _ _ _ .refl hH rfl)⟩
theorem o_some (h : E' X cls ts W e F) : O' X cls ts W (some e) (oSome F) := by
  refine ⟨fun pins s σ H Q I ⟨ρ, ε, hh, hH, hE, p⟩ => (po_some h).run pins s σ H Q I (tG_bind hH hE p fun ρ1 H1 x h1 dx _ e1 hH1 rx hE1 p1 => ?_)⟩
  cases rx <;> first | exact p1.elim | skip
  exact ⟨_, rfl, p1 _ _ _ .refl hH1 rfl⟩
theorem cut_ok {K : PySem.W.Frag} {W : Value → Option Addr → Hp → Prop} {ρ : List Addr} {H : Hp} {h : AH} {x : V} {d : D} {l u : Option Int} {Q : VK} (r : RH K cls ts ρ H h) (rx : RV K ρ H x d) (p : Post K cls ts (relD K) W ρ H (cutD d l u h) Q) : rSlM K x l u H Q := by
  cases rx with
  | str z =>
    simp only [cutD] at p
    split at p <;> first | exact p.elim | skip
    rename_i c
    exact .inl ⟨_, rfl, c, post_val r (.str _) p⟩
  | tup h1 r1 =>
    refine .inr (.inl ⟨_, _, rfl, h1, fun z => ?_, fun _ => post_newT r (cut_rel r1 l u) p⟩)
    have e : cutL (‹List D› : List D) l u = ‹List D› := by
      unfold cutL
      rw [← r1.length, z.1, z.2, List.drop_zero, Nat.sub_zero, r1.length]
      exact List.take_length
    simp only [cutD] at p
    rw [e] at p
    exact post_val r (.tup h1 r1) p
  | rol h1 r1 => exact .inr (.inr ⟨_, _, rfl, h1.sq, post_newL r (cut_rel r1 l u) p⟩)
  | ref q1 =>
    simp only [cutD] at p
    split at p <;> first | exact p.elim | skip
    rename_i xs e1
    obtain ⟨us, k1, r1⟩ := r.lst q1 e1
    exact .inr (.inr ⟨_, _, rfl, SqL.of k1, post_newL r (cut_rel r1 l u) p⟩)
  | _ => exact p.elim
theorem e_cut {lo' hi' : Option Expr} {p2 : Pos} (he : E' X cls ts W e F) (hl : O' X cls ts W lo' lo) (hu : O' X cls ts W hi' hi) : E' X cls ts W (.Subscript e (.Slice lo' hi' none p2) pos) (cCut F lo hi) :=
  ⟨fun pins s σ H Q I ⟨ρ, ε, h, hH, hE, p⟩ => (pe_slice (sl_str.or (sl_tupA.or sl_list)) he hl hu).run pins s σ H Q I (tG_bind hH hE p fun ρ1 H1 x h1 dx _ e1 hH1 rx hE1 p1 =>
    tG_bind hH1 hE1 p1 fun ρ2 H2 y h2 dy _ e2 hH2 ry hE2 p2 => tG_bind hH2 hE2 p2 fun ρ3 H3 z h3 dz _ e3 hH3 rz hE3 p3 => by
      cases ry
      cases rz
      exact cut_ok hH3 (rx.mono (e2.trans e3)) p3)⟩
theorem e_rev {k : Nat} {p1 p2 p3 : Pos} (he : E' X cls ts W e F) : E' X cls ts W (.Subscript e (.Slice none none (some (.UnaryOp .USub (.Constant (.int 1) k p1) p2)) p3) pos) (cRev F) := by
  refine ⟨fun pins s σ H Q I ⟨ρ, ε, h, hH, hE, p⟩ => (pe_revL he).run pins s σ H Q I (tG_bind hH hE p fun ρ1 H1 x h1 dx _ e1 hH1 rx hE1 p1 => ?_)⟩
  cases rx with
  | rol h1 r1 => exact ⟨_, _, rfl, h1.sq, post_newL hH1 r1.reverse p1⟩
  | ref q1 =>
    simp only [revD] at p1
    split at p1 <;> first | exact p1.elim | skip
    rename_i xs e1
    obtain ⟨us, k1, r1⟩ := hH1.lst q1 e1
    exact ⟨_, _, rfl, SqL.of k1, post_newL hH1 r1.reverse p1⟩
  | _ => exact p1.elim
end

/-! ### built-ins called by their names -/
abbrev OpN := List D → AH → Res D
def CallS (K : PySem.W.Frag) (cls ts : List Addr) (r : List V → Hp → VK → Prop) (f : OpN) : Prop :=
  ∀ (W : Value → Option Addr → Hp → Prop) (ρ : List Addr) (H : Hp) (h : AH) (xs : List V) (ds : List D) (Q : VK), RH K cls ts ρ H h → RVs K ρ H xs ds → Post K cls ts (relD K) W ρ H (f ds h) Q → r xs H Q
def cCall (f : OpN) (A : AF) : EF := fun ε h => (A ε h).bind f
section
variable {X : Cx} {W : WX} {cls ts : List Addr} {e : Expr} {A : AF} {es : List Expr} {p pos : Pos} {x : Str} {id T : String} {r : List V → Hp → VK → Prop} {f : OpN}
theorem e_callB (hc : CallR X (.builtin id) r) (os : CallS X.K cls ts r f) (hg : Gl X x) (hm : X.mg x = none) (hv : bootBuiltins x = some (.builtin id)) (ha : A' X cls ts W (e :: es) A) (hn : x ≠ "__name__" := by decide) (hdb : (x == ("__debug__" : Str)) = false := by decide)
    (he : starEach (e :: es) X.env = (false, eval e X.env) :: starEach es X.env := by rfl) (hpl : (backTo pos (starEach es X.env)).any (·.1) = false := by rfl) : E' X cls ts W (.Call (.Name x p) (e :: es) [] pos) (cCall f A) :=
  ⟨fun pins s σ H Q I ⟨ρ, ε, h, hH, hE, q⟩ => (pe_callB hc hg hm hv ha hn hdb he hpl).run pins s σ H Q I (tG_bind hH hE q fun ρ1 H1 x h1 dx _ e1 hH1 rx hE1 p1 => os _ _ _ _ _ _ _ hH1 rx p1)⟩
theorem e_callTy (hc : CallR X (.type T) r) (os : CallS X.K cls ts r f) (hg : Gl X x) (hm : X.mg x = none) (hv : bootBuiltins x = some (.type T)) (ha : A' X cls ts W (e :: es) A) (hn : x ≠ "__name__" := by decide) (hdb : (x == ("__debug__" : Str)) = false := by decide)
    (he : starEach (e :: es) X.env = (false, eval e X.env) :: starEach es X.env := by rfl) (hpl : (backTo pos (starEach es X.env)).any (·.1) = false := by rfl) : E' X cls ts W (.Call (.Name x p) (e :: es) [] pos) (cCall f A) :=
  ⟨fun pins s σ H Q I ⟨ρ, ε, h, hH, hE, q⟩ => (pe_callTy hc hg hm hv ha hn hdb he hpl).run pins s σ H Q I (tG_bind hH hE q fun ρ1 H1 x h1 dx _ e1 hH1 rx hE1 p1 => os _ _ _ _ _ _ _ hH1 rx p1)⟩
end
theorem RVs.one {K : PySem.W.Frag} {ρ : List Addr} {H : Hp} {xs : List V} {d : D} (r : RVs K ρ H xs [d]) : ∃ v, xs = [v] ∧ RV K ρ H v d := by
  cases r with
  | cons a b => cases b; exact ⟨_, rfl, a⟩
theorem RVs.two {K : PySem.W.Frag} {ρ : List Addr} {H : Hp} {xs : List V} {d e : D} (r : RVs K ρ H xs [d, e]) : ∃ v w, xs = [v, w] ∧ RV K ρ H v d ∧ RV K ρ H w e := by
  cases r with
  | cons a b => obtain ⟨w, rfl, c⟩ := RVs.one b; exact ⟨_, w, rfl, a, c⟩
/-- len -/
def fLen : OpN
  | [.str x], h => if x.length ≤ sizeLine then .ok (.int x.length) h else .stuck
  | [.ref n], h => match h[n]? with
    | some (.lst xs) => .ok (.int xs.length) h
    | some (.dic kvs) => .ok (.int kvs.length) h
    | _ => .stuck
  | [.tup xs], h => .ok (.int xs.length) h
  | [.rol xs], h => .ok (.int xs.length) h
  | _, _ => .stuck
def rLenM (K : PySem.W.Frag) : List V → Hp → VK → Prop := fun xs H Q => (∃ x n, xs = [x] ∧ LenV K x H n ∧ Q (.int n) H) ∨ ∃ p kvs, xs = [.ref p] ∧ H p = some (.dK kvs) ∧ Q (.int kvs.length) H
theorem call_lenM {X : Cx} : CallR X (.builtin "len") (rLenM X.K) := CallR.or call_len fun pins s σ H xs us Q I r h => by
  obtain ⟨p, kvs, rfl, e, q⟩ := h
  exact call_lenD pins s σ H [.ref p] us Q I r ⟨p, kvs, rfl, e, q⟩
theorem len_ok {K : PySem.W.Frag} {cls ts : List Addr} : CallS K cls ts (rLenM K) fLen := by
  intro W ρ H h xs ds Q r rs p
  unfold fLen at p
  split at p
  · obtain ⟨v, rfl, rv⟩ := rs.one
    cases rv
    split at p <;> first | exact p.elim | skip
    rename_i c
    exact .inl ⟨_, _, rfl, ⟨c, rfl⟩, post_val r (.int _) p⟩
  · obtain ⟨v, rfl, rv⟩ := rs.one
    cases rv with
    | ref q1 =>
      split at p <;> first | exact p.elim | skip
      · rename_i xs e
        obtain ⟨us, k1, r1⟩ := r.lst q1 e
        exact .inl ⟨_, us.length, rfl, .inl ⟨_, SqL.of k1, rfl⟩, by rw [r1.length]; exact post_val r (.int _) p⟩
      · rename_i xs e
        obtain ⟨us, k1, r1⟩ := r.dic q1 e
        exact .inr ⟨_, us, rfl, k1, by rw [Paired.length r1]; exact post_val r (.int _) p⟩
  · obtain ⟨v, rfl, rv⟩ := rs.one
    cases rv with
    | tup h1 r1 => exact .inl ⟨_, _, rfl, .inr ⟨_, h1, rfl⟩, by rw [r1.length]; exact post_val r (.int _) p⟩
  · obtain ⟨v, rfl, rv⟩ := rs.one
    cases rv with
    | rol h1 r1 => exact .inl ⟨_, _, rfl, .inl ⟨_, h1.sq, rfl⟩, by rw [r1.length]; exact post_val r (.int _) p⟩
  · exact p.elim
end Mi

namespace Mi
open L2 PySem PySem.Spec PyProof.Rows

/-! ### repr -/
def keyP : Key → PyData
  | .inl i => .int i
  | .inr x => .str x
/-- a dict of flat things that stands alone -/
def pdDict (h : AH) : D → Option PyData
  | .ref n => match h[n]? with
    | some (.dic kvs) => match omap (fun p : Key × D => match pd 0 h p.2 with
        | some v => some (keyP p.1, v)
        | none => none) kvs with
      | some ps => some (.dict ps)
      | none => none
    | _ => none
  | _ => none
def reprD (d : D) (h : AH) : Option Str :=
  match pd 60 h d with
  | some p => if p.showable = true ∧ p.shown.length ≤ sizeLine then some p.shown else none
  | none => match pdDict h d with
    | some p => if p.showable = true ∧ p.shown.length ≤ sizeLine then some p.shown else none
    | none => none
def fRepr : OpN
  | [d], h => match reprD d h with
    | some x => .ok (.str x) h
    | none => .stuck
  | _, _ => .stuck
theorem pd_depth {f : D → Option PyData} {n : Nat} (ih : ∀ d p, f d = some p → p.depth ≤ n) : ∀ {ds : List D} {ps : List PyData}, omap f ds = some ps → PyData.depthAll ps ≤ n
  | [], _, e => by cases e; exact Nat.zero_le _
  | d :: ds, _, e => by
    unfold omap at e
    split at e <;> first | (cases e; done) | skip
    rename_i y ys q1 q2
    cases e
    simp only [PyData.depthAll]
    exact Nat.max_le.mpr ⟨ih _ _ q1, pd_depth ih q2⟩
theorem depth_of {h : AH} : ∀ (n : Nat) (d : D) (p : PyData), pd n h d = some p → p.depth ≤ n := by
  intro n
  induction n with
  | zero =>
    intro d p e
    cases d <;> simp only [pd] at e <;> cases e <;> exact Nat.zero_le _
  | succ n ih =>
    intro d p e
    cases d with
    | tup xs =>
      simp only [pd, Option.map_eq_some_iff] at e
      obtain ⟨ps, q, rfl⟩ := e
      simp only [PyData.depth]
      exact Nat.succ_le_succ (pd_depth ih q)
    | rol xs =>
      simp only [pd, Option.map_eq_some_iff] at e
      obtain ⟨ps, q, rfl⟩ := e
      simp only [PyData.depth]
      exact Nat.succ_le_succ (pd_depth ih q)
    | ref r =>
      simp only [pd] at e
      split at e <;> first | (cases e; done) | skip
      obtain ⟨ps, q, rfl⟩ := Option.map_eq_some_iff.mp e
      simp only [PyData.depth]
      exact Nat.succ_le_succ (pd_depth ih q)
    | _ => first | (cases e; done) | (cases e; exact Nat.zero_le _)
theorem pd_noDicts {f : D → Option PyData} (ih : ∀ d p, f d = some p → p.hasDict = false) : ∀ {ds : List D} {ps : List PyData}, omap f ds = some ps → PyData.hasDictAll ps = false
  | [], _, e => by cases e; simp only [PyData.hasDictAll]
  | d :: ds, _, e => by
    unfold omap at e
    split at e <;> first | (cases e; done) | skip
    rename_i y ys q1 q2
    cases e
    simp only [PyData.hasDictAll, ih _ _ q1, pd_noDicts ih q2, Bool.or_false]
theorem pd_noDict {h : AH} : ∀ (n : Nat) (d : D) (p : PyData), pd n h d = some p → p.hasDict = false := by
  intro n
  induction n with
  | zero =>
    intro d p e
    cases d <;> simp only [pd] at e <;> cases e <;> simp only [PyData.hasDict]
  | succ n ih =>
    intro d p e
    cases d with
    | tup xs =>
      simp only [pd, Option.map_eq_some_iff] at e
      obtain ⟨ps, q, rfl⟩ := e
      simp only [PyData.hasDict]
      exact pd_noDicts ih q
    | rol xs =>
      simp only [pd, Option.map_eq_some_iff] at e
      obtain ⟨ps, q, rfl⟩ := e
      simp only [PyData.hasDict]
      exact pd_noDicts ih q
    | ref r =>
      simp only [pd] at e
      split at e <;> first | (cases e; done) | skip
      obtain ⟨ps, q, rfl⟩ := Option.map_eq_some_iff.mp e
      simp only [PyData.hasDict]
      exact pd_noDicts ih q
    | _ => first | (cases e; done) | (cases e; simp only [PyData.hasDict])
theorem repr_scalar {M : Program} {w : World} {A : Around} {E : Value → Shared → Prop} {s : Shared} {K : PySem.W.Frag} {ρ : List Addr} {H : Hp} {v : V} {u : Value} {d : D} {p : PyData} {h : AH} {Q : Value → Shared → Prop} (rv : RV K ρ H v d) (ru : RelV v u) (e : pd 0 h d = some p) (hs : p.showable = true) (hz : p.shown.length ≤ sizeLine)
    (q : ∀ t k, Q (.str p.shown t) { s with toks := k }) : wpAny (model M w) A (call (.builtin "repr") [u]) Q E s := by
  cases rv <;> simp only [pd] at e <;> cases e
  · cases ru
    simp only [PyData.shown] at q
    exact PySem.P.repr_of_none (q _ _)
  · cases ru
    simp only [PyData.shown] at q
    exact PySem.P.repr_of_bool (q _ _)
  · obtain ⟨t, rfl⟩ := ru
    simp only [PyData.shown] at q
    exact PySem.P.repr_of_int (by simpa [PyData.showable] using hs) (q _ _)
  · obtain ⟨t, rfl⟩ := ru
    simp only [PyData.shown] at q hz
    exact PySem.P.repr_of_str (q _ _) hz
/-- the reading of repr: any data by what it is -/
def rReprM (K : PySem.W.Frag) : List V → Hp → VK → Prop := fun xs H Q => ∃ (cls ts ρ : List Addr) (h : AH) (v : V) (d : D) (x : Str), xs = [v] ∧ RH K cls ts ρ H h ∧ RV K ρ H v d ∧ reprD d h = some x ∧ Q (.str x) H
theorem reads_scalar {K : PySem.W.Frag} {ρ : List Addr} {H : Hp} {hh : Heap} {h : AH} {v : V} {u : Value} {d : D} {p : PyData} (rv : RV K ρ H v d) (ru : RelV v u) (e : pd 0 h d = some p) : Reads hh u p [] := by
  cases rv <;> simp only [pd] at e <;> cases e
  · cases ru; exact .none
  · cases ru; exact .bool _
  · obtain ⟨t, rfl⟩ := ru; exact .int _ _
  · obtain ⟨t, rfl⟩ := ru; exact .str _ _
theorem keys_read {P : Program} {w : World} {H : Hp} {K : PySem.W.Frag} {ρ : List Addr} {hh : Heap} {h : AH} : ∀ {es : List DictEntry} {vs : List (Key × Value)} {xs : List (Key × V)} {kvs : List (Key × D)} {ps : List (PyData × PyData)},
    PySem.Pairs (mixKind P w) es vs → KV xs vs → RKs K ρ H xs kvs → omap (fun p : Key × D => match pd 0 h p.2 with
        | some v => some (keyP p.1, v)
        | none => none) kvs = some ps →
    ReadsAll hh (es.map (·.key)) (ps.map (·.1)) [] ∧ ReadsAll hh (es.map (·.val)) (ps.map (·.2)) []
  | _, _, _, _, _, .nil, a, b, c => by
    cases a
    cases b
    cases c
    exact ⟨.nil, .nil⟩
  | _, _, _, _, _, .cons (e := en) (kv := kv) k1 k2 rest, a, b, c => by
    cases a with
    | cons a1 a2 =>
      cases b with
      | cons b1 b2 =>
        unfold omap at c
        split at c <;> first | (cases c; done) | skip
        rename_i y ys q1 q2
        cases c
        split at q1 <;> cases q1
        rename_i v e
        obtain ⟨i1, i2⟩ := keys_read (hh := hh) rest a2 b2 q2
        refine ⟨.cons (as := []) ?_ i1, .cons (as := []) ?_ i2⟩
        · show Reads hh en.key (keyP _) []
          rw [← b1.1, a1.1]
          rcases keyIs_shape k1 with ⟨i, t, ek, ev⟩ | ⟨x, t, ek, ev⟩
          · rw [ek, ev]; exact .int _ _
          · rw [ek, ev]; exact .str _ _
        · show Reads hh en.val v []
          rw [k2]
          exact reads_scalar b1.2 a1.2 e
section
variable {X : Cx}
theorem call_reprM (hg : X.A.guards = some []) (hu : X.A.units + 64 < cLine) : CallR X (.builtin "repr") (rReprM X.K) := by
  rintro pins s σ H xs us Q I r ⟨cls, ts, ρ, hh, v, d, x, rfl, rH, rv, e, q⟩
  obtain ⟨w, rfl, ru⟩ := vals1 r
  unfold reprD at e
  split at e
  · rename_i p ep
    split at e <;> cases e
    rename_i c
    have dp := dp_of rH _ _ _ _ rv ep
    obtain ⟨as, rd⟩ := Dp.reads I _ _ _ dp ru
    have end_ : ∀ h' u tk, (∀ b o, s.heap.get? b = some o → h'.get? b = some o) → EP X pins σ Q (.str p.shown u) { s with heap := h', toks := tk } := fun h' u tk hk => ⟨.str p.shown, H, I.kept hk, ⟨_, rfl⟩, q⟩
    cases ru' : v with
    | ref a =>
      subst ru'
      obtain rfl : w = Value.ref a := ru
      exact repr_of_reads' rd c.1 (PyData.noDict_hsm (pd_noDict _ _ _ ep)) hg (by have := depth_of _ _ _ ep; omega) (fun _ _ e => e) (fun h' u tk hk => end_ h' u tk hk) c.2
    | _ =>
      subst ru'
      have e0 : pd 0 hh d = some p := by cases rv <;> simpa [pd] using ep
      exact repr_scalar rv ru e0 c.1 c.2 fun t k => end_ s.heap t k fun _ _ e => e
  · split at e <;> first | (cases e; done) | skip
    rename_i p ep
    split at e <;> cases e
    rename_i c
    cases d <;> simp only [pdDict] at ep <;> first | (cases ep; done) | skip
    rename_i n
    split at ep <;> first | (cases ep; done) | skip
    rename_i kvs e1
    split at ep <;> cases ep
    rename_i ps e2
    cases rv with
    | ref q1 =>
      rename_i a
      obtain ⟨xs, k1, r1⟩ := rH.dic q1 e1
      obtain ⟨_, nS, vs, kv, o, es, ep', ho, ex, hd, hk, hp, _⟩ := I.hok _ _ k1
      obtain ⟨i1, i2⟩ := keys_read (hh := s.heap) hp kv r1 e2
      have rd : Reads s.heap (.ref a) (.dict ps) [a] := .dict (as := []) (bs := []) ho ex.1 hd i1 i2
      obtain rfl : w = Value.ref a := ru
      refine repr_of_reads' rd c.1 (fun _ hm => ?_) hg ?_ (fun _ _ e => e) (fun h' u tk hk => ⟨.str _, H, I.kept hk, ⟨_, rfl⟩, q⟩) c.2
      · rw [List.mem_singleton.mp hm] at nS
        simp at nS
      · have dep : ∀ {kvs : List (Key × D)} {ps : List (PyData × PyData)}, omap (fun p : Key × D => match pd 0 hh p.2 with
            | some v => some (keyP p.1, v)
            | none => none) kvs = some ps → PyData.depthKv ps = 0 := by
          intro kvs
          induction kvs with
          | nil => intro ps e; cases e; simp only [PyData.depthKv]
          | cons kv kvs ih =>
            intro ps e
            unfold omap at e
            split at e <;> first | (cases e; done) | skip
            rename_i y ys q1 q2
            cases e
            split at q1 <;> cases q1
            rename_i v ev
            have z := depth_of _ _ _ ev
            obtain ⟨k, d⟩ := kv
            cases k <;> simp only [PyData.depthKv, ih q2, keyP, PyData.depth] <;> omega
        simp only [PyData.depth, dep e2]
        omega
end
theorem repr_ok {K : PySem.W.Frag} {cls ts : List Addr} : CallS K cls ts (rReprM K) fRepr := by
  intro W ρ H h xs ds Q r rs p
  unfold fRepr at p
  split at p <;> first | exact p.elim | skip
  obtain ⟨v, rfl, rv⟩ := rs.one
  split at p <;> first | exact p.elim | skip
  rename_i d _ x e
  exact ⟨cls, ts, ρ, h, v, d, x, rfl, r, rv, e, post_val r (.str _) p⟩
end Mi

namespace Mi
open L2 PySem PySem.Spec PyProof.Rows

/-! ### isinstance of a built-in type -/
def tyD : D → AH → Option String
  | .non, _ => some "NoneType"
  | .bl _, _ => some "bool"
  | .int _, _ => some "int"
  | .str _, _ => some "str"
  | .tup _, _ => some "tuple"
  | .rol _, _ => some "list"
  | .ref n, h => match h[n]? with
    | some (.lst _xs) => some "list"
    | some (.dic _) => some "dict"
    | _ => none
  | _, _ => none
def fIsi : OpN
  | [d, .ty n], h => match tyD d h with
    | some t => match kitB t n with
      | some b => .ok (.bl b) h
      | none => .stuck
    | none => .stuck
  | _, _ => .stuck
section
variable {K : PySem.W.Frag} {cls ts ρ : List Addr} {H : Hp} {h : AH}
theorem tyX_of {v : V} {d : D} {t : String} (r : RH K cls ts ρ H h) (rv : RV K ρ H v d) (e : tyD d h = some t) : TyX K H v (.type t) := by
  cases rv with
  | non => cases e; exact .base .non
  | bl b => cases e; exact .base (.bl b)
  | int i => cases e; exact .base (.int i)
  | str x => cases e; exact .base (.str x)
  | tup h1 r1 =>
    cases e
    rcases h1 with (h1 | ⟨o, h1⟩) | ⟨o, its, n, k, c, _⟩
    · exact .base (.tup h1)
    · exact .fTuple h1
    · exact .kTuple k c
  | rol h1 r1 =>
    cases e
    rcases h1 with ⟨o, h1⟩ | ⟨o, its, n, k, c, _⟩
    · exact .base (.frz h1)
    · exact .kList k c
  | ref q1 =>
    simp only [tyD] at e
    split at e <;> first | (cases e; done) | skip
    · rename_i xs e1
      cases e
      obtain ⟨us, k1, _⟩ := r.lst q1 e1
      exact .base (.lst k1)
    · rename_i xs e1
      cases e
      obtain ⟨us, k1, _⟩ := r.dic q1 e1
      exact .base (.dK k1)
  | _ => cases e
theorem isi_ok : CallS K cls ts (rIsi K) fIsi := by
  intro W ρ H h xs ds Q r rs p
  unfold fIsi at p
  split at p <;> first | exact p.elim | skip
  obtain ⟨v, w, rfl, rv, rw'⟩ := rs.two
  cases rw'
  split at p <;> first | exact p.elim | skip
  rename_i t e1
  split at p <;> first | exact p.elim | skip
  rename_i b e2
  exact ⟨_, _, _, _, _, rfl, .ty _, tyX_of r rv e1, kit_ty e2, post_val r (.bl _) p⟩

/-! ### list(x), tuple(x) -/
def fList : OpN
  | [d], h => match seqD d h with
    | some ds => .ok (.ref h.length) (h ++ [.lst ds])
    | none => .stuck
  | _, _ => .stuck
theorem list_ok : CallS K cls ts (fun xs H Q => ∃ p ys, xs = [.ref p] ∧ (SqL K H p ys ∨ SqT K H p ys) ∧ ∀ l, H l = none → Q (.ref l) (upd H l (.lst ys))) fList := by
  intro W ρ H h xs ds Q r rs p
  unfold fList at p
  split at p <;> first | exact p.elim | skip
  obtain ⟨v, rfl, rv⟩ := rs.one
  split at p <;> first | exact p.elim | skip
  rename_i ds e
  obtain ⟨a, us, rfl, hs, ru⟩ := seq_of r rv e
  exact ⟨_, _, rfl, hs, post_newL r ru p⟩
def fTuple : OpN
  | [.tup xs], h => .ok (.tup xs) h
  | [.rol xs], h => .ok (.tup xs) h
  | [.ref n], h => match h[n]? with
    | some (.lst xs) => .ok (.tup xs) h
    | _ => .stuck
  | _, _ => .stuck
theorem tuple_ok : CallS K cls ts (fun xs H Q => ∃ p ys, xs = [.ref p] ∧ ((SqL K H p ys ∧ ∀ l, H l = none → Q (.ref l) (upd H l (.tup ys))) ∨ (SqT K H p ys ∧ Q (.ref p) H))) fTuple := by
  intro W ρ H h xs ds Q r rs p
  unfold fTuple at p
  split at p <;> first | exact p.elim | skip
  · obtain ⟨v, rfl, rv⟩ := rs.one
    cases rv with
    | tup h1 r1 => exact ⟨_, _, rfl, .inr ⟨h1, post_val r (.tup h1 r1) p⟩⟩
  · obtain ⟨v, rfl, rv⟩ := rs.one
    cases rv with
    | rol h1 r1 => exact ⟨_, _, rfl, .inl ⟨h1.sq, post_newT r r1 p⟩⟩
  · obtain ⟨v, rfl, rv⟩ := rs.one
    cases rv with
    | ref q1 =>
      split at p <;> first | exact p.elim | skip
      rename_i xs e1
      obtain ⟨us, k1, r1⟩ := r.lst q1 e1
      exact ⟨_, _, rfl, .inl ⟨SqL.of k1, post_newT r r1 p⟩⟩
end

/-! ### methods of built-in types -/
abbrev OpM := D → List D → AH → Res D
def MtS (K : PySem.W.Frag) (cls ts : List Addr) (T : String) (r : V → List V → Hp → VK → Prop) (f : OpM) : Prop :=
  ∀ (W : Value → Option Addr → Hp → Prop) (ρ : List Addr) (H : Hp) (h : AH) (x : V) (dx : D) (xs : List V) (ds : List D) (Q : VK), RH K cls ts ρ H h → RV K ρ H x dx → RVs K ρ H xs ds → Post K cls ts (relD K) W ρ H (f dx ds h) Q → r x xs H Q
/-- the thing whose method is called is of the type T when it is met -/
def isTy (T : String) (d : D) (h : AH) : Bool := tyD d h == some T
def cMeth (T : String) (f : OpM) (F : EF) (A : AF) : EF := fun ε h => (F ε h).bind fun d h1 => if isTy T d h1 = true then (A ε h1).bind fun ds h2 => f d ds h2 else .stuck
theorem tyV_of {K : PySem.W.Frag} {cls ts ρ : List Addr} {H : Hp} {h : AH} {v : V} {d : D} {T : String} (r : RH K cls ts ρ H h) (rv : RV K ρ H v d) (hT : T = "list" ∨ T = "str" ∨ T = "dict") (e : isTy T d h = true) : tyV K T v H := by
  have e := beq_iff_eq.mp e
  cases rv with
  | str x => cases e; rfl
  | rol h1 r1 => cases e; exact .inl ⟨rfl, _, h1.sq⟩
  | ref q1 =>
    simp only [tyD] at e
    split at e <;> first | (cases e; done) | skip
    · rename_i xs e1
      cases e
      obtain ⟨us, k1, _⟩ := r.lst q1 e1
      exact .inl ⟨rfl, _, SqL.of k1⟩
    · rename_i xs e1
      cases e
      obtain ⟨us, k1, _⟩ := r.dic q1 e1
      exact .inr (.inr (.inl ⟨rfl, .inl ⟨_, k1⟩⟩))
  | _ => first | (cases e; done) | (cases e; rcases hT with h | h | h <;> exact absurd h (by decide))
section
variable {X : Cx} {W : WX} {cls ts : List Addr} {o e : Expr} {F : EF} {A : AF} {es : List Expr} {name : Str} {apos cpos : Pos} {T id : String} {r : V → List V → Hp → VK → Prop} {f : OpM}
theorem e_meth0 (hT : T = "list" ∨ T = "str" ∨ T = "dict") (pa : PlainAttrs T) (slot : Slot T name id) (hty : typeOf (.builtin id) = pure (.type "method_descriptor")) (hm : MtR X id r) (os : MtS X.K cls ts T r f) (ho : E' X cls ts W o F)
    (hbase : attributeBase o name X.env (eval o X.env) = eval o X.env := by rfl) (hline : (apos.endLine == cpos.line) = true := by rfl) : E' X cls ts W (.Call (.Attribute o name apos) [] [] cpos) (cMeth T f F aNil) := by
  refine ⟨fun pins s σ H Q I ⟨ρ, ε, h, hH, hE, p⟩ => (pe_bm0 pa slot hty hm ho hbase hline).run pins s σ H Q I (tG_bind hH hE p fun ρ1 H1 x h1 dx _ e1 hH1 rx hE1 p1 => ?_)⟩
  split at p1 <;> first | exact p1.elim | skip
  rename_i c
  exact ⟨tyV_of hH1 rx hT c, os _ _ _ _ _ _ _ _ _ hH1 rx .nil p1⟩
theorem e_meth (hT : T = "list" ∨ T = "str" ∨ T = "dict") (pa : PlainAttrs T) (slot : Slot T name id) (hty : typeOf (.builtin id) = pure (.type "method_descriptor")) (hm : MtR X id r) (os : MtS X.K cls ts T r f) (ho : E' X cls ts W o F) (ha : A' X cls ts W (e :: es) A)
    (hbase : attributeBase o name X.env (eval o X.env) = eval o X.env := by rfl) (hfew : ((backTo cpos (starEach (e :: es) X.env)).all (fun x => !x.1) && (backToKw cpos (keywordEach [] X.env)).all (fun x => x.1.isSome) && decide ((e :: es).length + ([] : List Keyword).length + (if ([] : List Keyword).isEmpty then 0 else 1) < 30)) = true := by rfl)
    (hs : starEach (e :: es) X.env = (false, eval e X.env) :: starEach es X.env := by rfl) (hplain : (backTo cpos (starEach es X.env)).any (·.1) = false := by rfl) (hline : (apos.endLine == cpos.line) = true := by rfl) :
    E' X cls ts W (.Call (.Attribute o name apos) (e :: es) [] cpos) (cMeth T f F A) := by
  refine ⟨fun pins s σ H Q I ⟨ρ, ε, h, hH, hE, p⟩ => (pe_bm pa slot hty hm ho ha hbase hfew hline hs hplain).run pins s σ H Q I (tG_bind hH hE p fun ρ1 H1 x h1 dx _ e1 hH1 rx hE1 p1 => ?_)⟩
  split at p1 <;> first | exact p1.elim | skip
  rename_i c
  exact ⟨tyV_of hH1 rx hT c, tG_bind hH1 hE1 p1 fun ρ2 H2 y h2 dy _ e2 hH2 ry hE2 p2 => os _ _ _ _ _ _ _ _ _ hH2 (rx.mono e2) ry p2⟩
end
section
variable {K : PySem.W.Frag} {cls ts : List Addr}
def mAppend : OpM
  | .ref n, [d], h => match h[n]? with
    | some (.lst xs) => if xs.length < sizeLine then .ok .non (h.set n (.lst (xs ++ [d]))) else .stuck
    | _ => .stuck
  | _, _, _ => .stuck
theorem append_ok : MtS K cls ts "list" rAppend mAppend := by
  intro W ρ H h x dx xs ds Q r rx rs p
  unfold mAppend at p
  split at p <;> first | exact p.elim | skip
  split at p <;> first | exact p.elim | skip
  rename_i e1
  split at p <;> first | exact p.elim | skip
  rename_i c
  obtain ⟨v, rfl, rv⟩ := rs.one
  cases rx with
  | ref q1 =>
    obtain ⟨us, k1, r1⟩ := r.lst q1 e1
    exact ⟨_, _, _, rfl, rfl, k1, by rw [r1.length]; exact c, post_put (us := us) r q1 (r1.append (.cons rv .nil)) .non p⟩
def mPop : OpM
  | .ref n, [], h => match h[n]? with
    | some (.lst xs) => match xs[xs.length - 1]? with
      | some d => .ok d (h.set n (.lst xs.dropLast))
      | none => .stuck
    | _ => .stuck
  | _, _, _ => .stuck
theorem pop_ok : MtS K cls ts "list" rPop mPop := by
  intro W ρ H h x dx xs ds Q r rx rs p
  unfold mPop at p
  split at p <;> first | exact p.elim | skip
  split at p <;> first | exact p.elim | skip
  rename_i e1
  split at p <;> first | exact p.elim | skip
  rename_i d e2
  cases rs
  cases rx with
  | ref q1 =>
    obtain ⟨us, k1, r1⟩ := r.lst q1 e1
    rw [← r1.length] at e2
    obtain ⟨v, hv, rv⟩ := r1.get e2
    exact ⟨_, _, _, rfl, rfl, k1, hv, post_put (us := us) r q1 r1.dropLast rv p⟩
def asStr : D → Option Str
  | .str x => some x
  | _ => none
theorem strs_of {ρ : List Addr} {H : Hp} : ∀ {xs : List V} {ds : List D} {ys : List Str}, RVs K ρ H xs ds → omap asStr ds = some ys → xs = ys.map V.str
  | _, _, _, .nil, e => by cases e; rfl
  | _, _, _, .cons r rs, e => by
    unfold omap at e
    split at e <;> first | (cases e; done) | skip
    rename_i y ys q1 q2
    cases e
    cases r <;> cases q1
    rw [strs_of rs q2] <;> rfl
def mJoin : OpM
  | .str a, [d], h => match seqD d h with
    | some ds => match omap asStr ds with
      | some ys => if (ys.map (·.length)).sum + ys.length * a.length ≤ 16777216 then .ok (.str (Txt.join a ys)) h else .stuck
      | none => .stuck
    | none => .stuck
  | _, _, _ => .stuck
theorem join_ok : MtS K cls ts "str" (fun x xs H Q => ∃ a p, ∃ ys : List Str, x = .str a ∧ xs = [.ref p] ∧ (SqL K H p (ys.map V.str) ∨ SqT K H p (ys.map V.str)) ∧ (ys.map (·.length)).sum + ys.length * a.length ≤ 16777216 ∧ Q (.str (Txt.join a ys)) H) mJoin := by
  intro W ρ H h x dx xs ds Q r rx rs p
  unfold mJoin at p
  split at p <;> first | exact p.elim | skip
  split at p <;> first | exact p.elim | skip
  rename_i ds' e1
  split at p <;> first | exact p.elim | skip
  rename_i ys e2
  split at p <;> first | exact p.elim | skip
  rename_i c
  obtain ⟨v, rfl, rv⟩ := rs.one
  cases rx
  obtain ⟨a, us, rfl, hs, ru⟩ := seq_of r rv e1
  rw [strs_of ru e2] at hs
  exact ⟨_, _, ys, rfl, rfl, hs, c, post_val r (.str _) p⟩
def mFind : OpM
  | .str a, [.str b], h => .ok (.int (Txt.find a b)) h
  | _, _, _ => .stuck
theorem find_ok : MtS K cls ts "str" (fun x xs H Q => ∃ a b, x = .str a ∧ xs = [.str b] ∧ Q (.int (Txt.find a b)) H) mFind := by
  intro W ρ H h x dx xs ds Q r rx rs p
  unfold mFind at p
  split at p <;> first | exact p.elim | skip
  obtain ⟨v, rfl, rv⟩ := rs.one
  cases rx
  cases rv
  exact ⟨_, _, rfl, rfl, post_val r (.int _) p⟩
end
end Mi

namespace Mi
open L2 PySem PySem.Spec PyProof.Rows

/-! ### what is walked -/
inductive AIt where
  | fix (ds : List D)
  | live (n len : Nat)
def AIt.len : AIt → Nat
  | .fix ds => ds.length
  | .live _ len => len
def AIt.item (i : Nat) (h : AH) : AIt → Option D
  | .fix ds => ds[i]?
  | .live n len => match h[n]? with
    | some (.lst xs) => if xs.length = len then xs[i]? else none
    | _ => none
def AIt.fin (h : AH) : AIt → Bool
  | .fix _ => true
  | .live n len => match h[n]? with
    | some (.lst xs) => decide (xs.length = len)
    | _ => false
structure RIt (K : PySem.W.Frag) (cls ts ρ : List Addr) (H : Hp) (J : It) (it : AIt) : Prop where
  go : ∀ ρ' H' h' i d, Ext ts ρ ρ' H H' → RH K cls ts ρ' H' h' → i < it.len → it.item i h' = some d → J.go i H' ∧ ∀ x H'', J.yld i H' x H'' → Ext ts ρ' ρ' H' H'' ∧ RH K cls ts ρ' H'' h' ∧ RV K ρ' H'' x d
  stop : ∀ ρ' H' h', Ext ts ρ ρ' H H' → RH K cls ts ρ' H' h' → it.fin h' = true → J.stop it.len H'
theorem RIt.ext {K : PySem.W.Frag} {cls ts ρ ρ1 : List Addr} {H H1 : Hp} {J : It} {it : AIt} (e : Ext ts ρ ρ1 H H1) (r : RIt K cls ts ρ H J it) : RIt K cls ts ρ1 H1 J it :=
  ⟨fun ρ' H' h' i d e' => r.go ρ' H' h' i d (e.trans e'), fun ρ' H' h' e' => r.stop ρ' H' h' (e.trans e')⟩
abbrev IF := AEnv → AH → Res AIt
abbrev relI (K : PySem.W.Frag) (cls ts : List Addr) : List Addr → Hp → It → AIt → Prop := fun ρ H J it => RIt K cls ts ρ H J it
abbrev tI (K : PySem.W.Frag) (cls ts : List Addr) (W : WX) (F : IF) : TI := tG K cls ts (relI K cls ts) W F
abbrev I' (X : Cx) (cls ts : List Addr) (W : WX) (tg e : Expr) (F : IF) : Prop := PI X tg e (tI X.K cls ts W F)
def itOf (d : D) (h : AH) : Res AIt :=
  match d with
  | .tup xs => .ok (.fix xs) h
  | .rol xs => .ok (.fix xs) h
  | .str z => .ok (.fix (z.cps.toList.map fun c => .str ⟨#[c]⟩)) h
  | .ref n => match h[n]? with
    | some (.lst xs) => .ok (.live n xs.length) h
    | _ => .stuck
  | _ => .stuck
def iAny (F : EF) : IF := fun ε h => (F ε h).bind itOf
section
variable {K : PySem.W.Frag} {cls ts ρ : List Addr} {H : Hp} {h : AH}
theorem rit_tup {a : Addr} {xs : List V} {ds : List D} (h1 : SqT K H a xs) (r1 : RVs K ρ H xs ds) : RIt K cls ts ρ H (Itt K a) (.fix ds) := by
  refine ⟨fun ρ' H' h' i d e r hi q => ?_, fun ρ' H' h' e r _ => ⟨xs, e.sqT h1, by rw [r1.length]; exact Nat.le_refl _⟩⟩
  obtain ⟨v, hv, rv⟩ := (r1.mono e).get q
  refine ⟨⟨xs, v, e.sqT h1, hv⟩, fun x H'' y => ?_⟩
  obtain ⟨rfl, y⟩ := y
  have z := y xs (e.sqT h1)
  rw [hv] at z
  cases z
  exact ⟨.refl, r, rv⟩
theorem rit_rol {a : Addr} {xs : List V} {ds : List D} (h1 : SqR K H a xs) (r1 : RVs K ρ H xs ds) : RIt K cls ts ρ H (Itl K a) (.fix ds) := by
  refine ⟨fun ρ' H' h' i d e r hi q => ?_, fun ρ' H' h' e r _ => ⟨xs, (e.sqR h1).sq, by rw [r1.length]; exact Nat.le_refl _⟩⟩
  obtain ⟨v, hv, rv⟩ := (r1.mono e).get q
  refine ⟨⟨xs, v, (e.sqR h1).sq, hv⟩, fun x H'' y => ?_⟩
  obtain ⟨rfl, y⟩ := y
  have z := y xs (e.sqR h1).sq
  rw [hv] at z
  cases z
  exact ⟨.refl, r, rv⟩
theorem rit_live {a : Addr} {n len : Nat} (q1 : ρ[n]? = some a) : RIt K cls ts ρ H (Itl K a) (.live n len) := by
  refine ⟨fun ρ' H' h' i d e r hi q => ?_, fun ρ' H' h' e r q => ?_⟩
  · simp only [AIt.item] at q
    split at q <;> first | (cases q; done) | skip
    rename_i xs e1
    split at q <;> first | (cases q; done) | skip
    obtain ⟨us, k1, r1⟩ := r.lst (e.get q1) e1
    obtain ⟨v, hv, rv⟩ := r1.get q
    refine ⟨⟨us, v, SqL.of k1, hv⟩, fun x H'' y => ?_⟩
    obtain ⟨rfl, y⟩ := y
    have z := y us (SqL.of k1)
    rw [hv] at z
    cases z
    exact ⟨.refl, r, rv⟩
  · simp only [AIt.fin] at q
    split at q <;> first | (cases q; done) | skip
    rename_i xs e1
    obtain ⟨us, k1, r1⟩ := r.lst (e.get q1) e1
    refine ⟨us, SqL.of k1, ?_⟩
    rw [r1.length, of_decide_eq_true q]
    exact Nat.le_refl _
theorem rit_str {z : Str} : RIt K cls ts ρ H (Its z) (.fix (z.cps.toList.map fun c => .str ⟨#[c]⟩)) := by
  have hz : (z.cps.toList.map fun c => D.str ⟨#[c]⟩).length = z.cps.size := by simp
  refine ⟨fun ρ' H' h' i d e r hi q => ?_, fun ρ' H' h' e r _ => Nat.le_of_eq hz.symm⟩
  have hi' : i < z.cps.size := by
    have hi2 : i < (z.cps.toList.map fun c => D.str ⟨#[c]⟩).length := hi
    omega
  refine ⟨hi', fun x H'' y => ?_⟩
  obtain ⟨rfl, c, hc, rfl⟩ := y
  have q : (z.cps.toList.map fun c => D.str ⟨#[c]⟩)[i]? = some d := q
  rw [List.getElem?_map, Array.getElem?_toList, hc] at q
  cases q
  exact ⟨.refl, r, .str _⟩
theorem rit_range {lo : Int} {n : Nat} : RIt K cls ts ρ H (Itr lo n) (.fix ((List.range n).map fun (i : Nat) => .int (lo + i))) := by
  have hz : ((List.range n).map fun (i : Nat) => D.int (lo + i)).length = n := by simp
  refine ⟨fun ρ' H' h' i d e r hi q => ?_, fun ρ' H' h' e r _ => Nat.le_of_eq hz.symm⟩
  have hi' : i < n := by
    have hi2 : i < ((List.range n).map fun (i : Nat) => D.int (lo + i)).length := hi
    omega
  refine ⟨hi', fun x H'' y => ?_⟩
  obtain ⟨rfl, rfl⟩ := y
  have q : ((List.range n).map fun (i : Nat) => D.int (lo + i))[i]? = some d := q
  rw [List.getElem?_map, List.getElem?_range hi'] at q
  cases q
  exact ⟨.refl, r, .int _⟩
end
def iRange1 (F : EF) : IF := fun ε h => (F ε h).bind fun d h1 => match d with
  | .int j => if decide (-(2 ^ 62) ≤ j) && decide (j < 2 ^ 62) then .ok (.fix ((List.range j.toNat).map fun (i : Nat) => .int (0 + i))) h1 else .stuck
  | _ => .stuck
def iRange2 (F G : EF) : IF := fun ε h => (F ε h).bind fun a h1 => (G ε h1).bind fun b h2 => match a, b with
  | .int i, .int j => if decide (-(2 ^ 62) ≤ i) && decide (i < 2 ^ 62) && decide (-(2 ^ 62) ≤ j) && decide (j < 2 ^ 62) then .ok (.fix ((List.range (j - i).toNat).map fun (k : Nat) => .int (i + k))) h2 else .stuck
  | _, _ => .stuck
section
variable {X : Cx} {W : WX} {cls ts : List Addr} {tg e e2 : Expr} {F F2 : EF} {p pos : Pos}
theorem i_any (he : E' X cls ts W e F) : I' X cls ts W tg e (iAny F) := by
  refine ⟨fun pins s σ H R I ⟨ρ, ε, h, hH, hE, q⟩ => ?_⟩
  have go : tE X.K cls ts W F σ H fun x H1 => ∃ ρ1 h1 d, RH X.K cls ts ρ1 H1 h1 ∧ RV X.K ρ1 H1 x d ∧ Post X.K cls ts (relI X.K cls ts) (fun c dd H' => W c dd σ H') ρ1 H1 (itOf d h1) R :=
    tG_bind hH hE q fun ρ1 H1 x h1 dx _ e1 hH1 rx hE1 p1 => ⟨ρ1, h1, dx, hH1, rx, p1⟩
  refine thn (he.run pins s σ H _ I go) fun v s1 ⟨x, H1, I1, rv, ρ1, h1, d, hH1, rx, q⟩ => ?_
  have el : ∀ {a : Addr} {xs : List V}, SqL X.K H1 a xs → R (Itl X.K a) H1 → wpAny (model X.prog X.w) X.A (pyIter (.ref a)) (PIE X pins σ tg R) X.xe s1 := fun {a xs} k q => by
    obtain ⟨its, rv, pl, hz⟩ := I1.list k
    exact wpAny_pyIter_list pl.isList (pi_one (tk := s1.toks) I1 _ (turn_list a _) ⟨_, Heap.get?_push_size _ rfl, rfl, rfl⟩ q)
  cases rx with
  | tup k1 r1 =>
    rename_i a xs ds
    cases rv
    obtain ⟨its, rv, pl, hz⟩ := I1.tuple k1
    exact wpAny_pyIter_tuple (show s1.heap.IsTuple a its.toArray from pl) (pi_one (tk := s1.toks) I1 _ (turn_tuple a _) ⟨_, Heap.get?_push_size _ rfl, rfl, rfl⟩ (q ρ1 H1 (Itt X.K a) .refl hH1 (rit_tup k1 r1)))
  | rol k1 r1 =>
    cases rv
    exact el k1.sq (q ρ1 H1 _ .refl hH1 (rit_rol k1 r1))
  | str z =>
    obtain ⟨t, rfl⟩ := rv
    have q' := q ρ1 H1 _ .refl hH1 rit_str
    cases ha : z.cps.all (· < 128)
    · exact wpAny_pyIter_wide ha (pi_one (tk := s1.toks) I1 _ (turn_str _ z t "str_iterator" (.inr rfl)) ⟨_, Heap.get?_push_size _ rfl, rfl, rfl⟩ q')
    · exact wpAny_pyIter_ascii ha (pi_one (tk := s1.toks) I1 _ (turn_str _ z t "str_ascii_iterator" (.inl rfl)) ⟨_, Heap.get?_push_size _ rfl, rfl, rfl⟩ q')
  | ref q1 =>
    simp only [itOf] at q
    split at q <;> first | exact q.elim | skip
    rename_i xs e1
    obtain ⟨us, k1, r1⟩ := hH1.lst q1 e1
    cases rv
    exact el (SqL.of k1) (q ρ1 H1 _ .refl hH1 (rit_live q1))
  | _ => exact q.elim
theorem i_range1 (hg : Gl X "range") (hm : X.mg "range" = none) (ha : E' X cls ts W e F) (hs : starEach [e] X.env = [(false, eval e X.env)] := by rfl) : I' X cls ts W tg (.Call (.Name "range" p) [e] [] pos) (iRange1 F) := by
  have hs' : starEach [e] X.env = (false, eval e X.env) :: starEach [] X.env := hs
  refine ⟨fun pins s σ H R I ⟨ρ, ε, h, hH, hE, q⟩ => (pi_range1 hg hm (pa_cons ha pa_nil hs') hs).run pins s σ H R I (tG_bind hH hE q fun ρ1 H1 x h1 dx _ e1 hH1 rx hE1 p1 => ?_)⟩
  cases rx <;> first | exact p1.elim | skip
  rename_i j _
  simp only at p1
  split at p1 <;> first | exact p1.elim | skip
  rename_i c
  simp only [Bool.and_eq_true, decide_eq_true_eq] at c
  exact ⟨j, rfl, c.1, c.2, p1 ρ1 H1 _ .refl hH1 rit_range⟩
theorem i_range2 (hg : Gl X "range") (hm : X.mg "range" = none) (ha : E' X cls ts W e F) (hb : E' X cls ts W e2 F2) (hs : starEach [e, e2] X.env = [(false, eval e X.env), (false, eval e2 X.env)] := by rfl) (hs2 : starEach [e2] X.env = [(false, eval e2 X.env)] := by rfl) :
    I' X cls ts W tg (.Call (.Name "range" p) [e, e2] [] pos) (iRange2 F F2) := by
  have hs2' : starEach [e2] X.env = (false, eval e2 X.env) :: starEach [] X.env := hs2
  have hs' : starEach [e, e2] X.env = (false, eval e X.env) :: starEach [e2] X.env := by rw [hs, hs2]
  refine ⟨fun pins s σ H R I ⟨ρ, ε, h, hH, hE, q⟩ => (pi_range2 hg hm (pa_cons ha (pa_cons hb pa_nil hs2') hs') hs hs2).run pins s σ H R I (tG_bind hH hE q fun ρ1 H1 x h1 dx _ e1 hH1 rx hE1 p1 => tG_bind hH1 hE1 p1 fun ρ2 H2 y h2 dy _ e2 hH2 ry hE2 p2 => ?_)⟩
  cases rx <;> first | exact p2.elim | skip
  cases ry <;> first | exact p2.elim | skip
  rename_i i _ j _
  simp only at p2
  split at p2 <;> first | exact p2.elim | skip
  rename_i c
  simp only [Bool.and_eq_true, decide_eq_true_eq] at c
  exact ⟨i, j, rfl, ⟨c.1.1.1, c.1.1.2, c.1.2, c.2⟩, p2 ρ2 H2 _ .refl hH2 rit_range⟩
end

/-! ### targets -/
abbrev TF' := D → AEnv → AH → Option AEnv
abbrev TFs := List D → AEnv → AH → Option AEnv
def gN (i : Nat) : TF' := fun d ε _ => if i < ε.length then some (ε.set i (some d)) else none
def gNil' : TFs := fun ds ε _ => match ds with
  | [] => some ε
  | _ => none
def gCons' (g : TF') (gs : TFs) : TFs := fun ds ε h => match ds with
  | d :: ds => match g d ε h with
    | some ε1 => gs ds ε1 h
    | none => none
  | [] => none
def gT (n : Nat) (gs : TFs) : TF' := fun d ε h => match d with
  | .tup ds => if ds.length = n then gs ds ε h else none
  | _ => none
/-- a target whose names stand at the slots sl -/
def tTg (K : PySem.W.Frag) (cls ts : List Addr) (sl : List Nat) (g : TF') : TG := fun v σ H Q => ∃ ρ ε h d ε', RH K cls ts ρ H h ∧ RE K ρ H σ ε ∧ RV K ρ H v d ∧ g d ε h = some ε' ∧
  ∀ σ', RE K ρ H σ' ε' → (∀ vs : List Nat, (∀ i ∈ sl, i ∈ vs) → wipe σ' vs = wipe σ vs) → Q σ' H
def tTgs (K : PySem.W.Frag) (cls ts : List Addr) (sl : List Nat) (g : TFs) : TGs := fun v σ H Q => ∃ ρ ε h d ε', RH K cls ts ρ H h ∧ RE K ρ H σ ε ∧ RVs K ρ H v d ∧ g d ε h = some ε' ∧
  ∀ σ', RE K ρ H σ' ε' → (∀ vs : List Nat, (∀ i ∈ sl, i ∈ vs) → wipe σ' vs = wipe σ vs) → Q σ' H
abbrev G' (X : Cx) (cls ts : List Addr) (tg : Expr) (sl : List Nat) (g : TF') : Prop := PG X tg (tTg X.K cls ts sl g)
abbrev Gs' (X : Cx) (cls ts : List Addr) (tg : List Expr) (sl : List Nat) (g : TFs) : Prop := PGs X tg (tTgs X.K cls ts sl g)
theorem RE.set {K : PySem.W.Frag} {ρ : List Addr} {H : Hp} {σ : L2.St} {ε : AEnv} {i : Nat} {v : V} {d : D} (r : RE K ρ H σ ε) (rv : RV K ρ H v d) : RE K ρ H (σ.set i (some v)) (ε.set i (some d)) := by
  refine ⟨by rw [List.length_set, List.length_set]; exact r.1, fun j e q => ?_⟩
  by_cases hj : i = j
  · subst hj
    have hl : i < ε.length := by
      have := (List.getElem?_eq_some_iff.mp q).1
      rw [List.length_set] at this
      exact this
    rw [List.getElem?_set_self hl] at q
    cases q
    exact ⟨v, List.getElem?_set_self (by rw [← r.1]; exact hl), rv⟩
  · rw [List.getElem?_set_ne hj] at q
    obtain ⟨w, h1, h2⟩ := r.2 j e q
    exact ⟨w, by rw [List.getElem?_set_ne hj]; exact h1, h2⟩
theorem wipe_set {σ : L2.St} {i : Nat} {x : Option V} : ∀ {vs : List Nat}, i ∈ vs → wipe (σ.set i x) vs = wipe σ vs
  | v :: vs, h => by
    unfold wipe
    by_cases hm : i ∈ vs
    · rw [wipe_set hm]
    · have e : i = v := by
        rcases List.mem_cons.mp h with one | more
        · exact one
        · exact absurd more hm
      subst e
      have z : ∀ vs : List Nat, i ∉ vs → wipe (σ.set i x) vs = (wipe σ vs).set i x := by
        intro vs
        induction vs with
        | nil => intro _; rfl
        | cons w ws ih =>
          intro hn
          unfold wipe
          rw [ih fun q => hn (List.mem_cons_of_mem _ q), List.set_comm _ _ (fun q => hn (by rw [q]; exact List.mem_cons_self))]
      rw [z vs hm, List.set_set]
section
variable {X : Cx} {cls ts : List Addr} {tg : Expr} {es : List Expr} {sl sl2 : List Nat} {g : TF'} {gs : TFs} {pos : Pos}
theorem g_name {i : Nat} {x : Str} (hN : X.N.Nodup) (hi : X.N[i]? = some x) (hx : Loc X.env.scope x) (hf : X.fn x = true ∨ X.env.scope.names.lookup x = some .local := by first | exact .inl rfl | exact .inr rfl | assumption) : G' X cls ts (.Name x pos) [i] (gN i) := by
  refine ⟨fun pins s σ H v u Q I r h => (pg_name hN hi hx hf).run pins s σ H v u Q I r ?_⟩
  obtain ⟨ρ, ε, hh, d, ε', hH, hE, rv, q, k⟩ := h
  unfold gN at q
  split at q <;> cases q
  exact k _ (hE.set rv) fun vs hv => wipe_set (hv i List.mem_cons_self)
theorem gs_nil : Gs' X cls ts [] [] gNil' := by
  refine ⟨fun pins s σ H vs us Q I r h => pgs_nil.run pins s σ H vs us Q I r ?_⟩
  obtain ⟨ρ, ε, hh, d, ε', hH, hE, rv, q, k⟩ := h
  unfold gNil' at q
  split at q <;> cases q
  cases rv
  exact ⟨rfl, k _ hE fun _ _ => rfl⟩
theorem gs_cons (h1 : G' X cls ts tg sl g) (h2 : Gs' X cls ts es sl2 gs) (hs : (assignEach (tg :: es) X.env).map (·.2) = assign tg X.env :: (assignEach es X.env).map (·.2) := by rfl) : Gs' X cls ts (tg :: es) (sl ++ sl2) (gCons' g gs) := by
  refine ⟨fun pins s σ H vs us Q I r h => (pgs_cons h1 h2 hs).run pins s σ H vs us Q I r ?_⟩
  obtain ⟨ρ, ε, hh, d, ε', hH, hE, rv, q, k⟩ := h
  unfold gCons' at q
  split at q <;> first | (cases q; done) | skip
  split at q <;> first | (cases q; done) | skip
  rename_i ε1 q1
  cases rv with
  | cons ra rb =>
    exact ⟨_, _, rfl, ρ, ε, hh, _, ε1, hH, hE, ra, q1, fun σ' hE' w1 => ⟨ρ, ε1, hh, _, ε', hH, hE', rb, q, fun σ2 hE2 w2 => k σ2 hE2 fun vs hv =>
      (w2 vs fun i hi => hv i (List.mem_append_right _ hi)).trans (w1 vs fun i hi => hv i (List.mem_append_left _ hi))⟩⟩
theorem g_tup {k : Nat} {n : Nat} (hc : X.calm = true) (h : Gs' X cls ts es sl gs) (hn : (assignEach es X.env).length = n := by rfl) (hst : (assignEach es X.env).findIdx? (·.1) = none := by rfl) : G' X cls ts (.Tuple es k pos) sl (gT n gs) := by
  refine ⟨fun pins s σ H v u Q I r hq => (pg_tup hc h hn hst).run pins s σ H v u Q I r ?_⟩
  obtain ⟨ρ, ε, hh, d, ε', hH, hE, rv, q, k⟩ := hq
  unfold gT at q
  split at q <;> first | (cases q; done) | skip
  split at q <;> first | (cases q; done) | skip
  rename_i c
  cases rv with
  | tup h1 r1 => exact ⟨_, _, rfl, h1, by rw [r1.length]; exact c, ρ, ε, hh, _, ε', hH, hE, r1, q, k⟩
end

/-! ### comprehensions -/
def wipeA (ε : AEnv) : List Nat → AEnv
  | [] => ε
  | v :: vs => (wipeA ε vs).set v none
def noExc {α : Type} : Res α → Res α
  | .exc _ _ => .stuck
  | r => r
def tYes' : TF := fun _ h => .ok true h
def compGo (it : AIt) (g : TF') (t : TF) (F : EF) (nD : Nat) (ε0 : AEnv) : Nat → Nat → AH → Res Unit
  | 0, _, h => if it.fin h = true then .ok () h else .stuck
  | m + 1, i, h => match it.item i h with
    | some d => match g d ε0 h with
      | some ε1 => (noExc (t ε1 h)).bind fun b h1 => if b = true then (noExc (F ε1 h1)).bind fun y h2 => match h2[nD]? with
          | some (.lst acc) => if acc.length < sizeLine then compGo it g t F nD ε0 m (i + 1) (h2.set nD (.lst (acc ++ [y]))) else .stuck
          | _ => .stuck
        else compGo it g t F nD ε0 m (i + 1) h1
      | none => .stuck
    | none => .stuck
def cComp (iF : IF) (g : TF') (t : TF) (F : EF) (own : List Nat) : EF := fun ε h => (iF ε h).bind fun it h1 => (compGo it g t F h1.length (wipeA ε own) it.len 0 (h1 ++ [.lst []])).bind fun _ h2 => .ok (.ref h1.length) h2
theorem RE.wipe {K : PySem.W.Frag} {ρ : List Addr} {H : Hp} {σ : L2.St} {ε : AEnv} (r : RE K ρ H σ ε) : ∀ vs : List Nat, RE K ρ H (L2.wipe σ vs) (wipeA ε vs)
  | [] => r
  | v :: vs => by
    have ih := RE.wipe r vs
    unfold L2.wipe wipeA
    refine ⟨by rw [List.length_set, List.length_set]; exact ih.1, fun j e q => ?_⟩
    by_cases hj : v = j
    · subst hj
      have hl := (List.getElem?_eq_some_iff.mp q).1
      rw [List.length_set] at hl
      rw [List.getElem?_set_self hl] at q
      cases q
    · rw [List.getElem?_set_ne hj] at q
      obtain ⟨w, h1, h2⟩ := ih.2 j e q
      exact ⟨w, by rw [List.getElem?_set_ne hj]; exact h1, h2⟩
abbrev Ts' (X : Cx) (cls ts : List Addr) (W : WX) (es : List Expr) (F : TF) : Prop := PTs X es (tT X.K cls ts W F)
abbrev W0 : WX := fun _ _ _ _ => False
theorem ts_nil {X : Cx} {cls ts : List Addr} {W : WX} : Ts' X cls ts W [] tYes' := ⟨fun pins s σ H Q I ⟨ρ, ε, h, hH, hE, p⟩ => pts_nil.run pins s σ H Q I (p _ _ _ .refl hH rfl)⟩
theorem ts_one {X : Cx} {cls ts : List Addr} {W : WX} {c : Expr} {T : TF} (h : T' X cls ts W c T) : Ts' X cls ts W [c] T := pts_one h
section
variable {K : PySem.W.Frag} {cls ts : List Addr} {W : WX} {iF : IF} {g : TF'} {t : TF} {F : EF} {sl own : List Nat} {σ : L2.St} {H : Hp} {Q : VK}
theorem noExc_W {α β : Type} {rel : List Addr → Hp → β → α → Prop} {γ δ : Type} {rel2 : List Addr → Hp → δ → γ → Prop} {ρ : List Addr} {H : Hp} {ε : AEnv} {h : AH} {F : AEnv → AH → Res α} {G : α → AH → Res γ} {V2 : Value → Option Addr → Hp → Prop} {Qx : δ → Hp → Prop} {σ : L2.St} {Q' : β → Hp → Prop}
    (hH : RH K cls ts ρ H h) (hE : RE K ρ H σ ε) (hp : Post K cls ts rel2 V2 ρ H ((noExc (F ε h)).bind G) Qx)
    (k : ∀ ρ1 H1 v h1 a, Ext ts ρ ρ1 H H1 → RH K cls ts ρ1 H1 h1 → rel ρ1 H1 v a → RE K ρ1 H1 σ ε → Post K cls ts rel2 V2 ρ1 H1 (G a h1) Qx → Q' v H1) : tG K cls ts rel W0 F σ H Q' := by
  refine ⟨ρ, ε, h, hH, hE, ?_⟩
  cases q : F ε h with
  | ok a h1 =>
    rw [q] at hp
    exact fun ρ1 H1 v e r rv => k ρ1 H1 v h1 a e r rv (hE.mono e) (hp.ext e)
  | exc x h1 =>
    rw [q] at hp
    exact hp.elim
  | stuck =>
    rw [q] at hp
    exact hp
theorem comp_ok (hsl : ∀ i ∈ sl, i ∈ own) (p : tE K cls ts W (cComp iF g t F own) σ H Q) : tLc (tI K cls ts W iF) (tTg K cls ts sl g) (tT K cls ts W0 t) (tE K cls ts W0 F) own σ H Q := by
  obtain ⟨ρ, ε, h, hH, hE, p⟩ := p
  refine tG_bind hH hE p fun ρ1 H1 J h1 it _ e1 hH1 rit hE1 p1 => fun Da hD => ?_
  have eD := ext_new (ts := ts) (ρ := ρ1) (u := .lst []) hD
  have hHD : RH K cls ts (ρ1 ++ [Da]) (upd H1 Da (.lst [])) (h1 ++ [.lst []]) := hH1.new hD ⟨[], upd_same, .nil⟩
  refine ⟨fun i m H' => m = it.len - i ∧ i ≤ it.len ∧ ∃ ρ2 h2, Ext ts (ρ1 ++ [Da]) ρ2 (upd H1 Da (.lst [])) H' ∧ RH K cls ts ρ2 H' h2 ∧
    Post K cls ts (relD K) (fun c dd H' => W c dd σ H') ρ2 H' ((compGo it g t F h1.length (wipeA ε own) m i h2).bind fun _ h3 => .ok (.ref h1.length) h3) Q,
    ⟨it.len, by simp, Nat.zero_le _, _, _, .refl, hHD, p1.ext eD⟩, ?_⟩
  rintro i m H' ⟨em, hi, ρ2, h2, e2, hH2, q⟩
  have ritD := rit.ext eD
  have gD : ρ2[h1.length]? = some Da := e2.get (by rw [← hH1.len]; exact get_new)
  by_cases hlt : i < it.len
  · obtain ⟨k, rfl⟩ : ∃ k, m = k + 1 := ⟨m - 1, by omega⟩
    simp only [compGo] at q
    split at q <;> first | exact q.elim | skip
    rename_i d qi
    obtain ⟨go, yl⟩ := ritD.go ρ2 H' h2 i d e2 hH2 hlt qi
    refine .inr ⟨go, fun H3 => ∃ ρ3 h3, Ext ts (ρ1 ++ [Da]) ρ3 (upd H1 Da (.lst [])) H3 ∧ RH K cls ts ρ3 H3 h3 ∧
      Post K cls ts (relD K) (fun c dd H' => W c dd σ H') ρ3 H3 ((compGo it g t F h1.length (wipeA ε own) k (i + 1) h3).bind fun _ h3 => .ok (.ref h1.length) h3) Q, fun H3 z => ⟨k, by omega, by omega, by omega, z⟩, fun x H'' y => ?_⟩
    obtain ⟨e3, hH3, rx⟩ := yl x H'' y
    have q := q.ext e3
    split at q <;> first | exact q.elim | skip
    rename_i ε1 qg
    have hE3 : RE K ρ2 H'' (L2.wipe σ own) (wipeA ε own) := (hE1.mono (eD.trans (e2.trans e3))).wipe own
    refine ⟨ρ2, _, h2, d, ε1, hH3, hE3, rx, qg, fun σ' hE' hw => ⟨?_, ?_⟩⟩
    · have w1 := hw own hsl
      rw [w1]
      have idem : ∀ vs : List Nat, (∀ i ∈ vs, i ∈ own) → L2.wipe (L2.wipe σ own) vs = L2.wipe σ own := by
        intro vs
        induction vs with
        | nil => intro _; rfl
        | cons v vs ih =>
          intro hv
          show (L2.wipe (L2.wipe σ own) vs).set v none = _
          rw [ih fun i hi => hv i (List.mem_cons_of_mem _ hi)]
          have wn : ∀ us : List Nat, v ∈ us → (L2.wipe σ us).set v none = L2.wipe σ us := by
            intro us
            induction us with
            | nil => intro h; cases h
            | cons u us ih2 =>
              intro h
              show ((L2.wipe σ us).set u none).set v none = (L2.wipe σ us).set u none
              by_cases e : u = v
              · subst e; rw [List.set_set]
              · rcases List.mem_cons.mp h with z | z
                · exact absurd z.symm e
                · rw [List.set_comm _ _ e, ih2 z]
          exact wn own (hv v List.mem_cons_self)
      exact idem own fun _ h => h
    · have q0 : Post K cls ts (relD K) (fun c dd H' => W c dd σ H') ρ2 H'' ((noExc (t ε1 h2)).bind fun b h1' => (if b = true then (noExc (F ε1 h1')).bind fun y h2 => match h2[h1.length]? with
          | some (.lst acc) => if acc.length < sizeLine then compGo it g t F h1.length (wipeA ε own) k (i + 1) (h2.set h1.length (.lst (acc ++ [y]))) else .stuck
          | _ => .stuck
        else compGo it g t F h1.length (wipeA ε own) k (i + 1) h1').bind fun _ h3 => .ok (.ref h1.length) h3) Q := by
        cases z : noExc (t ε1 h2) with
        | ok b h' => rw [z] at q; exact q
        | exc _ _ => rw [z] at q; exact q
        | stuck => rw [z] at q; exact q
      refine noExc_W hH3 hE' q0 fun ρ4 H4 b h4 b' e4 hH4 rb hE4 q4 => ?_
      cases rb
      cases b with
      | false => exact iteF ⟨ρ4, h4, e2.trans (e3.trans e4), hH4, q4⟩
      | true =>
        refine iteT ?_
        have q5 : Post K cls ts (relD K) (fun c dd H' => W c dd σ H') ρ4 H4 ((noExc (F ε1 h4)).bind fun y h2 => (match h2[h1.length]? with
          | some (.lst acc) => if acc.length < sizeLine then compGo it g t F h1.length (wipeA ε own) k (i + 1) (h2.set h1.length (.lst (acc ++ [y]))) else .stuck
          | _ => .stuck).bind fun _ h3 => .ok (.ref h1.length) h3) Q := by
          rw [if_pos rfl] at q4
          cases z : noExc (F ε1 h4) with
          | ok b h' => rw [z] at q4; exact q4
          | exc _ _ => rw [z] at q4; exact q4
          | stuck => rw [z] at q4; exact q4
        refine noExc_W hH4 hE4 q5 fun ρ5 H5 y h5 dy e5 hH5 ry hE5 q6 => ?_
        have e25 := e2.trans (e3.trans (e4.trans e5))
        have gD5 : ρ5[h1.length]? = some Da := e25.get (by rw [← hH1.len]; exact get_new)
        split at q6 <;> first | exact q6.elim | skip
        rename_i acc ea
        split at q6 <;> first | exact q6.elim | skip
        rename_i c
        obtain ⟨us, k1, r1⟩ := hH5.lst gD5 ea
        have eP := ext_put (u := .lst (us ++ [y])) (List.mem_of_getElem? gD5) hH5
        have hP : RH K cls ts ρ5 (upd H5 Da (.lst (us ++ [y]))) (h5.set h1.length (.lst (acc ++ [dy]))) := hH5.put gD5 ⟨_, upd_same, (r1.append (.cons ry .nil)).mono eP⟩
        exact ⟨us, k1, by rw [r1.length]; exact c, ρ5, _, e25.trans eP, hP, q6.ext eP⟩
  · have ei : i = it.len := by omega
    subst ei
    have em0 : m = 0 := by omega
    subst em0
    simp only [compGo] at q
    split at q <;> first | exact q.elim | skip
    rename_i c
    exact .inl ⟨ritD.stop ρ2 H' h2 e2 hH2 c, post_val hH2 (.ref gD) q⟩
end
section
variable {X : Cx} {W : WX} {cls ts : List Addr} {elt tg iter : Expr} {ifs : List Expr} {scope : Scope} {own : List (Str × Nat)} {pos : Pos} {iF : IF} {g : TF'} {t : TF} {F : EF} {sl : List Nat}
theorem e_comp (hc : X.calm = true) (hN : X.N.Nodup) (hi : I' X cls ts W tg iter iF) (ok : BlkOk X.N X.env.scope scope own) (hsl : ∀ i ∈ sl, i ∈ own.map (·.2))
    (hg : ∀ (s : Shared) (H : Hp) (C : Addr) (cl : List (Str × Addr)) (fp : List Addr), G' (X.blk s H scope (compEnvC scope cl C X.env) fp) cls ts tg sl g)
    (ht : ∀ (s : Shared) (H : Hp) (C : Addr) (cl : List (Str × Addr)) (fp : List Addr), Ts' (X.blk s H scope (compEnvC scope cl C X.env) fp) cls ts W0 ifs t)
    (he : ∀ (s : Shared) (H : Hp) (C : Addr) (cl : List (Str × Addr)) (fp : List Addr), E' (X.blk s H scope (compEnvC scope cl C X.env) fp) cls ts W0 elt F) (hs : ∀ x, foldedSetIterable iter X.env x = pure x := by intro _; rfl) :
    E' X cls ts W (.ListComp elt [⟨tg, iter, ifs, 0⟩] scope pos) (cComp iF g t F (own.map (·.2))) :=
  ⟨fun pins s σ H Q I p => (pe_lc hc hN hi ok hg ht he hs).run pins s σ H Q I (comp_ok hsl p)⟩
end
end Mi

namespace Mi
open L2 PySem PySem.Spec PyProof.Rows

/-! ### statements -/
inductive SR where
  | nx (ε : AEnv) (h : AH) | ret (d : D) (h : AH) | brk (ε : AEnv) (h : AH) | cnt (ε : AEnv) (h : AH) | exc (x : Exn) (ε : AEnv) (h : AH) | stuck
abbrev SF := AEnv → AH → SR
/-- an expression's end in a statement -/
def Res.st {α : Type} (r : Res α) (ε : AEnv) (f : α → AH → SR) : SR :=
  match r with
  | .ok a h => f a h
  | .exc x h => .exc x ε h
  | .stuck => .stuck
@[simp] theorem Res.st_ok {α : Type} (a : α) (h : AH) (ε : AEnv) (f : α → AH → SR) : (Res.ok a h).st ε f = f a h := rfl
@[simp] theorem Res.st_exc {α : Type} (x : Exn) (h : AH) (ε : AEnv) (f : α → AH → SR) : (Res.exc (α := α) x h).st ε f = .exc x ε h := rfl
@[simp] theorem Res.st_stuck {α : Type} (ε : AEnv) (f : α → AH → SR) : (Res.stuck (α := α)).st ε f = .stuck := rfl
def SR.seq (r : SR) (f : SF) : SR :=
  match r with
  | .nx ε h => f ε h
  | r => r
@[simp] theorem SR.seq_nx (ε : AEnv) (h : AH) (f : SF) : (SR.nx ε h).seq f = f ε h := rfl
@[simp] theorem SR.seq_ret (d : D) (h : AH) (f : SF) : (SR.ret d h).seq f = .ret d h := rfl
@[simp] theorem SR.seq_exc (x : Exn) (ε : AEnv) (h : AH) (f : SF) : (SR.exc x ε h).seq f = .exc x ε h := rfl
@[simp] theorem SR.seq_stuck (f : SF) : SR.stuck.seq f = .stuck := rfl
@[simp] theorem SR.seq_brk (ε : AEnv) (h : AH) (f : SF) : (SR.brk ε h).seq f = .brk ε h := rfl
@[simp] theorem SR.seq_cnt (ε : AEnv) (h : AH) (f : SF) : (SR.cnt ε h).seq f = .cnt ε h := rfl
def PostS (K : PySem.W.Frag) (cls ts : List Addr) (W : WX) (ρ : List Addr) (H : Hp) (r : SR) (E : Ends) : Prop :=
  match r with
  | .nx ε' h' => ∀ ρ' H' σ', Ext ts ρ ρ' H H' → RH K cls ts ρ' H' h' → RE K ρ' H' σ' ε' → E.nx σ' H'
  | .ret d h' => ∀ ρ' H' v, Ext ts ρ ρ' H H' → RH K cls ts ρ' H' h' → RV K ρ' H' v d → E.rt v H'
  | .brk ε' h' => ∀ ρ' H' σ', Ext ts ρ ρ' H H' → RH K cls ts ρ' H' h' → RE K ρ' H' σ' ε' → E.bk σ' H'
  | .cnt ε' h' => ∀ ρ' H' σ', Ext ts ρ ρ' H H' → RH K cls ts ρ' H' h' → RE K ρ' H' σ' ε' → E.ct σ' H'
  | .exc x ε' h' => ∀ ρ' H' σ' c dd, Ext ts ρ ρ' H H' → RH K cls ts ρ' H' h' → RE K ρ' H' σ' ε' → RX K cls ρ' H' c dd x → W c dd σ' H'
  | .stuck => False
theorem PostS.ext {K : PySem.W.Frag} {cls ts ρ ρ1 : List Addr} {H H1 : Hp} {W : WX} {r : SR} {E : Ends} (e : Ext ts ρ ρ1 H H1) (p : PostS K cls ts W ρ H r E) : PostS K cls ts W ρ1 H1 r E := by
  cases r with
  | nx ε' h' => exact fun ρ' H' σ' e' => p ρ' H' σ' (e.trans e')
  | ret d h' => exact fun ρ' H' v e' => p ρ' H' v (e.trans e')
  | brk ε' h' => exact fun ρ' H' σ' e' => p ρ' H' σ' (e.trans e')
  | cnt ε' h' => exact fun ρ' H' σ' e' => p ρ' H' σ' (e.trans e')
  | exc x ε' h' => exact fun ρ' H' σ' c dd e' => p ρ' H' σ' c dd (e.trans e')
  | stuck => exact p
def tS (K : PySem.W.Frag) (cls ts : List Addr) (W : WX) (F : SF) : TS := fun E σ H => ∃ ρ ε h, RH K cls ts ρ H h ∧ RE K ρ H σ ε ∧ PostS K cls ts W ρ H (F ε h) E
/-- an expression ahead of what a statement does -/
theorem tS_bind {α β : Type} {K : PySem.W.Frag} {cls ts ρ : List Addr} {H : Hp} {rel : List Addr → Hp → β → α → Prop} {W : WX} {F : AEnv → AH → Res α} {G : α → AH → SR} {σ : L2.St} {ε : AEnv} {h : AH} {E : Ends} {Q' : β → Hp → Prop}
    (hH : RH K cls ts ρ H h) (hE : RE K ρ H σ ε) (hp : PostS K cls ts W ρ H ((F ε h).st ε G) E)
    (k : ∀ ρ1 H1 v h1 a, F ε h = .ok a h1 → Ext ts ρ ρ1 H H1 → RH K cls ts ρ1 H1 h1 → rel ρ1 H1 v a → RE K ρ1 H1 σ ε → PostS K cls ts W ρ1 H1 (G a h1) E → Q' v H1) : tG K cls ts rel W F σ H Q' := by
  refine ⟨ρ, ε, h, hH, hE, ?_⟩
  cases q : F ε h with
  | ok a h1 =>
    rw [q] at hp
    exact fun ρ1 H1 v e r rv => k ρ1 H1 v h1 a q e r rv (hE.mono e) (hp.ext e)
  | exc x h1 =>
    rw [q] at hp
    exact fun ρ1 H1 c dd e r rx => hp ρ1 H1 σ c dd e r (hE.mono e) rx
  | stuck =>
    rw [q] at hp
    exact hp
def sPass : SF := fun ε h => .nx ε h
def sBrk : SF := fun ε h => .brk ε h
def sCnt : SF := fun ε h => .cnt ε h
def sSeq (a b : SF) : SF := fun ε h => (a ε h).seq b
def sExpr (F : EF) : SF := fun ε h => (F ε h).st ε fun _ h1 => .nx ε h1
def sRet (F : EF) : SF := fun ε h => (F ε h).st ε fun d h1 => .ret d h1
def sRetN : SF := fun ε h => .ret .non h
def sSet (i : Nat) (F : EF) : SF := fun ε h => (F ε h).st ε fun d h1 => if i < ε.length then .nx (ε.set i (some d)) h1 else .stuck
def sAsg (F : EF) (g : TF') : SF := fun ε h => (F ε h).st ε fun d h1 => match g d ε h1 with
  | some ε1 => .nx ε1 h1
  | none => .stuck
def sIf (t : TF) (a b : SF) : SF := fun ε h => (t ε h).st ε fun c h1 => if c = true then a ε h1 else b ε h1
/-- xs[i] = e -/
def putL (c i d : D) (h : AH) : Option AH :=
  match c, i with
  | .ref n, .int k => match h[n]? with
    | some (.lst xs) => match ixN xs.length k with
      | some j => some (h.set n (.lst (xs.set j d)))
      | none => none
    | _ => none
  | _, _ => none
def sPut (F G I : EF) : SF := fun ε h => (F ε h).st ε fun d h1 => (G ε h1).st ε fun c h2 => (I ε h2).st ε fun i h3 => match putL c i d h3 with
  | some h4 => .nx ε h4
  | none => .stuck
def sPar2 (i j : Nat) (F G : EF) : SF := fun ε h => (F ε h).st ε fun a h1 => (G ε h1).st ε fun b h2 => if i < ε.length ∧ j < ε.length then .nx ((ε.set i (some a)).set j (some b)) h2 else .stuck
def sPar3 (i j k : Nat) (F G I : EF) : SF := fun ε h => (F ε h).st ε fun a h1 => (G ε h1).st ε fun b h2 => (I ε h2).st ε fun c h3 => if i < ε.length ∧ j < ε.length ∧ k < ε.length then .nx (((ε.set i (some a)).set j (some b)).set k (some c)) h3 else .stuck
/-- for: turn by turn -/
def forGo (it : AIt) (g : TF') (B : SF) : Nat → Nat → AEnv → AH → SR
  | 0, _, ε, h => if it.fin h = true then .nx ε h else .stuck
  | m + 1, i, ε, h => match it.item i h with
    | some d => match g d ε h with
      | some ε1 => match B ε1 h with
        | .nx ε2 h2 => forGo it g B m (i + 1) ε2 h2
        | .cnt ε2 h2 => forGo it g B m (i + 1) ε2 h2
        | .brk ε2 h2 => .nx ε2 h2
        | r => r
      | none => .stuck
    | none => .stuck
def sFor (iF : IF) (g : TF') (B : SF) : SF := fun ε h => (iF ε h).st ε fun it h1 => forGo it g B it.len 0 ε h1
/-- while: as many turns as fuel has -/
def whileGo (t : TF) (B : SF) : Nat → AEnv → AH → SR
  | 0, _, _ => .stuck
  | m + 1, ε, h => (t ε h).st ε fun c h1 => if c = true then match B ε h1 with
      | .nx ε2 h2 => whileGo t B m ε2 h2
      | .cnt ε2 h2 => whileGo t B m ε2 h2
      | .brk ε2 h2 => .nx ε2 h2
      | r => r
    else .nx ε h1
def sWhile (fuel : Nat) (t : TF) (B : SF) : SF := fun ε h => whileGo t B fuel ε h

section
variable {X : Cx} {W : WX} {cls ts : List Addr} {a b c e : Expr} {Fa Fb Fc F : EF} {Ta : TF} {A : AF} {es : List Expr} {pos : Pos} {st : Stmt} {rest body orelse : List Stmt} {S1 S2 B : SF}
abbrev S' (X : Cx) (cls ts : List Addr) (W : WX) (s : Stmt) (F : SF) : Prop := PS X s (tS X.K cls ts W F)
abbrev Ss' (X : Cx) (cls ts : List Addr) (W : WX) (s : List Stmt) (F : SF) : Prop := PSs X s (tS X.K cls ts W F)
theorem ss_nil : Ss' X cls ts W [] sPass := ⟨fun pins s σ H E I ⟨ρ, ε, h, hH, hE, p⟩ => pss_nil.run pins s σ H E I (p _ _ _ .refl hH hE)⟩
theorem ss_cons (h1 : S' X cls ts W st S1) (h2 : Ss' X cls ts W rest S2) : Ss' X cls ts W (st :: rest) (sSeq S1 S2) := by
  refine ⟨fun pins s σ H E I ⟨ρ, ε, h, hH, hE, p⟩ => (pss_cons h1 h2).run pins s σ H E I ⟨ρ, ε, h, hH, hE, ?_⟩⟩
  unfold sSeq at p
  cases q : S1 ε h with
  | nx ε' h' =>
    rw [q] at p
    exact fun ρ' H' σ' e' hH' hE' => ⟨ρ', ε', h', hH', hE', p.ext e'⟩
  | _ => rw [q] at p; exact p
theorem ss_one (h1 : S' X cls ts W st S1) : Ss' X cls ts W [st] S1 := pss_one h1
theorem s_pass : S' X cls ts W (.Pass pos) sPass := ⟨fun pins s σ H E I ⟨ρ, ε, h, hH, hE, p⟩ => ps_pass.run pins s σ H E I (p _ _ _ .refl hH hE)⟩
theorem s_doc {x j pos pos'} : S' X cls ts W (.Expr (.Constant (.str x) j pos) pos') sPass := ⟨fun pins s σ H E I ⟨ρ, ε, h, hH, hE, p⟩ => ps_doc.run pins s σ H E I (p _ _ _ .refl hH hE)⟩
theorem s_brk : S' X cls ts W (.Break pos) sBrk := ⟨fun pins s σ H E I ⟨ρ, ε, h, hH, hE, p⟩ => ps_break.run pins s σ H E I (p _ _ _ .refl hH hE)⟩
theorem s_cnt : S' X cls ts W (.Continue pos) sCnt := ⟨fun pins s σ H E I ⟨ρ, ε, h, hH, hE, p⟩ => ps_continue.run pins s σ H E I (p _ _ _ .refl hH hE)⟩
theorem s_expr (he : E' X cls ts W e F) (hs : swapsWith e none pos.line X.env = pure false := by rfl) : S' X cls ts W (.Expr e pos) (sExpr F) :=
  ⟨fun pins s σ H E I ⟨ρ, ε, h, hH, hE, p⟩ => (ps_expr he hs).run pins s σ H E I (tS_bind hH hE p fun ρ1 H1 x h1 dx _ e1 hH1 rx hE1 p1 => p1 _ _ _ .refl hH1 hE1)⟩
theorem s_ret (he : E' X cls ts W e F) : S' X cls ts W (.Return (some e) pos) (sRet F) :=
  ⟨fun pins s σ H E I ⟨ρ, ε, h, hH, hE, p⟩ => (ps_ret he).run pins s σ H E I (tS_bind hH hE p fun ρ1 H1 x h1 dx _ e1 hH1 rx hE1 p1 => p1 _ _ _ .refl hH1 rx)⟩
theorem s_retN : S' X cls ts W (.Return none pos) sRetN := ⟨fun pins s σ H E I ⟨ρ, ε, h, hH, hE, p⟩ => ps_retN.run pins s σ H E I (p _ _ _ .refl hH .non)⟩
theorem s_set {i : Nat} {x : Str} {pos' : Pos} (hN : X.N.Nodup) (hi : X.N[i]? = some x) (hx : Loc X.env.scope x) (he : E' X cls ts W e F) (hs : swapsWith e (some (.Name x pos')) pos.line X.env = pure false := by rfl)
    (hf : X.fn x = true ∨ X.env.scope.names.lookup x = some .local := by first | exact .inl rfl | exact .inr rfl | assumption) : S' X cls ts W (.Assign [.Name x pos'] e pos) (sSet i F) := by
  refine ⟨fun pins s σ H E I ⟨ρ, ε, h, hH, hE, p⟩ => (ps_set hN hi hx he hs hf).run pins s σ H E I (tS_bind hH hE p fun ρ1 H1 x h1 dx _ e1 hH1 rx hE1 p1 => ?_)⟩
  split at p1 <;> first | exact p1.elim | skip
  exact p1 _ _ _ .refl hH1 (hE1.set rx)
theorem s_asg {tg : Expr} {sl : List Nat} {g : TF'} (he : E' X cls ts W e F) (hg : G' X cls ts tg sl g) (hs : swapsWithSole [tg] e pos.line X.env = pure false := by rfl) (hw : swappedStores [tg] e X.env = pure none := by rfl)
    (h1 : (assignEach [tg] X.env).map (·.2) = [assign tg X.env] := by rfl) : S' X cls ts W (.Assign [tg] e pos) (sAsg F g) := by
  refine ⟨fun pins s σ H E I ⟨ρ, ε, h, hH, hE, p⟩ => (ps_asg he hg hs hw h1).run pins s σ H E I (tS_bind hH hE p fun ρ1 H1 x h1 dx _ e1 hH1 rx hE1 p1 => ?_)⟩
  split at p1 <;> first | exact p1.elim | skip
  rename_i ε1 q
  exact ⟨ρ1, ε, h1, dx, ε1, hH1, hE1, rx, q, fun σ' hE' _ => p1 _ _ _ .refl hH1 hE'⟩
theorem s_if (hc : T' X cls ts W c Ta) (ha : Ss' X cls ts W body S1) (hb : Ss' X cls ts W orelse S2) : S' X cls ts W (.If c body orelse pos) (sIf Ta S1 S2) := by
  refine ⟨fun pins s σ H E I ⟨ρ, ε, h, hH, hE, p⟩ => (ps_if hc ha hb).run pins s σ H E I (tS_bind hH hE p fun ρ1 H1 x h1 dx _ e1 hH1 rx hE1 p1 => ?_)⟩
  cases rx
  cases x with
  | true => exact ⟨_, _, _, hH1, hE1, p1⟩
  | false => exact ⟨_, _, _, hH1, hE1, p1⟩
theorem s_put {o i : Expr} {tpos : Pos} {Fo Fi : EF} (he : E' X cls ts W e F) (ho : E' X cls ts W o Fo) (hi : E' X cls ts W i Fi)
    (ha : ∀ v, assign (.Subscript o i tpos) X.env v = (do let a ← holding [v] (eval o X.env); let b ← holding [v, a] (eval i X.env); standAt tpos; holding [v, a, b] (setItem a b v); release [v, a, b] []) := by intro _; rfl)
    (hs : swapsWithSole [.Subscript o i tpos] e pos.line X.env = pure false := by rfl) (hw : swappedStores [.Subscript o i tpos] e X.env = pure none := by rfl)
    (h1 : (assignEach [.Subscript o i tpos] X.env).map (·.2) = [assign (.Subscript o i tpos) X.env] := by rfl) : S' X cls ts W (.Assign [.Subscript o i tpos] e pos) (sPut F Fo Fi) := by
  refine ⟨fun pins s σ H E I ⟨ρ, ε, h, hH, hE, p⟩ => (ps_asg he (pg_sub ho hi set_list ha) hs hw h1).run pins s σ H E I (tS_bind hH hE p fun ρ1 H1 x h1 dx _ e1 hH1 rx hE1 p1 =>
    tS_bind hH1 hE1 p1 fun ρ2 H2 y h2 dy _ e2 hH2 ry hE2 p2 => tS_bind hH2 hE2 p2 fun ρ3 H3 z h3 dz _ e3 hH3 rz hE3 p3 => ?_)⟩
  split at p3 <;> first | exact p3.elim | skip
  rename_i h4 q
  unfold putL at q
  split at q <;> first | (cases q; done) | skip
  split at q <;> first | (cases q; done) | skip
  rename_i xs e4
  split at q <;> cases q
  rename_i j ej
  cases rz
  cases ry with
  | ref q1 =>
    have q1 := e3.get q1
    obtain ⟨us, k1, r1⟩ := hH3.lst q1 e4
    have rx := rx.mono (e2.trans e3)
    have eP := ext_put (u := .lst (us.set j x)) (List.mem_of_getElem? q1) hH3
    refine ⟨_, us, _, j, rfl, rfl, k1, by rw [r1.length]; exact ej, p3 _ _ _ eP (hH3.put q1 ⟨_, upd_same, (RVs.set rx j r1).mono eP⟩) (hE3.mono eP)⟩
theorem s_par2 {i j : Nat} {x y : Str} {px py pt : Pos} {kt k2 pt2} (hc : X.calm = true) (hN : X.N.Nodup) (hi : X.N[i]? = some x) (hj : X.N[j]? = some y) (hij : i ≠ j)
    (hx : X.env.scope.names.lookup x = some .local) (hy : X.env.scope.names.lookup y = some .local) (ha : E' X cls ts W a Fa) (hb : E' X cls ts W b Fb)
    (hw : swappedStores [.Tuple [.Name x px, .Name y py] kt pt] (.Tuple [a, b] k2 pt2) X.env = pure (some [x, y])) (hs : swapsWithSole [.Tuple [.Name x px, .Name y py] kt pt] (.Tuple [a, b] k2 pt2) pos.line X.env = pure false := by rfl)
    (h1 : starEach [a, b] X.env = (false, eval a X.env) :: starEach [b] X.env := by rfl) (h2 : starEach [b] X.env = (false, eval b X.env) :: starEach [] X.env := by rfl) :
    S' X cls ts W (.Assign [.Tuple [.Name x px, .Name y py] kt pt] (.Tuple [a, b] k2 pt2) pos) (sPar2 i j Fa Fb) := by
  refine ⟨fun pins s σ H E I ⟨ρ, ε, h, hH, hE, p⟩ => (ps_par hc hN hi hj hij hx hy (pa_cons ha (pa_cons hb pa_nil h2) h1) hw hs).run pins s σ H E I (tS_bind hH hE p fun ρ1 H1 x h1 dx _ e1 hH1 rx hE1 p1 =>
    tS_bind hH1 hE1 p1 fun ρ2 H2 y h2 dy _ e2 hH2 ry hE2 p2 => ?_)⟩
  split at p2 <;> first | exact p2.elim | skip
  exact ⟨x, y, rfl, p2 _ _ _ .refl hH2 ((hE2.set (rx.mono e2)).set ry)⟩
theorem s_par3 {i j k : Nat} {x y z : Str} {px py pz pt : Pos} {kt k2 pt2} (hc : X.calm = true) (hN : X.N.Nodup) (hi : X.N[i]? = some x) (hj : X.N[j]? = some y) (hk : X.N[k]? = some z) (hij : i ≠ j) (hik : i ≠ k) (hjk : j ≠ k)
    (hx : X.env.scope.names.lookup x = some .local) (hy : X.env.scope.names.lookup y = some .local) (hz : X.env.scope.names.lookup z = some .local) (ha : E' X cls ts W a Fa) (hb : E' X cls ts W b Fb) (hcc : E' X cls ts W c Fc)
    (hw : swappedStores [.Tuple [.Name x px, .Name y py, .Name z pz] kt pt] (.Tuple [a, b, c] k2 pt2) X.env = pure (some [x, y, z])) (hs : swapsWithSole [.Tuple [.Name x px, .Name y py, .Name z pz] kt pt] (.Tuple [a, b, c] k2 pt2) pos.line X.env = pure false := by rfl)
    (h1 : starEach [a, b, c] X.env = (false, eval a X.env) :: starEach [b, c] X.env := by rfl) (h2 : starEach [b, c] X.env = (false, eval b X.env) :: starEach [c] X.env := by rfl) (h3 : starEach [c] X.env = (false, eval c X.env) :: starEach [] X.env := by rfl) :
    S' X cls ts W (.Assign [.Tuple [.Name x px, .Name y py, .Name z pz] kt pt] (.Tuple [a, b, c] k2 pt2) pos) (sPar3 i j k Fa Fb Fc) := by
  refine ⟨fun pins s σ H E I ⟨ρ, ε, h, hH, hE, p⟩ => (ps_par3 hc hN hi hj hk hij hik hjk hx hy hz (pa_cons ha (pa_cons hb (pa_cons hcc pa_nil h3) h2) h1) hw hs).run pins s σ H E I (tS_bind hH hE p fun ρ1 H1 x h1 dx _ e1 hH1 rx hE1 p1 =>
    tS_bind hH1 hE1 p1 fun ρ2 H2 y h2 dy _ e2 hH2 ry hE2 p2 => tS_bind hH2 hE2 p2 fun ρ3 H3 z h3 dz _ e3 hH3 rz hE3 p3 => ?_)⟩
  split at p3 <;> first | exact p3.elim | skip
  exact ⟨x, y, z, rfl, p3 _ _ _ .refl hH3 (((hE3.set (rx.mono (e2.trans e3))).set (ry.mono e3)).set rz)⟩
theorem s_for {iter tg : Expr} {iF : IF} {sl : List Nat} {g : TF'} (hp : PassesOwn (model X.prog X.w) X.A X.env X.xe) (hc : X.calm = true) (hi : I' X cls ts W tg iter iF) (hg : G' X cls ts tg sl g) (hb : Ss' X cls ts W body B)
    (hs : ∀ x, foldedSetIterable iter X.env x = pure x := by intro _; rfl) : S' X cls ts W (.For tg iter body [] pos) (sFor iF g B) := by
  refine ⟨fun pins s σ H E I ⟨ρ, ε, h, hH, hE, p⟩ => (ps_for hp hc hi hg hb hs).run pins s σ H E I (tS_bind hH hE p fun ρ1 H1 J h1 it _ e1 hH1 rit hE1 p1 => ?_)⟩
  refine ⟨fun i m σ' H' => m = it.len - i ∧ i ≤ it.len ∧ ∃ ρ2 ε2 h2, Ext ts ρ1 ρ2 H1 H' ∧ RH X.K cls ts ρ2 H' h2 ∧ RE X.K ρ2 H' σ' ε2 ∧ PostS X.K cls ts W ρ2 H' (forGo it g B m i ε2 h2) E,
    ⟨it.len, by simp, Nat.zero_le _, _, _, _, .refl, hH1, hE1, p1⟩, ?_⟩
  rintro i m σ' H' ⟨em, hi', ρ2, ε2, h2, e2, hH2, hE2, q⟩
  by_cases hlt : i < it.len
  · obtain ⟨k, rfl⟩ : ∃ k, m = k + 1 := ⟨m - 1, by omega⟩
    simp only [forGo] at q
    split at q <;> first | exact q.elim | skip
    rename_i d qi
    obtain ⟨go, yl⟩ := rit.go ρ2 H' h2 i d e2 hH2 hlt qi
    refine .inr ⟨go, fun σ3 H3 => ∃ ρ3 ε3 h3, Ext ts ρ1 ρ3 H1 H3 ∧ RH X.K cls ts ρ3 H3 h3 ∧ RE X.K ρ3 H3 σ3 ε3 ∧ PostS X.K cls ts W ρ3 H3 (forGo it g B k (i + 1) ε3 h3) E, fun σ3 H3 z => ⟨k, by omega, by omega, by omega, z⟩, fun x H'' y => ?_⟩
    obtain ⟨e3, hH3, rx⟩ := yl x H'' y
    have q := q.ext e3
    split at q <;> first | exact q.elim | skip
    rename_i ε1 qg
    refine ⟨ρ2, ε2, h2, d, ε1, hH3, hE2.mono e3, rx, qg, fun σ4 hE4 _ => ⟨ρ2, ε1, h2, hH3, hE4, ?_⟩⟩
    cases z : B ε1 h2 with
    | nx ε5 h5 =>
      rw [z] at q
      exact fun ρ' H5 σ5 e5 hH5 hE5 => ⟨ρ', ε5, h5, e2.trans (e3.trans e5), hH5, hE5, q.ext e5⟩
    | cnt ε5 h5 =>
      rw [z] at q
      exact fun ρ' H5 σ5 e5 hH5 hE5 => ⟨ρ', ε5, h5, e2.trans (e3.trans e5), hH5, hE5, q.ext e5⟩
    | _ =>
      rw [z] at q
      exact q
  · have ei : i = it.len := by omega
    subst ei
    have em0 : m = 0 := by omega
    subst em0
    simp only [forGo] at q
    split at q <;> first | exact q.elim | skip
    rename_i c
    exact .inl ⟨rit.stop ρ2 H' h2 e2 hH2 c, q _ _ _ .refl hH2 hE2⟩
theorem s_while {fuel : Nat} (hp : PassesOwn (model X.prog X.w) X.A X.env X.xe) (hc : T' X cls ts W c Ta) (hb : Ss' X cls ts W body B) : S' X cls ts W (.While c body [] pos) (sWhile fuel Ta B) := by
  refine ⟨fun pins s σ H E I ⟨ρ, ε, h, hH, hE, p⟩ => (ps_while hp hc hb).run pins s σ H E I ?_⟩
  refine ⟨fun m σ' H' => ∃ ρ2 ε2 h2, RH X.K cls ts ρ2 H' h2 ∧ RE X.K ρ2 H' σ' ε2 ∧ PostS X.K cls ts W ρ2 H' (whileGo Ta B m ε2 h2) E, ⟨fuel, ρ, ε, h, hH, hE, p⟩, ?_⟩
  rintro m σ' H' ⟨ρ2, ε2, h2, hH2, hE2, q⟩
  cases m with
  | zero => exact q.elim
  | succ m =>
    simp only [whileGo] at q
    refine tS_bind hH2 hE2 q fun ρ3 H3 b h3 b' _ e3 hH3 rb hE3 q3 => ?_
    cases rb
    cases b with
    | false => exact iteF (q3 _ _ _ .refl hH3 hE3)
    | true =>
      rw [if_pos rfl] at q3
      refine iteT ⟨fun σ4 H4 => ∃ ρ4 ε4 h4, RH X.K cls ts ρ4 H4 h4 ∧ RE X.K ρ4 H4 σ4 ε4 ∧ PostS X.K cls ts W ρ4 H4 (whileGo Ta B m ε4 h4) E, fun σ4 H4 z => ⟨m, Nat.lt_succ_self _, z⟩, ρ3, ε2, h3, hH3, hE3, ?_⟩
      cases z : B ε2 h3 with
      | nx ε5 h5 =>
        rw [z] at q3
        exact fun ρ' H5 σ5 e5 hH5 hE5 => ⟨ρ', ε5, h5, hH5, hE5, q3.ext e5⟩
      | cnt ε5 h5 =>
        rw [z] at q3
        exact fun ρ' H5 σ5 e5 hH5 hE5 => ⟨ρ', ε5, h5, hH5, hE5, q3.ext e5⟩
      | _ =>
        rw [z] at q3
        exact q3
theorem s_setLc {i : Nat} {y : Str} {py : Pos} {elt tg iter : Expr} {ifs : List Expr} {scope : Scope} {own : List (Str × Nat)} {pos spos : Pos} {iF : IF} {g : TF'} {t : TF} {F : EF} {sl : List Nat}
    (hc : X.calm = true) (hN : X.N.Nodup) (hy : X.N[i]? = some y) (hyl : X.env.scope.names.lookup y = some .local)
    (hsw : swapsWith (.ListComp elt [⟨tg, iter, ifs, 0⟩] scope pos) (some (.Name y py)) spos.line X.env = pure true) (hi : I' X cls ts W tg iter iF) (ok : BlkOk X.N X.env.scope scope own) (hsl : ∀ i ∈ sl, i ∈ own.map (·.2))
    (hg : ∀ (s : Shared) (H : Hp) (C : Addr) (cl : List (Str × Addr)) (fp : List Addr), G' (X.blk s H scope (compEnvC scope cl C X.env) fp) cls ts tg sl g)
    (ht : ∀ (s : Shared) (H : Hp) (C : Addr) (cl : List (Str × Addr)) (fp : List Addr), Ts' (X.blk s H scope (compEnvC scope cl C X.env) fp) cls ts W0 ifs t)
    (he : ∀ (s : Shared) (H : Hp) (C : Addr) (cl : List (Str × Addr)) (fp : List Addr), E' (X.blk s H scope (compEnvC scope cl C X.env) fp) cls ts W0 elt F) (hs : ∀ x, foldedSetIterable iter X.env x = pure x := by intro _; rfl) :
    S' X cls ts W (.Assign [.Name y py] (.ListComp elt [⟨tg, iter, ifs, 0⟩] scope pos) spos) (sSet i (cComp iF g t F (own.map (·.2)))) := by
  refine ⟨fun pins s σ H E I ⟨ρ, ε, h, hH, hE, p⟩ => (ps_setLc (g := tTg X.K cls ts sl g) (tt := tT X.K cls ts W0 t) (te := tE X.K cls ts W0 F) hc hN hy hyl hsw hi ok hg ht he hs).run pins s σ H E I ?_⟩
  show tLc _ _ _ _ _ σ H (fun x H1 => gName i x σ H1 E.nx)
  refine comp_ok hsl (tS_bind hH hE p fun ρ1 H1 x h1 dx _ e1 hH1 rx hE1 p1 => ?_)
  split at p1 <;> first | exact p1.elim | skip
  exact p1 _ _ _ .refl hH1 (hE1.set rx)
end
end Mi

namespace Mi
open L2 PySem PySem.Spec PyProof.Rows

/-! ### defs -/
/-- what a def does with its arguments -/
abbrev FN := List D → AH → Res D
def cFn (c : FN) (A : AF) : EF := fun ε h => (A ε h).bind c
def cFnK (c : FN) (g : List D → List D → List D) (A B : AF) : EF := fun ε h => (A ε h).bind fun ds h1 => (B ε h1).bind fun es h2 => c (g ds es) h2
/-- a def, run where no guard is on -/
structure FnG (P : Program) (w : World) (K : PySem.W.Frag) (mg : Str → Option Value) (base : Heap) (cls ts : List Addr) (k : Nat) (f : Addr) (fd : FuncData) (ps : List Str) (c : FN) : Prop where
  len : ∀ ds h, c ds h ≠ .stuck → ds.length = ps.length
  run : ∀ (A : Around) (outer : List Env) (s : Shared) (H : Hp) (args : Args) (us : List Value) (vs : List V) (Q : VK) (E : XK), A.guards = some [] → Room k A → Env0 P w K mg base A outer s H → BindsTo s fd args (ps.zip us) → Vals vs us →
    (∃ ρ h ds, RH K cls ts ρ H h ∧ RVs K ρ H vs ds ∧ Post K cls ts (relD K) E ρ H (c ds h) Q) → codeAny (model P w) A (.call (.ref f) args) (CR (L2.CX P w) outer P w H s Q E) s
theorem Post.not_stuck {α β : Type} {K : PySem.W.Frag} {cls ts ρ : List Addr} {H : Hp} {rel : List Addr → Hp → β → α → Prop} {W : XK} {r : Res α} {Q : β → Hp → Prop} (p : Post K cls ts rel W ρ H r Q) : r ≠ .stuck := fun e => by
  rw [e] at p
  exact p
/-- what nothing is known of -/
theorem FnG.zero {P : Program} {w : World} {K : PySem.W.Frag} {mg : Str → Option Value} {base : Heap} {cls ts : List Addr} {k : Nat} {f : Addr} {fd : FuncData} {ps : List Str} : FnG P w K mg base cls ts k f fd ps (fun _ _ => .stuck) :=
  ⟨fun _ _ h => absurd rfl h, fun _ _ _ _ _ _ _ _ _ _ _ _ _ _ ⟨_, _, _, _, _, p⟩ => p.elim⟩
theorem FnG.mono {P : Program} {w : World} {K : PySem.W.Frag} {mg : Str → Option Value} {base : Heap} {cls ts : List Addr} {j k : Nat} {f : Addr} {fd : FuncData} {ps : List Str} {c : FN} (F : FnG P w K mg base cls ts j f fd ps c) (h : j ≤ k) : FnG P w K mg base cls ts k f fd ps c :=
  ⟨F.len, fun A outer s H args us vs Q E hg hr => F.run A outer s H args us vs Q E hg (hr.mono h)⟩

section
variable {X : Cx} {W : WX} {cls ts : List Addr} {k : Nat} {f : Addr} {fd : FuncData} {ps ks : List Str} {c : FN} {x : Str} {p pos : Pos} {e : Expr} {es : List Expr} {kws : List Keyword} {A B : AF}
theorem run_g {pins : List (Addr × Obj)} {s : Shared} {σ : L2.St} {H : Hp} {Q : VK} {us : List Value} {kw : List (Str × Value)} {zs : List Value} {vs : List V} {ρ : List Addr} {h : AH} {ds : List D} (F : FnG X.prog X.w X.K X.mg X.base cls ts k f fd ps c) (hg : X.A.guards = some []) (hr : Room k X.A) (tk : Takes X W)
    (hb : zs.length = ps.length → BindsTo s fd ⟨us, kw⟩ (ps.zip zs)) (I : Inv X pins σ H s) (r : Vals vs zs) (hH : RH X.K cls ts ρ H h) (rv : RVs X.K ρ H vs ds) (q : Post X.K cls ts (relD X.K) (fun c dd H' => W c dd σ H') ρ H (c ds h) Q) :
    wpAny (model X.prog X.w) X.A (call (.ref f) us kw) (EP X pins σ Q) X.xe s := by
  have hl : zs.length = ps.length := by rw [← r.length, rv.length]; exact F.len _ _ q.not_stuck
  refine wpAny_call (codeAny_mono (F.run X.A X.stack s H ⟨us, kw⟩ zs vs Q (fun c dd H' => W c dd σ H') hg hr I.env0 (hb hl) r ⟨ρ, h, ds, hH, rv, q⟩) fun o s' z => ?_)
  cases o with
  | error u => exact tk u s' (XE.of_call I (fun _ _ _ y => y) z)
  | ok fl => cases fl <;> first | exact I.after z | exact z.elim
/-- the arguments are there, what is behind is wanted -/
def Rdy (K : PySem.W.Frag) (cls ts : List Addr) (c : FN) (W : XK) (Q : VK) (vs : List V) (H : Hp) : Prop := ∃ ρ h ds, RH K cls ts ρ H h ∧ RVs K ρ H vs ds ∧ Post K cls ts (relD K) W ρ H (c ds h) Q
/-- f(e, ..) -/
theorem e_call (F : FnG X.prog X.w X.K X.mg X.base cls ts k f fd ps c) (hgu : X.A.guards = some []) (hr : Room k X.A) (tk : Takes X W) (hg : Gl X x) (hm : X.mg x = some (.ref f)) (hk : PySem.W.keepIn X.K (.ref f) = true) (hb : Binds X.K fd ps [])
    (ha : A' X cls ts W (e :: es) A) (hdb : (x == ("__debug__" : Str)) = false := by decide) (he : starEach (e :: es) X.env = (false, eval e X.env) :: starEach es X.env := by rfl) (hpl : (backTo pos (starEach es X.env)).any (·.1) = false := by rfl) :
    E' X cls ts W (.Call (.Name x p) (e :: es) [] pos) (cFn c A) := by
  refine ⟨fun pins s σ H Q I ⟨ρ, ε, h, hH, hE, q⟩ => ?_⟩
  have q1 : tA X.K cls ts W A σ H (Rdy X.K cls ts c (fun u dd H' => W u dd σ H') Q) := tG_bind hH hE q fun ρ1 H1 vs h1 ds _ e1 hH1 rv hE1 p1 => ⟨ρ1, h1, ds, hH1, rv, p1⟩
  refine wpAny_Call_Name_kw (ld_glob I hg hm ?go hdb)
  refine PySem.W.callWith_K (h₀ := X.base) I.ok.mod.kin hk (thn (ha.run pos pins s σ H _ I q1) fun us s1 ⟨vs, H1, I1, r, ρ1, h1, ds, hH1, rv, p1⟩ => ⟨I1.kIn, ?_⟩) he hpl
  exact run_g F hgu hr tk (fun hl => by have z := hb s1 us I1.kIn (by rw [List.append_nil]; exact hl); rw [List.append_nil] at z; exact z) I1 r hH1 rv p1
/-- f() -/
theorem e_call0 (F : FnG X.prog X.w X.K X.mg X.base cls ts k f fd ps c) (hgu : X.A.guards = some []) (hr : Room k X.A) (tk : Takes X W) (hg : Gl X x) (hm : X.mg x = some (.ref f)) (hk : PySem.W.keepIn X.K (.ref f) = true) (hb : Binds X.K fd ps [])
    (hdb : (x == ("__debug__" : Str)) = false := by decide) : E' X cls ts W (.Call (.Name x p) [] [] pos) (cFn c aNil) := by
  refine ⟨fun pins s σ H Q I ⟨ρ, ε, h, hH, hE, q⟩ => ?_⟩
  refine wpAny_Call_Name_kw (ld_glob I hg hm ?go hdb)
  exact PySem.W.callWith_K0 I.kIn hk (run_g (us := []) (zs := []) F hgu hr tk (fun hl => hb s [] I.kIn hl) I .nil hH .nil q)
/-- f(k = e, ..) and f(e, .., k = e) -/
theorem e_callK {g : List Value → List Value → List Value} {gV : List V → List V → List V} {gD : List D → List D → List D} {tk : TA} (F : FnG X.prog X.w X.K X.mg X.base cls ts k f fd ps c) (hgu : X.A.guards = some []) (hr : Room k X.A) (tx : Takes X W) (hg : Gl X x) (hm : X.mg x = some (.ref f))
    (hk : PySem.W.keepIn X.K (.ref f) = true) (hb : KBinds X.K fd ps ks g gV) (hgD : ∀ (ρ : List Addr) (H : Hp) (vs zs : List V) (ds es : List D), RVs X.K ρ H vs ds → RVs X.K ρ H zs es → RVs X.K ρ H (gV vs zs) (gD ds es))
    (ha : A' X cls ts W (e :: es) A) (hkw : PK X kws (tA X.K cls ts W B)) (hall : (backToKw pos (keywordEach kws X.env)).all (·.1.isSome) = true := by rfl) (hks : (backToKw pos (keywordEach kws X.env)).filterMap (·.1) = ks := by rfl)
    (hdb : (x == ("__debug__" : Str)) = false := by decide) (he : starEach (e :: es) X.env = (false, eval e X.env) :: starEach es X.env := by rfl) (hpl : ((backTo pos (starEach (e :: es) X.env)).any (·.1) || (backToKw pos (keywordEach kws X.env)).any (·.1.isNone)) = false := by rfl) :
    E' X cls ts W (.Call (.Name x p) (e :: es) kws pos) (cFnK c gD A B) := by
  refine ⟨fun pins s σ H Q I ⟨ρ, ε, h, hH, hE, q⟩ => ?_⟩
  have q1 : tA X.K cls ts W A σ H fun vs H1 => tA X.K cls ts W B σ H1 fun zs H2 => Rdy X.K cls ts c (fun u dd H' => W u dd σ H') Q (gV vs zs) H2 := tG_bind hH hE q fun ρ1 H1 vs h1 ds _ e1 hH1 rv hE1 p1 =>
    tG_bind hH1 hE1 p1 fun ρ2 H2 zs h2 es _ e2 hH2 rz hE2 p2 => ⟨ρ2, h2, gD ds es, hH2, hgD _ _ _ _ _ _ (rv.mono e2) rz, p2⟩
  refine wpAny_Call_Name_kw (ld_glob I hg hm ?go hdb)
  refine PySem.W.callWith_KW (h₀ := X.base) I.ok.mod.kin hk hall (thn (ha.run pos pins s σ H _ I q1) fun us s1 ⟨vs, H1, I1, r, y⟩ => ?_) hpl he
  refine thn (hkw.run pos pins s1 σ H1 _ I1 y) fun ws s2 ⟨zs, H2, I2, rz, ρ2, h2, ds, hH2, rv, p2⟩ => ⟨I2.kIn, ?_⟩
  rw [hks]
  exact run_g F hgu hr tx (fun hl => hb.to s2 us ws I2.kIn hl) I2 (hb.rel r rz) hH2 rv p2
theorem k_nil : PK X [] (tA X.K cls ts W aNil) := ⟨fun pos pins s σ H Q I ⟨ρ, ε, h, hH, hE, q⟩ => (pk_nil (X := X)).run pos pins s σ H Q I (q _ _ _ .refl hH .nil)⟩
theorem k_cons {nm : Option Str} {kpos : Pos} {F : EF} (ha : E' X cls ts W e F) (hr : PK X kws (tA X.K cls ts W A)) : PK X (⟨nm, e, kpos⟩ :: kws) (tA X.K cls ts W (aCons F A)) :=
  ⟨fun pos pins s σ H Q I ⟨ρ, ε, h, hH, hE, q⟩ => (pk_cons ha hr).run pos pins s σ H Q I (tG_bind hH hE q fun ρ1 H1 x h1 dx _ e1 hH1 rx hE1 p1 => tG_bind hH1 hE1 p1 fun ρ2 H2 y h2 dy _ e2 hH2 ry hE2 p2 => p2 _ _ _ .refl hH2 (.cons (rx.mono e2) ry))⟩
end

/-- a def's body, run at its arguments -/
def runB (np nN : Nat) (B : SF) : FN := fun ds h => if ds.length = np then match B (ds.map some ++ List.replicate (nN - np) none) h with
    | .nx _ h' => .ok .non h'
    | .ret d h' => .ok d h'
    | .exc x _ h' => .exc x h'
    | _ => .stuck
  else .stuck
theorem RE.start {K : PySem.W.Frag} {ρ : List Addr} {H : Hp} {N : List Str} {vs : List V} {ds : List D} {np : Nat} (r : RVs K ρ H vs ds) (hn : ds.length = np) : RE K ρ H (L2.start N vs) (ds.map some ++ List.replicate (N.length - np) none) := by
  subst hn
  unfold L2.start
  refine ⟨by rw [List.length_append, List.length_append, List.length_map, List.length_map, List.length_replicate, List.length_replicate, r.length], fun i d q => ?_⟩
  by_cases hi : i < ds.length
  · rw [List.getElem?_append_left (by rw [List.length_map]; exact hi), List.getElem?_map] at q
    cases z : ds[i]? with
    | none => rw [z] at q; cases q
    | some d' =>
      rw [z] at q
      cases q
      obtain ⟨v, e, rv⟩ := r.get z
      refine ⟨v, ?_, rv⟩
      rw [List.getElem?_append_left (by rw [List.length_map, r.length]; exact hi), List.getElem?_map, e]
      rfl
  · rw [List.getElem?_append_right (by rw [List.length_map]; omega), List.getElem?_replicate] at q
    split at q <;> cases q
/-- a def by its body -/
theorem FnG.of {P : Program} {w : World} {K : PySem.W.Frag} {mg : Str → Option Value} {base : Heap} {cls ts : List Addr} {k : Nat} {f : Addr} {name qual : Str} {params : Arguments} {body : List Stmt} {scope : Scope} {dV kV doc pm cdv ct oc : Value} {an od : Option Addr}
    {osl : Array (Option Value)} {N ps : List Str} {B : SF} (lk : K.lookup f = some ⟨oc, od, .func (PySem.W.fnOf name qual params body scope dV kV doc pm an cdv ct), osl⟩) (hcd : PySem.W.codeIn K cdv qual = true) (S : FnScope N ps scope)
    (hbody : ∀ (A : Around) (outer : List Env) (s : Shared) (H : Hp) (E : XK), (A.deeper (envOfC qual scope s.heap.objs.size f cdv)).guards = some [] → Room k (A.deeper (envOfC qual scope s.heap.objs.size f cdv)) →
      Takes (cxOf (L2.CX P w) P w K mg base N qual scope f cdv A outer s H E) (fun c d _ H => E c d H) → Ss' (cxOf (L2.CX P w) P w K mg base N qual scope f cdv A outer s H E) cls ts (fun c d _ H => E c d H) body B) :
    FnG P w K mg base cls ts (k + 1) f (PySem.W.fnOf name qual params body scope dV kV doc pm an cdv ct) ps (runB ps.length N.length B) := by
  refine ⟨fun ds h q => ?_, fun A outer s H args us vs Q E hg hr e0 hb r ⟨ρ, h, ds, hH, rv, p⟩ => ?_⟩
  · unfold runB at q
    split at q
    · rename_i e
      exact e
    · exact absurd rfl q
  · unfold runB at p
    split at p
    · rename_i hl
      have bk : ∀ b o, base.get? b = some o → s.heap.get? b = some o := fun b o e => (e0.bs b o e).1
      have KX := e0.mod.kin.keeps bk
      have hkind : ∀ y ∈ ps.zip us, scope.names.lookup y.1 = some .local ∨ (scope.names.lookup y.1 = some .cell ∧ ((cellsFrom (s.heap.objs.size + 1) scope.names []).lookup y.1).isSome = true) := by
        rintro ⟨n, v⟩ hy
        exact (S.par n (List.of_mem_zip hy).1).imp id fun q => ⟨q, PySem.W.cellsFrom_some _ _ _ (.inl q)⟩
      refine codeAny_call_function hr.depth (KX _ _ lk) rfl S.co S.gen rfl (PySem.W.codeRec_of KX hcd) (hb _ _ _ _ (wpAny_newFunctionEnv_cells S.kind hkind fun _ he s1 x => ?_))
      cases he
      refine ⟨(e0.mod.nolimit.keeps bk).keeps x.toInCall.keep, codeAny_func ?_⟩
      have I := inv_start (CX := L2.CX P w) (E := E) (N := N) (qual := qual) (cd := cdv) S hr.hd e0 (by rw [rv.length]; exact hl) r x
      have tk : Takes (cxOf (L2.CX P w) P w K mg base N qual scope f cdv A outer s H E) (fun c d _ H => E c d H) := takes_of rfl rfl rfl rfl
      have q : tS K cls ts (fun c d _ H => E c d H) B { nx := fun _ H' => Q .non H', rt := Q } (L2.start N vs) H := by
        refine ⟨ρ, _, h, hH, RE.start rv hl, ?_⟩
        cases z : B (ds.map some ++ List.replicate (N.length - ps.length) none) h with
        | nx ε h' =>
          rw [z] at p
          exact fun ρ' H' σ' e1 hH1 _ => p ρ' H' .non e1 hH1 .non
        | ret d h' =>
          rw [z] at p
          exact p
        | exc y ε h' =>
          rw [z] at p
          exact fun ρ' H' σ' c dd e1 hH1 _ rx => p ρ' H' c dd e1 hH1 rx
        | _ =>
          rw [z] at p
          exact p.elim
      refine wpAny_mono ((hbody A outer s H E hg (hr.deeper _) tk).run [] s1 _ H _ I q) (fun fl s' hs => ?_) fun u s' hs => hs
      have fin : ∀ {σ' : L2.St} {H' : Hp} {v : V} {u : Value}, Inv (cxOf (L2.CX P w) P w K mg base N qual scope f cdv A outer s H E) [] σ' H' s' → RelV v u → Q v H' → CE outer P w H s Q u s' :=
        fun {_ H' v _} J rv q => ⟨v, H', J.os, J.bare, J.base, J.hok, rv, q⟩
      cases fl with
      | ret u =>
        obtain ⟨v, σ2, H2, J, r2, q⟩ := hs
        exact fin J r2 q
      | next =>
        obtain ⟨σ', H', J, q⟩ := hs
        exact fin (u := Value.none) (v := .non) J rfl q
      | brk =>
        obtain ⟨_, _, _, q⟩ := hs
        exact q.elim
      | cont =>
        obtain ⟨_, _, _, q⟩ := hs
        exact q.elim
    · exact p.elim
end Mi

namespace Mi
open L2 PySem PySem.Spec PyProof.Rows

/-! ### all(a <= x <= b for x in text) -/
theorem elt_between {prog : Program} {w : World} {scope : Scope} {x a b : Str} {ja jb : Nat} {p1 p2 p3 p4 : Pos} (hk : scope.kind = .function) (hl : scope.names.lookup x = some .local) (hd : (x == ("__debug__" : Str)) = false := by decide)
    (hm : lastMarks [.LtE, .LtE] [.Name x p1, .Constant (.str b) jb p2] = false := by with_unfolding_all rfl) :
    GxR.EltP prog w scope x (.Compare (.Constant (.str a) ja p3) [.LtE, .LtE] [.Name x p1, .Constant (.str b) jb p2] p4) (fun c => !decide ([c] < a.cps.toList) && !decide (b.cps.toList < [c])) := by
  intro cenv A' E' c t s₂ m₂ hs hn hx
  refine Compare_chain (Calls.Constant_str ?_) hm
  refine chain_link (wpAny_Name (wpAny_loadName_local (by rw [hs]; exact hk) (show cenv.scope.names.lookup x = some .local by rw [hs]; exact hl) (hn.keeps fun _ _ e => e) hx ?_) hd)
  refine PySem.P.le_str (wpAny_truthy_bool ?_)
  show if (!decide (([c] : List Nat) < a.cps.toList)) = true then _ else _
  cases q : decide (([c] : List Nat) < a.cps.toList) with
  | true => exact ite_ff ⟨by show Value.bool (!true) = Value.bool (!decide (([c] : List Nat) < a.cps.toList) && _); rw [q]; rfl, GxR.keeps_tok _ _⟩
  | false =>
    refine ite_tt (chain_last (Calls.Constant_str (PySem.P.le_str ⟨?_, GxR.keeps_tok _ _⟩)))
    show Value.bool (!decide (b.cps.toList < ([c] : List Nat))) = Value.bool (!decide (([c] : List Nat) < a.cps.toList) && _)
    rw [q]
    rfl

/-! ### all(test for x in text) -/
def cAllS (pb : Nat → Bool) (F : EF) : EF := fun ε h => (F ε h).bind fun d h1 => match d with
  | .str a => .ok (.bl (a.cps.toList.all pb)) h1
  | _ => .stuck
section
variable {X : Cx} {W : WX} {cls ts ρ : List Addr} {K : PySem.W.Frag} {H H' : Hp} {h : AH} {P : Addr}
/-- a table has grown -/
theorem tabbed_ext (r : RH K cls ts ρ H h) (hP : P ∈ ts) (t : GxR.Tabbed P H H') : Ext ts ρ ρ H H' ∧ RH K cls ts ρ H' h := by
  obtain ⟨n0, ps, hp, _⟩ := r.tab P hP
  have e : Ext ts ρ ρ H H' := by
    refine ⟨List.prefix_refl _, fun _ h n => absurd h n, fun a o e _ n => ?_, fun a xs e => ?_, fun a o u e => ?_, fun a e => ?_⟩
    · rw [t.2 a fun z => n (by rw [z]; exact hP)]; exact e
    · rw [t.2 a fun z => by rw [z, hp] at e; cases e]; exact e
    · rw [t.2 a fun z => by rw [z, hp] at e; cases e]; exact e
    · by_cases z : a = P
      · obtain ⟨qs, y, _⟩ := t.1
        rw [z, y] at e
        cases e
      · rw [t.2 a z] at e
        exact e
  refine ⟨e, r.len, r.nd, fun n a o q1 q2 => (r.obj n a o q1 q2).mono e fun u y => ?_, fun Z hZ => ⟨(r.tab Z hZ).1, ?_⟩, r.sm.1, ?_⟩
  · rw [t.2 a fun z => n0 (by rw [← z]; exact List.mem_of_getElem? q1)]; exact y
  · by_cases z : Z = P
    · rw [z]; exact t.1
    · obtain ⟨_, qs, y, k⟩ := r.tab Z hZ
      exact ⟨qs, by rw [t.2 Z z]; exact y, k⟩
  · obtain ⟨_, φ, y⟩ := r.sm
    exact ⟨φ, by rw [t.2 _ fun z => by rw [z, hp] at y; cases y]; exact y⟩
theorem e_allS {c : Addr} {elt iter : Expr} {x : Str} {px p pos gpos : Pos} {scope : Scope} {pb : Nat → Bool} {F : EF} {k : Nat} (hr : Room k X.A) (hg : Gl X "all") (hm : X.mg "all" = none) (TB : GxR.TabB X.base X.mg c P) (hcode : X.env.code = .ref c) (hP : P ∈ ts)
    (S : GxR.GenS X.env scope x) (hi : E' X cls ts W iter F) (hel : GxR.EltP X.prog X.w scope x elt pb) (hs : ∀ v, genFold iter X.env v = pure v)
    (he : starEach [.GeneratorExp elt [⟨.Name x px, iter, [], 0⟩] scope gpos] X.env = (false, eval (.GeneratorExp elt [⟨.Name x px, iter, [], 0⟩] scope gpos) X.env) :: starEach [] X.env := by rfl) : E' X cls ts W (.Call (.Name "all" p) [.GeneratorExp elt [⟨.Name x px, iter, [], 0⟩] scope gpos] [] pos) (cAllS pb F) := by
  refine ⟨fun pins s σ H Q I ⟨ρ, ε, h, hH, hE, q⟩ => (GxR.pe_allS hr hg hm (by with_unfolding_all rfl) TB hcode S hi hel hs he).run pins s σ H Q I (tG_bind hH hE q fun ρ1 H1 v h1 d _ e1 hH1 rv hE1 p1 => ?_)⟩
  cases rv <;> first | exact p1.elim | skip
  rename_i _ a
  obtain ⟨_, hT⟩ := hH1.tab P hP
  refine ⟨_, rfl, hT, fun H2 t => ?_⟩
  obtain ⟨e2, hH2⟩ := tabbed_ext hH1 hP t
  exact p1 _ _ _ e2 hH2 (.bl _)
end
end Mi

namespace Mi
open L2 PySem PySem.Spec PyProof.Rows

/-! ### the end of a law: its def runs at the script -/
theorem RVs.ints {K : PySem.W.Frag} {ρ : List Addr} {H : Hp} : ∀ ns : List Int, RVs K ρ H (ns.map V.int) (ns.map D.int)
  | [] => .nil
  | n :: ns => .cons (.int n) (RVs.ints ns)
def tblO (ps : Array Value) : Obj := { cls := .none, data := .fields ps }
def lstO (vs : List Value) : Obj := { cls := .type "list", data := .seq vs.toArray }
section
variable {P : Program} {w : World} {K : PySem.W.Frag} {mg mb : Str → Option Value} {k : Nat} {fa a : Addr} {cls : List Addr} {cs : List (Addr × Addr)} {fd : FuncData} {x : Str} {c : FN} {s₁ : Shared} {vs : List Value} {ns : List Int}
/-- sys.modules stands as it is -/
def smO (o : Obj) : HO := .ext fun h => h.get? sysModules = some o
/-- what is tracked: the tables, and the script where the text doesn't hold it -/
def scrH (K : PySem.W.Frag) (T : List Addr) (o : Obj) (a : Addr) (vs : List Value) (ns : List Int) : Hp := fun b =>
  if b = sysModules then some (smO o) else if b ∈ T then some (.tbl #[]) else if b = a ∧ (K.lookup a).isNone = true then some (.frz (lstO vs) (.lst (ns.map V.int))) else none
theorem scrH_or {T : List Addr} {b : Addr} {o : Obj} {u : HO} (h : scrH K T o a vs ns b = some u) : (b ∈ T ∧ u = .tbl #[]) ∨ (b = a ∧ K.lookup a = none ∧ u = .frz (lstO vs) (.lst (ns.map V.int))) ∨ (b = sysModules ∧ u = smO o) := by
  unfold scrH at h
  split at h
  · rename_i m
    cases h
    exact .inr (.inr ⟨m, rfl⟩)
  split at h
  · rename_i m
    cases h
    exact .inl ⟨m, rfl⟩
  · split at h
    · rename_i m
      cases h
      exact .inr (.inl ⟨m.1, Option.isNone_iff_eq_none.mp m.2, rfl⟩)
    · cases h
theorem law_callG (KX : K.In s₁.heap) (hns : s₁.heap.Ns mainGlobals mg) (hb : s₁.heap.Ns builtinsNs mb) (hbb : ∀ x : Str, x ≠ "__name__" → mb x = bootBuiltins x) (hlim : s₁.heap.NoLimit) (hg : s₁.gens = #[]) (hsm : ∃ mm, s₁.heap.Ns sysModules mm) (nsm : K.lookup sysModules = none)
    (hT : ∀ p ∈ cs, s₁.heap.get? p.2 = some (tblO #[])) (nT : ∀ p ∈ cs, K.lookup p.2 = none) (C : ∀ p ∈ cs, PySem.W.CodeHd s₁.heap p.1 p.2)
    (hbm : ∃ (bm : Addr) (ob : Obj), mg "__builtins__" = some (.ref bm) ∧ bm ≠ builtinsNs ∧ s₁.heap.get? bm = some ob ∧ ob.cls = .type "module" ∧ ob.dict = some builtinsNs ∧ ob.data = .plain) (ha : s₁.heap.get? a = some (lstO vs)) (hi : IntsAre vs ns) (hl : ns.length ≤ sizeLine) (hr : Room k callerA)
    (F : ∀ base : Heap, K.In base → base.Ns mainGlobals mg → (∀ p ∈ cs, GxR.TabB base mg p.1 p.2) → FnG P w K mg base cls (cs.map (·.2)) k fa fd [x] c) (hbind : ∀ (s : Shared) (u : Value), BindsTo s fd ⟨[u], []⟩ [(x, u)])
    (hc : ∃ h', c [.rol (ns.map D.int)] [] = .ok (.bl true) h') : codeAny (model P w) callerA (.call (.ref fa) ⟨[.ref a], []⟩) (fun r s' => r = .ok (.ret (.bool true)) ∧ OldK s₁.heap s'.heap ∧ s'.os = s₁.os ∧ AllBare s'.gens) s₁ := by
  obtain ⟨mm, om, esm, epm, gm, dm, rm⟩ := hsm
  obtain ⟨H, eH⟩ : ∃ H, H = scrH K (cs.map (·.2)) om a vs ns := ⟨_, rfl⟩
  have or : ∀ {b u}, H b = some u → (b ∈ cs.map (·.2) ∧ u = .tbl #[]) ∨ (b = a ∧ K.lookup a = none ∧ u = .frz (lstO vs) (.lst (ns.map V.int))) ∨ (b = sysModules ∧ u = smO om) := fun h => by rw [eH] at h; exact scrH_or h
  have ofT : ∀ {b}, b ∈ cs.map (·.2) → ∃ p ∈ cs, b = p.2 := fun h => by
    obtain ⟨z, hz, e⟩ := List.mem_map.mp h
    exact ⟨z, hz, e.symm⟩
  have tS : ∀ p ∈ cs, p.2 ≠ sysModules := fun p hp z => by
    have y := hT p hp
    rw [z, gm] at y
    cases y
    cases dm
  have aS : a ≠ sysModules := fun z => by
    rw [z, gm] at ha
    cases ha
    cases dm
  have atT : ∀ p ∈ cs, H p.2 = some (.tbl #[]) := fun p hp => by
    rw [eH]
    unfold scrH
    rw [if_neg (tS p hp)]
    exact if_pos (List.mem_map.mpr ⟨p, hp, rfl⟩)
  have atS : H sysModules = some (smO om) := by
    rw [eH]
    exact if_pos rfl
  -- what is neither a list nor an empty table is not tracked
  have off : ∀ {b o}, s₁.heap.get? b = some o → (∀ us n, o.data ≠ .seq us n) → o.data ≠ .fields #[] → b ≠ sysModules → H b = none := fun {b o} e n1 n2 n3 => by
    cases q : H b with
    | none => rfl
    | some u =>
      rcases or q with ⟨m, _⟩ | ⟨m, _, _⟩ | ⟨m, _⟩
      rotate_left 2
      · exact absurd m n3
      · obtain ⟨p, hp, rfl⟩ := ofT m
        rw [hT p hp] at e
        cases e
        exact absurd rfl n2
      · rw [m, ha] at e
        cases e
        exact absurd rfl (n1 _ _)
  have offD : ∀ {b o es ep}, b ≠ sysModules → s₁.heap.get? b = some o → o.data = .dict es ep → H b = none := fun n e d => off e (fun _ _ z => by rw [d] at z; cases z) (fun z => by rw [d] at z; cases z) n
  have nsK : ∀ {b m}, b ≠ sysModules → s₁.heap.Ns b m → (hidT s₁.heap H).Ns b m := fun n ⟨o, es, ep, e, d, r⟩ => ⟨o, es, ep, hidT_get e (offD n e d), d, r⟩
  have nG : mainGlobals ≠ sysModules := by decide
  have nB : builtinsNs ≠ sysModules := by decide
  have nC : cStatics ≠ sysModules := by decide
  have hK : K.In (hidT s₁.heap H) := fun b o e => hidT_get (KX b o e) (by
    cases q : H b with
    | none => rfl
    | some u =>
      rcases or q with ⟨m, _⟩ | ⟨m, n, _⟩ | ⟨m, _⟩
      · obtain ⟨p, hp, rfl⟩ := ofT m
        rw [nT p hp] at e
        cases e
      · rw [m, n] at e
        cases e
      · rw [m, nsm] at e
        cases e)
  have hM : L2.Mod K mg (hidT s₁.heap H) := ⟨hK, nsK nG hns, ⟨mb, nsK nB hb, hbb⟩, by
    obtain ⟨mc, h1, h2⟩ := hlim
    exact ⟨mc, nsK nC h1, h2⟩⟩
  have TB : ∀ p ∈ cs, GxR.TabB (hidT s₁.heap H) mg p.1 p.2 := fun p hp => by
    refine ⟨?_, ?_, fun z => ?_⟩
    · obtain ⟨o, us, file, tf, flags, tg, inF, text, tt, e1, r1, r2, r3, rr⟩ := C p hp
      refine ⟨o, us, file, tf, flags, tg, inF, text, tt, hidT_get e1 (off e1 (fun _ _ z => by rw [r2] at z; cases z) (fun z => ?_) fun z => ?_), r1, r2, r3, rr⟩
      · rw [r2] at z
        cases z
        exact absurd r3 (by simp)
      · rw [z, gm] at e1
        cases e1
        rw [dm] at r2
        cases r2
    · obtain ⟨a1, ob, b1, b2, b3, b4, b5, b6⟩ := hbm
      refine ⟨a1, ob, b1, b2, fun q => ?_, fun q => ?_, hidT_get b3 (off b3 (fun _ _ z => by rw [b6] at z; cases z) (fun z => by rw [b6] at z; cases z) fun z => by rw [z, gm] at b3; cases b3; rw [dm] at b6; cases b6), b4, b5, b6⟩
      · obtain ⟨ou, es, ep, e, hd, _⟩ := hns
        rw [← q, b3] at e
        cases e
        rw [b6] at hd
        cases hd
      · rw [q, hT p hp] at b3
        cases b3
        cases b6
    · obtain ⟨ou, es, ep, e, hd, _⟩ := hns
      rw [z, hT p hp] at e
      cases e
      cases hd
  have rv := vals_ints hi
  have hok : HOk P w H s₁.heap := fun b u z => by
    rcases or z with ⟨m, rfl⟩ | ⟨rfl, _, rfl⟩ | ⟨rfl, rfl⟩
    rotate_left 2
    · exact ⟨gm, ⟨_, gm⟩, fun h1 h2 e k => k _ e⟩
    · obtain ⟨p, hp, rfl⟩ := ofT m
      exact hT p hp
    · exact ⟨ha, by rw [List.length_map]; exact hl, vs, 0, rv, ha⟩
  have hS : SqR K H a (ns.map V.int) := by
    cases q : K.lookup a with
    | some o =>
      have e := KX a o q
      rw [ha] at e
      cases e
      exact .inr ⟨_, vs.toArray, 0, q, rfl, rfl, rfl, by rw [List.size_toArray, hi.length]; exact hl, by simpa using rv⟩
    | none =>
      refine .inl ⟨lstO vs, ?_⟩
      rw [eH]
      unfold scrH
      rw [if_neg aS, if_neg, if_pos ⟨rfl, by rw [q]; rfl⟩]
      intro m
      obtain ⟨p, hp, e⟩ := ofT m
      have := hT p hp
      rw [← e, ha] at this
      cases this
  have e0 : Env0 P w K mg (hidT s₁.heap H) callerA [] s₁ H := ⟨rfl, hM, fun b o e => of_hidT e, Nat.le_of_eq (hidT_size _ _), trivial, fun b hb => (nomatch hb), hok, .of_eq hg⟩
  have hH : RH K cls (cs.map (·.2)) [] H [] := ⟨rfl, List.nodup_nil, fun n b o e _ => (nomatch e), fun b hb => by
    obtain ⟨p, hp, rfl⟩ := ofT hb
    exact ⟨List.not_mem_nil, #[], atT p hp, by simp [TriplesOk]⟩, List.not_mem_nil, _, atS⟩
  obtain ⟨h', hc⟩ := hc
  have run := (F _ hK (nsK nG hns) TB).run callerA [] s₁ H ⟨[.ref a], []⟩ [.ref a] [.ref a] (fun v H' => v = .bl true ∧ H' sysModules = some (smO om)) (fun _ _ _ => False) rfl hr e0 (hbind s₁ (.ref a)) (.cons rfl .nil) ⟨[], [], _, hH, .cons (.rol hS (RVs.ints ns)) .nil, by
    rw [hc]
    intro ρ' H' v e9 _ r
    cases r
    refine ⟨rfl, e9.keep _ _ atS List.not_mem_nil fun z => ?_⟩
    obtain ⟨p, hp, y⟩ := ofT z
    exact tS p hp y.symm⟩
  refine codeAny_mono run fun r s' z => ?_
  rcases r with e | fl
  · obtain ⟨_, _, _, _, _, _, _, _, _, _, _, _, bad⟩ := z
    exact bad.elim
  cases fl with
  | next => exact z.elim
  | brk => exact z.elim
  | cont => exact z.elim
  | ret u =>
    obtain ⟨v, H', os, bare, un, hok', r', q⟩ := z
    obtain ⟨rfl, qS⟩ := (show v = .bl true ∧ H' sysModules = some (smO om) from q)
    have r' : u = Value.bool true := r'
    subst r'
    have old : ∀ b o, s₁.heap.get? b = some o → (∃ p ∈ cs, b = p.2 ∧ ∃ more : Array Value, s'.heap.get? b = some (tblO more)) ∨ s'.heap.get? b = some o := fun b o e => by
      cases q : H b with
      | none => exact .inr (un.keep b o e q (fun z => nomatch z) (fun z => nomatch z))
      | some u =>
        rcases or q with ⟨m, rfl⟩ | ⟨rfl, _, rfl⟩ | ⟨rfl, rfl⟩
        rotate_left 2
        · have y : s'.heap.get? sysModules = some om := (hok' _ _ qS).1
          rw [gm] at e
          cases e
          exact .inr y
        · obtain ⟨p, hp, rfl⟩ := ofT m
          obtain ⟨more, y⟩ := un.tbls p.2 #[] q
          exact .inl ⟨p, hp, rfl, _, hok' p.2 _ y⟩
        · have y := un.frzs _ _ _ q
          have e1 := (hok' _ _ y).1
          rw [ha] at e
          cases e
          exact .inr e1
    refine And.intro rfl ⟨⟨fun b o e => ?_, fun b o e => ?_⟩, os, bare⟩
    · rcases old b o e with ⟨p, hp, rfl, more, y⟩ | y
      · have t := hT p hp
        rw [t] at e
        cases e
        exact .inr (.inl ⟨((C p hp).tab t).isCodeTable, rfl, #[], more, rfl, by rw [Array.empty_append]; exact y⟩)
      · exact .inl y
    · rcases old b o e with ⟨p, hp, rfl, more, y⟩ | y
      · exact ⟨_, y⟩
      · exact ⟨_, y⟩
end
/-- what is known of the law's def at the head's heap h -/
def LawG (l : PySem.W.OpenLaw) (w : World) (K : PySem.W.Frag) (k n : Nat) (x : Str) (mg : Str → Option Value) (fa : Addr) (h : Heap) : Prop :=
  ∃ (fd : FuncData) (cls : List Addr) (cs : List (Addr × Addr)) (c : FN), (∀ p ∈ cs, h.get? p.2 = some (tblO #[])) ∧ (∀ p ∈ cs, K.lookup p.2 = none) ∧ (∀ p ∈ cs, PySem.W.CodeHd h p.1 p.2) ∧ K.lookup sysModules = none ∧ (∃ mm, h.Ns sysModules mm) ∧ (∀ (s : Shared) (u : Value), BindsTo s fd ⟨[u], []⟩ [(x, u)]) ∧
    (∀ ns : List Int, ns.length ≤ n → (∀ z ∈ ns, Builtin.Int.intBits z ≤ 1048576) → ∃ h', c [.rol (ns.map D.int)] [] = .ok (.bl true) h') ∧
    ∀ base : Heap, K.In base → base.Ns mainGlobals mg → (∀ p ∈ cs, GxR.TabB base mg p.1 p.2) → FnG l.prog w K mg base cls (cs.map (·.2)) k fa fd [x] c
theorem walkG {l : PySem.W.OpenLaw} {n k : Nat} {q : Program} {loose : List Str} {XP : (Str → Option Value) → Heap → Prop} {YP : World → Heap → Prop} {d : DefRec} {K : Params → PySem.W.Frag} {x : Str}
    (hn : l.most = some n) (hn2 : n ≤ sizeLine) (hdf : d.params.defaults = []) (hr : Room k callerA) (hY : ∀ (w : World) (h : Heap), YP w h → (K w.params).In h) (F : ∀ (w : World) (mg mb : Str → Option Value) (mean : ExcName → Option Value) (fa : Addr) (h : Heap), Top q (PySem.W.looseW q loose) mean mg mb h → YP w h → (K w.params).In h → h.Ns mainGlobals mg → mg d.name = some (.ref fa) → LawG l w (K w.params) k n x mg fa h) : PySem.W.WalkO q loose XP YP l.row.toRowW d [] (fun f vs => PySem.call f vs) := by
  refine Att.attach_callB hn hdf fun w s₀ s₁ mg mb fa o pm cd doc a vs ns G Y _ _ _ hmg hobj hints hlen hbits hg => ?_
  obtain ⟨fd, cls, cs, c, hT, nT, C, nsm, hsm, hb, hsp, hF⟩ := F w mg mb _ fa _ G.T Y (hY w _ Y) G.T.g hmg
  exact law_callG (hY w _ Y) G.T.g G.T.b G.T.builtins G.T.nolimit hg hsm nsm hT nT C G.T.bmain hobj hints (Nat.le_trans hlen hn2) hr hF hb (hsp ns hlen hbits)
end Mi

namespace Mi
open L2 PySem PySem.Spec PyProof.Rows

/-! ### dicts that are written out: {}, {'k': e} -/
def cD0 : EF := fun _ h => .ok (.ref h.length) (h ++ [.dic []])
def cD1 (k : Str) (F : EF) : EF := fun ε h => (F ε (h ++ [.dic []])).bind fun d h2 => match h2[h.length]? with
  | some (.dic []) => .ok (.ref h.length) (h2.set h.length (.dic [(.inr k, d)]))
  | _ => .stuck
section
variable {X : Cx} {W : WX} {cls ts : List Addr} {e : Expr} {F : EF} {pos : Pos} {x : Str}
theorem e_d0 : E' X cls ts W (.Dict [] [] pos) cD0 := ⟨fun pins s σ H Q I ⟨ρ, ε, h, hH, hE, q⟩ => pe_dnewK.run pins s σ H Q I (post_newD hH .nil q)⟩
theorem e_d1 {k : Str} {j : Nat} {kp : Pos} (he : E' X cls ts W e F) : E' X cls ts W (.Dict [some (.Constant (.str k) j kp)] [e] pos) (cD1 k F) := by
  refine ⟨fun pins s σ H Q I ⟨ρ, ε, h, hH, hE, q⟩ => (pe_disp (pps_cons pe_str he pps_nil) rfl rfl (List.cons_ne_nil _ _) (Nat.le_of_ble_eq_true rfl)).run pins s σ H Q I fun p hp => ?_⟩
  have e1 := ext_new (ts := ts) (ρ := ρ) (u := .dK []) hp
  have hH1 : RH X.K cls ts (ρ ++ [p]) (upd H p (.dK [])) (h ++ [.dic []]) := hH.new hp ⟨[], upd_same, .nil⟩
  refine tG_bind hH1 (hE.mono e1) (q.ext e1) fun ρ2 H2 y h2 d _ e2 hH2 ry hE2 q2 => ?_
  split at q2 <;> first | exact q2.elim | skip
  rename_i ed
  have gp : ρ2[h.length]? = some p := e2.get (by rw [← hH.len]; exact get_new)
  obtain ⟨us, k1, r1⟩ := hH2.dic gp ed
  cases r1
  have eP := ext_put (u := .dK [(.inr k, y)]) (List.mem_of_getElem? gp) hH2
  refine ⟨k1, [(.inr k, y)], rfl, Nat.le_of_ble_eq_true rfl, ?_⟩
  exact q2 _ _ _ eP (hH2.put gp ⟨_, upd_same, .cons ⟨rfl, ry.mono eP⟩ .nil⟩) (.ref gp)

/-! ### -e; a built-in type as a value -/
def cNeg (F : EF) : EF := fun ε h => (F ε h).bind fun d h1 => match d with
  | .int i => .ok (.int (-i)) h1
  | _ => .stuck
theorem e_neg (he : E' X cls ts W e F) : E' X cls ts W (.UnaryOp .USub e pos) (cNeg F) := by
  refine ⟨fun pins s σ H Q I ⟨ρ, ε, h, hH, hE, q⟩ => (pe_un un_neg he).run pins s σ H Q I (tG_bind hH hE q fun ρ1 H1 x h1 d _ e1 hH1 rx hE1 p1 => ?_)⟩
  cases rx <;> first | exact p1.elim | skip
  exact ⟨_, rfl, post_val hH1 (.int _) p1⟩
theorem e_bty {n : String} (hg : Gl X x) (hm : X.mg x = none) (hv : bootBuiltins x = some (.type n)) (hn : x ≠ "__name__" := by decide) (hd : (x == ("__debug__" : Str)) = false := by decide) : E' X cls ts W (.Name x pos) (cC (.ty n)) :=
  e_c (fun _ _ _ => .ty n) (pe_bltn hg hm hv rfl hn hd)
end

/-! ### a def that is known -/
structure Kd (K : PySem.W.Frag) (mg : Str → Option Value) (x : Str) (st : Stmt) (f : Addr) (cdv : Value) (fd : FuncData) : Prop where
  ex : ∃ (oc : Value) (od : Option Addr) (kV doc pm : Value) (an : Option Addr) (ct : Value) (osl : Array (Option Value)), fd = PySem.W.fnOf x x (defArgs st) (defBody st) (defScope st) .none kV doc pm an cdv ct ∧ K.lookup f = some ⟨oc, od, .func fd, osl⟩
  kp : PySem.W.keepIn K (.ref f) = true ∧ PySem.W.codeIn K cdv x = true
  mg : mg x = some (.ref f)
/-- how a def without defaults binds -/
def Bd (x : Str) (st : Stmt) (ps : List Str) : Prop := ∀ (kV doc pm : Value) (an : Option Addr) (cdv ct : Value) (us : List Value), us.length = ps.length → bindArgs (PySem.W.fnOf x x (defArgs st) (defBody st) (defScope st) .none kV doc pm an cdv ct) ⟨us, []⟩ = pure (ps.zip us)
/-- how it binds where the last arguments are named: g puts them in their order -/
def BdK (x : Str) (st : Stmt) (ps ks : List Str) (m : Nat) (g : List Value → List Value → List Value) : Prop := ∀ (kV doc pm : Value) (an : Option Addr) (cdv ct : Value) (us ws : List Value), us.length = m → ws.length = ks.length →
  bindArgs (PySem.W.fnOf x x (defArgs st) (defBody st) (defScope st) .none kV doc pm an cdv ct) ⟨us, ks.zip ws⟩ = pure (ps.zip (g us ws))
/-- a def that may be called -/
structure Ca (P : Program) (w : World) (K : PySem.W.Frag) (mg : Str → Option Value) (base : Heap) (cls ts : List Addr) (k : Nat) (x : Str) (st : Stmt) (ps : List Str) (c : FN) : Prop where
  ex : ∃ f cdv fd, Kd K mg x st f cdv fd ∧ FnG P w K mg base cls ts k f fd ps c
theorem Kd.binds {K : PySem.W.Frag} {mg : Str → Option Value} {x : Str} {st : Stmt} {f : Addr} {cdv : Value} {fd : FuncData} {ps : List Str} (D : Kd K mg x st f cdv fd) (b : Bd x st ps) : Binds K fd ps [] := by
  obtain ⟨oc, od, kV, doc, pm, an, ct, osl, rfl, _⟩ := D.ex
  exact .all (b kV doc pm an cdv ct)
theorem Kd.bindsTo {K : PySem.W.Frag} {mg : Str → Option Value} {x : Str} {st : Stmt} {f : Addr} {cdv : Value} {fd : FuncData} {ps ks : List Str} {m : Nat} {g : List Value → List Value → List Value} {us ws : List Value} {s : Shared} (D : Kd K mg x st f cdv fd) (b : BdK x st ps ks m g) (h1 : us.length = m) (h2 : ws.length = ks.length) :
    BindsTo s fd ⟨us, ks.zip ws⟩ (ps.zip (g us ws)) := by
  obtain ⟨oc, od, kV, doc, pm, an, ct, osl, rfl, _⟩ := D.ex
  exact .of_eq (b kV doc pm an cdv ct us ws h1 h2)
/-- a def by its body -/
theorem Kd.fn {P : Program} {w : World} {K : PySem.W.Frag} {mg : Str → Option Value} {base : Heap} {cls ts : List Addr} {k : Nat} {x : Str} {st : Stmt} {f : Addr} {cdv : Value} {fd : FuncData} {N ps : List Str} {B : SF} (D : Kd K mg x st f cdv fd) (S : FnScope N ps (defScope st))
    (hbody : ∀ (A : Around) (outer : List Env) (s : Shared) (H : Hp) (E : XK), (A.deeper (envOfC x (defScope st) s.heap.objs.size f cdv)).guards = some [] → Room k (A.deeper (envOfC x (defScope st) s.heap.objs.size f cdv)) →
      Takes (cxOf (L2.CX P w) P w K mg base N x (defScope st) f cdv A outer s H E) (fun c d _ H => E c d H) → Ss' (cxOf (L2.CX P w) P w K mg base N x (defScope st) f cdv A outer s H E) cls ts (fun c d _ H => E c d H) (defBody st) B) :
    FnG P w K mg base cls ts (k + 1) f fd ps (runB ps.length N.length B) := by
  obtain ⟨oc, od, kV, doc, pm, an, ct, osl, rfl, lk⟩ := D.ex
  exact FnG.of lk D.kp.2 S hbody
def ALen (A : AF) (n : Nat) : Prop := ∀ ε h ds h', A ε h = .ok ds h' → ds.length = n
theorem aLen0 : ALen aNil 0 := fun _ _ _ _ e => by cases e; rfl
theorem aLenS {F : EF} {A : AF} {n : Nat} (i : ALen A n) : ALen (aCons F A) (n + 1) := fun ε h ds h' e => by
  unfold aCons at e
  cases q : F ε h with
  | ok d h1 =>
    rw [q, Res.bind_ok] at e
    cases q2 : A ε h1 with
    | ok es h2 =>
      rw [q2] at e
      cases e
      rw [List.length_cons, i _ _ _ _ q2]
    | exc x h2 => rw [q2] at e; cases e
    | stuck => rw [q2] at e; cases e
  | exc x h1 => rw [q] at e; cases e
  | stuck => rw [q] at e; cases e
section
variable {X : Cx} {W : WX} {cls ts : List Addr} {k : Nat} {st : Stmt} {ps ks : List Str} {c : FN} {x : Str} {p pos : Pos} {e : Expr} {es : List Expr} {kws : List Keyword} {A B : AF} {m : Nat}
/-- f(e, ..) -/
theorem e_ca (C : Ca X.prog X.w X.K X.mg X.base cls ts k x st ps c) (b : Bd x st ps) (hgu : X.A.guards = some []) (hr : Room k X.A) (tk : Takes X W) (hg : Gl X x) (ha : A' X cls ts W (e :: es) A) (hdb : (x == ("__debug__" : Str)) = false := by decide)
    (he : starEach (e :: es) X.env = (false, eval e X.env) :: starEach es X.env := by rfl) (hpl : (backTo pos (starEach es X.env)).any (·.1) = false := by rfl) : E' X cls ts W (.Call (.Name x p) (e :: es) [] pos) (cFn c A) := by
  obtain ⟨f, cdv, fd, D, F⟩ := C.ex
  exact e_call F hgu hr tk hg D.mg D.kp.1 (D.binds b) ha hdb he hpl
theorem e_ca0 (C : Ca X.prog X.w X.K X.mg X.base cls ts k x st ps c) (b : Bd x st ps) (hgu : X.A.guards = some []) (hr : Room k X.A) (tk : Takes X W) (hg : Gl X x) (hdb : (x == ("__debug__" : Str)) = false := by decide) : E' X cls ts W (.Call (.Name x p) [] [] pos) (cFn c aNil) := by
  obtain ⟨f, cdv, fd, D, F⟩ := C.ex
  exact e_call0 F hgu hr tk hg D.mg D.kp.1 (D.binds b) hdb
/-- f(k = e, ..), every argument named -/
theorem e_caK {gv : List Value → List Value} {gV : List V → List V} {gD : List D → List D} (C : Ca X.prog X.w X.K X.mg X.base cls ts k x st ps c) (b : BdK x st ps ks 0 (fun _ ws => gv ws)) (hgu : X.A.guards = some []) (hr : Room k X.A) (tx : Takes X W) (hg : Gl X x)
    (hV : ∀ (zs : List V) (ws : List Value), Vals zs ws → zs.length = ks.length → Vals (gV zs) (gv ws)) (hgD : ∀ (ρ : List Addr) (H : Hp) (zs : List V) (es : List D), RVs X.K ρ H zs es → zs.length = ks.length → RVs X.K ρ H (gV zs) (gD es))
    (hkw : PK X kws (tA X.K cls ts W B)) (hn : ALen B ks.length) (hall : (backToKw pos (keywordEach kws X.env)).all (·.1.isSome) = true := by rfl) (hks : (backToKw pos (keywordEach kws X.env)).filterMap (·.1) = ks := by rfl)
    (hdb : (x == ("__debug__" : Str)) = false := by decide)
    (hpl : (backToKw pos (keywordEach kws X.env)).any (·.1.isNone) = false := by rfl) :
    E' X cls ts W (.Call (.Name x p) [] kws pos) (cFn (fun es h => c (gD es) h) B) := by
  obtain ⟨f, cdv, fd, Dd, F⟩ := C.ex
  refine ⟨fun pins s σ H Q I ⟨ρ, ε, h, hH, hE, q⟩ => ?_⟩
  have q1 : tA X.K cls ts W B σ H fun zs H2 => zs.length = ks.length ∧ Rdy X.K cls ts c (fun u dd H' => W u dd σ H') Q (gV zs) H2 :=
    tG_bind hH hE q fun ρ2 H2 zs h2 es ee e2 hH2 rz hE2 p2 => by
      have hl : zs.length = ks.length := by rw [rz.length]; exact hn _ _ _ _ ee
      exact ⟨hl, ρ2, h2, gD es, hH2, hgD _ _ _ _ rz hl, p2⟩
  refine wpAny_Call_Name_kw (ld_glob I hg Dd.mg ?_ hdb)
  refine PySem.W.callWith_KW0 I.kIn Dd.kp.1 hall (thn (hkw.run pos pins s σ H _ I q1) fun ws s2 ⟨zs, H2, I2, rz, hl, ρ2, h2, ds, hH2, rv, p2⟩ => ⟨I2.kIn, ?_⟩) hpl
  rw [hks]
  exact run_g F hgu hr tx (fun _ => Dd.bindsTo b rfl (by rw [← rz.length]; exact hl)) I2 (hV _ _ rz hl) hH2 rv p2
end
end Mi

namespace Mi
open L2 PySem PySem.Spec PyProof.Rows

theorem hu65 {k : Nat} {A : Around} (r : Room k A) : A.units + 65 < cLine := by
  have := r.un
  omega
theorem e_globE {X : Cx} {W : WX} {cls ts : List Addr} {x : Str} {pos : Pos} {i : Int} (hg : Gl X x) (hm : ∃ u, X.mg x = some u ∧ RelV (.int i) u) (hd : (x == ("__debug__" : Str)) = false := by decide) : E' X cls ts W (.Name x pos) (cC (.int i)) := by
  obtain ⟨u, hm, r⟩ := hm
  exact e_glob hg hm r (fun _ _ _ => .int i) hd
def between (a b : Str) (c : Nat) : Bool := !decide ([c] < a.cps.toList) && !decide (b.cps.toList < [c])
/-- a generator expression's scope without captured names -/
def genC (scope : Scope) (x : Str) : Bool := (match scope.kind with | .function => true | _ => false) && !scope.isCoroutine && (scope.names.all fun y => match y.2 with | .local => true | _ => false) &&
  (match scope.names.lookup (".0" : Str) with | some .local => true | _ => false) && (match scope.names.lookup x with | some .local => true | _ => false)
theorem genS_by {env : Env} {scope : Scope} {x : Str} (h : genC scope x = true) : GxR.GenS env scope x := by
  simp only [genC, Bool.and_eq_true, List.all_eq_true] at h
  obtain ⟨⟨⟨⟨h1, h2⟩, h3⟩, h4⟩, h5⟩ := h
  refine ⟨?_, by simpa using h2, fun y hy e => ?_, ?_, ?_, fun y hy e => ?_⟩
  · split at h1 <;> first | assumption | cases h1
  · have := h3 y hy
    rw [e] at this
    cases this
  · split at h4 <;> first | assumption | cases h4
  · split at h5 <;> first | assumption | cases h5
  · have := h3 y hy
    rw [e] at this
    cases this
theorem tabIn_of {K : PySem.W.Frag} {x : Str} {f c P : Addr} {oc ox : Value} {od oy : Option Addr} {fd : FuncData} {sl sm : Array (Option Value)} {vs : Array Value} (a : PySem.W.nsIn K mainGlobals x = some (some (.ref f))) (l : K.lookup f = some ⟨oc, od, .func fd, sl⟩) (hc : fd.code = .ref c)
    (lc : K.lookup c = some ⟨ox, oy, .fields vs, sm⟩) (h11 : (vs[11]? : Option Value) = some (.ref P)) : PySem.W.tabIn K x = some (c, P) := by
  unfold PySem.W.tabIn
  simp only [a, l, hc, lc, h11]
/-- the named arguments in the parameters' order -/
def pm0 {α : Type} (xs : List α) : List α := xs
theorem pmV0 {ks : List Str} (zs : List V) (ws : List Value) (r : Vals zs ws) (_ : zs.length = ks.length) : Vals (pm0 zs) (pm0 ws) := r
theorem pmD0 {K : PySem.W.Frag} {ρ : List Addr} {H : Hp} {ks : List Str} (zs : List V) (es : List D) (r : RVs K ρ H zs es) (_ : zs.length = ks.length) : RVs K ρ H (pm0 zs) (pm0 es) := r
end Mi

namespace Mi
open L2 PySem PySem.Spec PyProof.Rows

/-! ### reckoning -/
section
variable {F G : EF} {A : AF} {T : TF} {a b c : SF} {ε ε1 : AEnv} {h h1 h2 h3 : AH} {d x y : D} {ds es : List D} {i : Nat} {f : Op2} {k : Bool}
theorem sSeq_nx (e : a ε h = .nx ε1 h1) : sSeq a b ε h = b ε1 h1 := by
  unfold sSeq
  rw [e]
  rfl
theorem sSeq_ret (e : a ε h = .ret d h1) : sSeq a b ε h = .ret d h1 := by
  unfold sSeq
  rw [e]
  rfl
theorem sSet_eq (e : F ε h = .ok d h1) (hi : i < ε.length := by exact Nat.le_of_ble_eq_true rfl) : sSet i F ε h = .nx (ε.set i (some d)) h1 := by
  unfold sSet
  rw [e, Res.st_ok, if_pos hi]
theorem sRet_eq (e : F ε h = .ok d h1) : sRet F ε h = .ret d h1 := by
  unfold sRet
  rw [e]
  rfl
theorem sExpr_eq (e : F ε h = .ok d h1) : sExpr F ε h = .nx ε h1 := by
  unfold sExpr
  rw [e]
  rfl
theorem sIf_eq (e : T ε h = .ok k h1) : sIf T a b ε h = if k = true then a ε h1 else b ε h1 := by
  unfold sIf
  rw [e]
  rfl
theorem sIf_t (e : T ε h = .ok true h1) : sIf T a b ε h = a ε h1 := by rw [sIf_eq e, if_pos rfl]
theorem sIf_f (e : T ε h = .ok false h1) : sIf T a b ε h = b ε h1 := by rw [sIf_eq e, if_neg Bool.false_ne_true]
theorem cBin_eq (e1 : F ε h = .ok x h1) (e2 : G ε h1 = .ok y h2) : cBin f F G ε h = f x y h2 := by
  unfold cBin
  rw [e1, Res.bind_ok, e2, Res.bind_ok]
theorem aCons_eq (e1 : F ε h = .ok x h1) (e2 : A ε h1 = .ok ds h2) : aCons F A ε h = .ok (x :: ds) h2 := by
  unfold aCons
  rw [e1, Res.bind_ok, e2, Res.bind_ok]
theorem aNil_eq : aNil ε h = .ok [] h := rfl
theorem cFn_eq {f : FN} (e : A ε h = .ok ds h1) : cFn f A ε h = f ds h1 := by
  unfold cFn
  rw [e, Res.bind_ok]
theorem cCall_eq {f : OpN} (e : A ε h = .ok ds h1) : cCall f A ε h = f ds h1 := by
  unfold cCall
  rw [e, Res.bind_ok]
theorem cLst_eq (e : A ε h = .ok ds h1) (hl : ds.length ≤ sizeLine) : cLst A ε h = .ok (.ref h1.length) (h1 ++ [.lst ds]) := by
  unfold cLst
  rw [e, Res.bind_ok, if_pos hl]
theorem cTup_eq (e : A ε h = .ok ds h1) (hl : ds.length ≤ sizeLine) : cTup A ε h = .ok (.tup ds) h1 := by
  unfold cTup
  rw [e, Res.bind_ok, if_pos hl]
theorem tVal_eq (e : F ε h = .ok (.bl k) h1) : tVal F ε h = .ok k h1 := by
  unfold tVal
  rw [e]
  rfl
theorem cMeth_eq {T : String} {f : OpM} (e : F ε h = .ok d h1) (hT : isTy T d h1 = true) (e2 : A ε h1 = .ok ds h2) : cMeth T f F A ε h = f d ds h2 := by
  unfold cMeth
  rw [e, Res.bind_ok, if_pos hT, e2, Res.bind_ok]
theorem cIf_eq (e : T ε h = .ok k h1) : cIf T F G ε h = if k = true then F ε h1 else G ε h1 := by
  unfold cIf
  rw [e, Res.bind_ok]
theorem tOr_t {T2 : TF} (e : T ε h = .ok true h1) : tOr' T T2 ε h = .ok true h1 := by
  unfold tOr'
  rw [e, Res.bind_ok, if_pos rfl]
theorem tOr_f {T2 : TF} (e : T ε h = .ok false h1) : tOr' T T2 ε h = T2 ε h1 := by
  unfold tOr'
  rw [e, Res.bind_ok, if_neg Bool.false_ne_true]
theorem tAnd_t {T2 : TF} (e : T ε h = .ok true h1) : tAnd' T T2 ε h = T2 ε h1 := by
  unfold tAnd'
  rw [e, Res.bind_ok, if_pos rfl]
theorem tAnd_f {T2 : TF} (e : T ε h = .ok false h1) : tAnd' T T2 ε h = .ok false h1 := by
  unfold tAnd'
  rw [e, Res.bind_ok, if_neg Bool.false_ne_true]
theorem tNot_eq (e : T ε h = .ok k h1) : tNot' T ε h = .ok (!k) h1 := by
  unfold tNot'
  rw [e, Res.bind_ok]
theorem cAnd_t (e : F ε h = .ok (.bl true) h1) : cAnd F G ε h = G ε h1 := by
  unfold cAnd
  rw [e, Res.bind_ok]
  rfl
theorem cAnd_f (e : F ε h = .ok (.bl false) h1) : cAnd F G ε h = .ok (.bl false) h1 := by
  unfold cAnd
  rw [e, Res.bind_ok]
  rfl
theorem sPar2_eq {j : Nat} (e1 : F ε h = .ok x h1) (e2 : G ε h1 = .ok y h2) (hi : i < ε.length ∧ j < ε.length := by exact ⟨Nat.le_of_ble_eq_true rfl, Nat.le_of_ble_eq_true rfl⟩) : sPar2 i j F G ε h = .nx ((ε.set i (some x)).set j (some y)) h2 := by
  unfold sPar2
  rw [e1, Res.st_ok, e2, Res.st_ok, if_pos hi]
theorem sPar3_eq {j l : Nat} {I : EF} {z : D} (e1 : F ε h = .ok x h1) (e2 : G ε h1 = .ok y h2) (e3 : I ε h2 = .ok z h3) (hi : i < ε.length ∧ j < ε.length ∧ l < ε.length := by exact ⟨Nat.le_of_ble_eq_true rfl, Nat.le_of_ble_eq_true rfl, Nat.le_of_ble_eq_true rfl⟩) : sPar3 i j l F G I ε h = .nx (((ε.set i (some x)).set j (some y)).set l (some z)) h3 := by
  unfold sPar3
  rw [e1, Res.st_ok, e2, Res.st_ok, e3, Res.st_ok, if_pos hi]
theorem cCut_eq {lo hi : OF} {l u : Option Int} (e1 : F ε h = .ok d h1) (e2 : lo ε h1 = .ok l h2) (e3 : hi ε h2 = .ok u h3) : cCut F lo hi ε h = cutD d l u h3 := by
  unfold cCut
  rw [e1, Res.bind_ok, e2, Res.bind_ok, e3, Res.bind_ok]
theorem oSome_eq {j : Int} (e : F ε h = .ok (.int j) h1) : oSome F ε h = .ok (some j) h1 := by
  unfold oSome
  rw [e, Res.bind_ok]
theorem runB_ret {np nN : Nat} {B : SF} (hl : ds.length = np) (e : B (ds.map some ++ List.replicate (nN - np) none) h = .ret d h1) : runB np nN B ds h = .ok d h1 := by
  unfold runB
  rw [if_pos hl, e]
end

/-! ### comprehensions -/
/-- with an invariant: I i acc h, acc what is found so far; the list stands at nD -/
theorem compGo_inv {it : AIt} {g : TF'} {t : TF} {F : EF} {nD : Nat} {ε0 : AEnv} (I : Nat → List D → AH → Prop) (n : Nat) (hn : it.len = n) (hs : n < sizeLine) (hD : ∀ i acc h, I i acc h → h[nD]? = some (.lst acc))
    (hl : ∀ i acc h, I i acc h → acc.length ≤ i)
    (step : ∀ i acc h, i < n → I i acc h → ∃ d ε1 k h1, it.item i h = some d ∧ g d ε0 h = some ε1 ∧ t ε1 h = .ok k h1 ∧
      ((k = false ∧ I (i + 1) acc h1) ∨ (k = true ∧ ∃ y h2, F ε1 h1 = .ok y h2 ∧ h2[nD]? = some (.lst acc) ∧ I (i + 1) (acc ++ [y]) (h2.set nD (.lst (acc ++ [y]))))))
    (fin : ∀ acc h, I n acc h → it.fin h = true) : ∀ (m i : Nat) (acc : List D) (h : AH), i + m = n → I i acc h → ∃ acc' h', compGo it g t F nD ε0 m i h = .ok () h' ∧ I n acc' h' := by
  intro m
  induction m with
  | zero =>
    intro i acc h e q
    have : i = n := by omega
    subst this
    refine ⟨acc, h, ?_, q⟩
    unfold compGo
    rw [if_pos (fin _ _ q)]
  | succ m ih =>
    intro i acc h e q
    obtain ⟨d, ε1, k, h1, e1, e2, e3, r⟩ := step i acc h (by omega) q
    rcases r with ⟨rfl, r⟩ | ⟨rfl, y, h2, e4, e5, r⟩
    · rw [show compGo it g t F nD ε0 (m + 1) i h = compGo it g t F nD ε0 m (i + 1) h1 from by simp [compGo, e1, e2, e3, noExc]]
      exact ih (i + 1) acc h1 (by omega) r
    · have l1 := hl _ _ _ q
      have l2 : acc.length < sizeLine := by omega
      rw [show compGo it g t F nD ε0 (m + 1) i h = compGo it g t F nD ε0 m (i + 1) (h2.set nD (.lst (acc ++ [y]))) from by simp [compGo, e1, e2, e3, e4, e5, l2, noExc]]
      exact ih (i + 1) _ _ (by omega) r
theorem cComp_inv {iF : IF} {it : AIt} {g : TF'} {t : TF} {F : EF} {own : List Nat} {ε : AEnv} {h h1 : AH} (hi : iF ε h = .ok it h1) (I : Nat → List D → AH → Prop) (n : Nat) (hn : it.len = n) (hs : n < sizeLine) (hD : ∀ i acc h, I i acc h → h[h1.length]? = some (.lst acc))
    (hl : ∀ i acc h, I i acc h → acc.length ≤ i) (h0 : I 0 [] (h1 ++ [.lst []]))
    (step : ∀ i acc h, i < n → I i acc h → ∃ d ε1 k h1', it.item i h = some d ∧ g d (wipeA ε own) h = some ε1 ∧ t ε1 h = .ok k h1' ∧
      ((k = false ∧ I (i + 1) acc h1') ∨ (k = true ∧ ∃ y h2, F ε1 h1' = .ok y h2 ∧ h2[h1.length]? = some (.lst acc) ∧ I (i + 1) (acc ++ [y]) (h2.set h1.length (.lst (acc ++ [y]))))))
    (fin : ∀ acc h, I n acc h → it.fin h = true) : ∃ acc h', cComp iF g t F own ε h = .ok (.ref h1.length) h' ∧ I n acc h' := by
  obtain ⟨acc, h', e, q⟩ := compGo_inv (it := it) (g := g) (t := t) (F := F) (ε0 := wipeA ε own) I n hn hs hD hl step fin n 0 [] (h1 ++ [.lst []]) (by omega) h0
  refine ⟨acc, h', ?_, q⟩
  unfold cComp
  rw [hi, Res.bind_ok, hn, e]
  rfl
/-! ### for -/
theorem forGo_inv {it : AIt} {g : TF'} {B : SF} (I : Nat → AEnv → AH → Prop) (n : Nat) (step : ∀ i ε h, i < n → I i ε h → ∃ d ε1 ε2 h2, it.item i h = some d ∧ g d ε h = some ε1 ∧ (B ε1 h = .nx ε2 h2 ∨ B ε1 h = .cnt ε2 h2) ∧ I (i + 1) ε2 h2)
    (fin : ∀ ε h, I n ε h → it.fin h = true) : ∀ (m i : Nat) (ε : AEnv) (h : AH), i + m = n → I i ε h → ∃ ε' h', forGo it g B m i ε h = .nx ε' h' ∧ I n ε' h' := by
  intro m
  induction m with
  | zero =>
    intro i ε h e q
    have : i = n := by omega
    subst this
    refine ⟨ε, h, ?_, q⟩
    unfold forGo
    rw [if_pos (fin _ _ q)]
  | succ m ih =>
    intro i ε h e q
    obtain ⟨d, ε1, ε2, h2, e1, e2, e3, r⟩ := step i ε h (by omega) q
    rw [show forGo it g B (m + 1) i ε h = forGo it g B m (i + 1) ε2 h2 from by rcases e3 with e3 | e3 <;> simp [forGo, e1, e2, e3]]
    exact ih (i + 1) ε2 h2 (by omega) r
theorem sFor_inv {iF : IF} {it : AIt} {g : TF'} {B : SF} {ε : AEnv} {h h1 : AH} (hi : iF ε h = .ok it h1) (I : Nat → AEnv → AH → Prop) (n : Nat) (hn : it.len = n) (h0 : I 0 ε h1)
    (step : ∀ i ε h, i < n → I i ε h → ∃ d ε1 ε2 h2, it.item i h = some d ∧ g d ε h = some ε1 ∧ (B ε1 h = .nx ε2 h2 ∨ B ε1 h = .cnt ε2 h2) ∧ I (i + 1) ε2 h2)
    (fin : ∀ ε h, I n ε h → it.fin h = true) : ∃ ε' h', sFor iF g B ε h = .nx ε' h' ∧ I n ε' h' := by
  obtain ⟨ε', h', e, q⟩ := forGo_inv (it := it) (g := g) (B := B) I n step fin n 0 ε h1 (by omega) h0
  refine ⟨ε', h', ?_, q⟩
  unfold sFor
  rw [hi, Res.st_ok, hn, e]

end Mi

namespace Mi
open L2 PySem PySem.Spec PyProof.Rows

/-! ### the defs that every law has: begun, dealt, pick -/
/-- the hand stands at n, its cells at m, it was asked c times -/
def Hand (h : AH) (n m : Nat) (c : Int) : Prop := m ≠ n ∧ ∃ (cells : List Int) (t : Int), cells.length ≤ 100 ∧ h[n]? = some (.lst [.ref m, .int t, .int c]) ∧ h[m]? = some (.lst (cells.map D.int))
/-- nothing but n, m has changed; new things may stand behind -/
structure Step (n m : Nat) (h h' : AH) : Prop where
  len : h.length ≤ h'.length
  keep : ∀ k, k ≠ n → k ≠ m → k < h.length → h'[k]? = h[k]?
theorem Step.refl {n m : Nat} {h : AH} : Step n m h h := ⟨Nat.le_refl _, fun _ _ _ _ => rfl⟩
theorem Step.trans {n m : Nat} {h h1 h2 : AH} (a : Step n m h h1) (b : Step n m h1 h2) : Step n m h h2 :=
  ⟨Nat.le_trans a.len b.len, fun k h1 h2 h3 => (b.keep k h1 h2 (Nat.lt_of_lt_of_le h3 a.len)).trans (a.keep k h1 h2 h3)⟩
theorem Step.set1 {n m : Nat} {h : AH} {o : O} : Step n m h (h.set n o) := ⟨by simp, fun k h1 h2 h3 => by rw [List.getElem?_set_ne (Ne.symm h1)]⟩
theorem Step.set2 {n m : Nat} {h : AH} {o : O} : Step n m h (h.set m o) := ⟨by simp, fun k h1 h2 h3 => by rw [List.getElem?_set_ne (Ne.symm h2)]⟩
theorem Step.app {n m : Nat} {h : AH} {os : List O} : Step n m h (h ++ os) := ⟨by simp, fun k h1 h2 h3 => by rw [List.getElem?_append_left h3]⟩
theorem pd_ints (h : AH) (k : Nat) : ∀ cells : List Int, omap (pd k h) (cells.map D.int) = some (cells.map PyData.int)
  | [] => rfl
  | c :: cs => by
    simp only [List.map_cons]
    unfold omap
    rw [pd_ints h k cs]
    cases k <;> rfl
theorem shaped_ints (cells : List Int) : SeqAt.shaped (.list (cells.map PyData.int)) = true := by
  have h1 : ∀ cs : List Int, PyData.canLayAll0 (cs.map PyData.int) = true := fun cs => by
    induction cs with
    | nil => simp [PyData.canLayAll0]
    | cons c cs ih => simp [PyData.canLayAll0, PyData.canLay0, ih]
  have h2 : ∀ cs : List Int, PyData.depthAll (cs.map PyData.int) = 0 := fun cs => by
    induction cs with
    | nil => simp [PyData.depthAll]
    | cons c cs ih => simp [PyData.depthAll, PyData.depth, ih]
  simp [SeqAt.shaped, PyData.canLay0, PyData.depth, h1, h2]
theorem eqv_ints (cells : List Int) : PyData.eqv (.list (cells.map PyData.int)) (.list []) = cells.isEmpty := by
  cases cells with
  | nil => simp [PyData.eqv, PyData.eqvAll]
  | cons c cs => simp [PyData.eqv, PyData.eqvAll]


def dealtTail : SF := (sSeq (sSet 3 (cBin opAdd (cBin opAdd (cBin opAdd (cBin opMod (cVar 2) (cC (.int 2147483629))) (cBin opMul (cBin opMul (cC (.int 16807)) (cBin opIx (cVar 0) (cC (.int 2)))) (cBin opIx (cVar 0) (cC (.int 2))))) (cBin opIx (cVar 0) (cC (.int 1)))) (cC (.int 97))))
    (sSeq (sSet 3 (cBin opMod (cBin opMul (cVar 3) (cC (.int 48271))) (cC (.int 2147483647))))
    (sSeq (sSet 3 (cBin opMod (cBin opAdd (cBin opAdd (cBin opMul (cVar 3) (cVar 3)) (cBin opMul (cC (.int 69621)) (cBin opIx (cVar 0) (cC (.int 2))))) (cC (.int 11))) (cC (.int 2147483587))))
    (sRet (cBin opMod (cBin opFdiv (cBin opMod (cBin opMul (cVar 3) (cBin opAdd (cBin opFdiv (cVar 3) (cC (.int 5))) (cC (.int 39373)))) (cC (.int 2147483563))) (cC (.int 128))) (cVar 1))))))
theorem sm_l {i : Int} (h : 0 ≤ i) (h2 : i < 18446744073709551616) : Mi.small64 i = true := by
  simp [Mi.small64]
  omega
theorem dealtTail_ok {h : AH} {n m : Nat} {c lots cell t : Int} {x : Option D} (hn : h[n]? = some (.lst [.ref m, .int t, .int c])) (hc : 0 ≤ c) (hc2 : c < 1000001) (hl : 0 < lots) (hl2 : lots < 1000000) :
    ∃ r : Int, dealtTail [some (.ref n), some (.int lots), some (.int cell), x] h = .ret (.int r) h ∧ 0 ≤ r ∧ r < lots := by
  have ml : ∀ a b : Int, 0 ≤ a → a < 18446744073709551616 → opMul (.int a) (.int b) h = .ok (.int (a * b)) h := fun a b h1 h2 => by simp [opMul, sm_l h1 h2]
  have mr : ∀ a b : Int, 0 ≤ b → b < 18446744073709551616 → opMul (.int a) (.int b) h = .ok (.int (a * b)) h := fun a b h1 h2 => by simp [opMul, sm_l h1 h2]
  have md : ∀ a b : Int, 0 < b → opMod (.int a) (.int b) h = .ok (.int (a.fmod b)) h := fun a b h1 => by
    have : b ≠ 0 := by omega
    simp [opMod, opII, this]
  have mb : ∀ a b : Int, 0 < b → 0 ≤ a.fmod b ∧ a.fmod b < b := fun a b h1 => ⟨Int.fmod_nonneg_of_pos _ h1, Int.fmod_lt_of_pos _ h1⟩
  have i1 : opIx (.ref n) (.int 1) h = .ok (.int t) h := by simp [opIx, seqD, hn, atI, ixN]
  have i2 : opIx (.ref n) (.int 2) h = .ok (.int c) h := by simp [opIx, seqD, hn, atI, ixN]
  have ad : ∀ a b : Int, opAdd (.int a) (.int b) h = .ok (.int (a + b)) h := fun _ _ => rfl
  have fd : ∀ a b : Int, 0 < b → b < 1000 → opFdiv (.int a) (.int b) h = .ok (.int (a.fdiv b)) h := fun a b h1 h2 => by
    have : b ≠ 0 := by omega
    have : b.natAbs < 1073741824 := by omega
    simp [opFdiv, opII, *]
  obtain ⟨w0, e0⟩ : ∃ w, w = cell.fmod 2147483629 + 16807 * c * c + t + 97 := ⟨_, rfl⟩
  obtain ⟨w1, e1⟩ : ∃ w, w = (w0 * 48271).fmod 2147483647 := ⟨_, rfl⟩
  obtain ⟨w2, e2⟩ : ∃ w, w = (w1 * w1 + 69621 * c + 11).fmod 2147483587 := ⟨_, rfl⟩
  obtain ⟨w3, e3⟩ : ∃ w, w = (w2 * (w2.fdiv 5 + 39373)).fmod 2147483563 := ⟨_, rfl⟩
  have b1 := mb (w0 * 48271) 2147483647 (by decide)
  rw [← e1] at b1
  have b2 := mb (w1 * w1 + 69621 * c + 11) 2147483587 (by decide)
  rw [← e2] at b2
  have q0 : cBin opAdd (cBin opAdd (cBin opAdd (cBin opMod (cVar 2) (cC (.int 2147483629))) (cBin opMul (cBin opMul (cC (.int 16807)) (cBin opIx (cVar 0) (cC (.int 2)))) (cBin opIx (cVar 0) (cC (.int 2))))) (cBin opIx (cVar 0) (cC (.int 1)))) (cC (.int 97)) [some (.ref n), some (.int lots), some (.int cell), x] h = .ok (.int w0) h := by
    simp only [cBin, cVar, cC, List.getElem?_cons_zero, List.getElem?_cons_succ, Res.bind_ok, i1, i2, ad, md _ 2147483629 (by decide), ml 16807 c (by decide) (by decide), mr _ c hc (by omega), e0]
  have q1 : cBin opMod (cBin opMul (cVar 3) (cC (.int 48271))) (cC (.int 2147483647)) [some (.ref n), some (.int lots), some (.int cell), some (.int w0)] h = .ok (.int w1) h := by
    simp only [cBin, cVar, cC, List.getElem?_cons_zero, List.getElem?_cons_succ, Res.bind_ok, mr w0 48271 (by decide) (by decide), md _ 2147483647 (by decide), e1]
  have q2 : cBin opMod (cBin opAdd (cBin opAdd (cBin opMul (cVar 3) (cVar 3)) (cBin opMul (cC (.int 69621)) (cBin opIx (cVar 0) (cC (.int 2))))) (cC (.int 11))) (cC (.int 2147483587)) [some (.ref n), some (.int lots), some (.int cell), some (.int w1)] h = .ok (.int w2) h := by
    simp only [cBin, cVar, cC, List.getElem?_cons_zero, List.getElem?_cons_succ, Res.bind_ok, i2, mr w1 w1 b1.1 (by omega), ml 69621 c (by decide) (by decide), ad, md _ 2147483587 (by decide), e2]
  have q3 : cBin opMod (cBin opFdiv (cBin opMod (cBin opMul (cVar 3) (cBin opAdd (cBin opFdiv (cVar 3) (cC (.int 5))) (cC (.int 39373)))) (cC (.int 2147483563))) (cC (.int 128))) (cVar 1) [some (.ref n), some (.int lots), some (.int cell), some (.int w2)] h = .ok (.int ((w3.fdiv 128).fmod lots)) h := by
    simp only [cBin, cVar, cC, List.getElem?_cons_zero, List.getElem?_cons_succ, Res.bind_ok, fd _ 5 (by decide) (by decide), fd _ 128 (by decide) (by decide), ad, ml w2 _ b2.1 (by omega), md _ 2147483563 (by decide), md _ lots hl, e3]
  refine ⟨(w3.fdiv 128).fmod lots, ?_, mb _ _ hl⟩
  unfold dealtTail
  exact (sSeq_nx (sSet_eq q0)).trans ((sSeq_nx (sSet_eq q1)).trans ((sSeq_nx (sSet_eq q2)).trans (sRet_eq q3)))
def dealtIf : SF := (sIf (tVal (cBin opNe (cBin opIx (cVar 0) (cC (.int 0))) (cLst aNil)))
      (sSeq (sSet 2 (cMeth "list" mPop (cBin opIx (cVar 0) (cC (.int 0))) aNil))
    (sIf (tVal (cBin opGe (cVar 2) (cBin opPow (cC (.int 10)) (cC (.int 18)))))
      (sSeq (sExpr (cMeth "list" mAppend (cBin opIx (cVar 0) (cC (.int 0))) (aCons (cBin opFdiv (cVar 2) (cVar 1)) aNil)))
    (sRet (cBin opMod (cVar 2) (cVar 1))))
      sPass))
      sPass)
def fDealt : FN := runB 2 4 (sSeq (sPut (cBin opAdd (cBin opIx (cVar 0) (cC (.int 2))) (cC (.int 1))) (cVar 0) (cC (.int 2)))
    (sSeq (sSet 2 (cBin opIx (cVar 0) (cC (.int 1))))
    (sSeq dealtIf dealtTail)))
theorem mod_ok {h : AH} {a b : Int} (h1 : 0 < b) : opMod (.int a) (.int b) h = .ok (.int (a.fmod b)) h := by
  have : b ≠ 0 := by omega
  simp [opMod, opII, this]
theorem dealtIf_ok {h1 : AH} {n m : Nat} {t c lots : Int} {cells : List Int} (hmn : m ≠ n) (hn1 : h1[n]? = some (.lst [.ref m, .int t, .int c])) (hm1 : h1[m]? = some (.lst (cells.map D.int))) (hl : 0 < lots) (hl2 : lots < 1000000) (hz : cells.length ≤ 100) :
    ∃ (h2 : AH) (cells2 : List Int), cells2.length ≤ 100 ∧ h2[n]? = some (.lst [.ref m, .int t, .int c]) ∧ h2[m]? = some (.lst (cells2.map D.int)) ∧ Step n m h1 h2 ∧
      ((∃ cell : Int, dealtIf [some (.ref n), some (.int lots), some (.int t), none] h1 = .nx [some (.ref n), some (.int lots), some (.int cell), none] h2) ∨
        ∃ r : Int, 0 ≤ r ∧ r < lots ∧ dealtIf [some (.ref n), some (.int lots), some (.int t), none] h1 = .ret (.int r) h2) := by
  have lm1 : m < h1.length := (List.getElem?_eq_some_iff.mp hm1).1
  have i0 : ∀ (h2 : AH), h2[n]? = some (.lst [.ref m, .int t, .int c]) → opIx (.ref n) (.int 0) h2 = .ok (.ref m) h2 := fun h2 e => by simp [opIx, seqD, atI, ixN, e]
  have h1a : (h1 ++ [O.lst []])[n]? = some (.lst [.ref m, .int t, .int c]) := by rw [List.getElem?_append_left (List.getElem?_eq_some_iff.mp hn1).1]; exact hn1
  have h1b : (h1 ++ [O.lst []])[m]? = some (.lst (cells.map D.int)) := by rw [List.getElem?_append_left lm1]; exact hm1
  have test : tVal (cBin opNe (cBin opIx (cVar 0) (cC (.int 0))) (cLst aNil)) [some (.ref n), some (.int lots), some (.int t), none] h1 = .ok (!cells.isEmpty) (h1 ++ [.lst []]) := by
    have p1 : pd 66 (h1 ++ [O.lst []]) (.ref m) = some (.list (cells.map PyData.int)) := by
      simp only [pd, h1b, pd_ints, Option.map_some]
    have p2 : pd 66 (h1 ++ [O.lst []]) (.ref h1.length) = some (.list []) := by simp [pd, omap]
    have s2 : SeqAt.shaped (.list []) = true := shaped_ints []
    simp [tVal, cBin, cVar, cC, i0 _ hn1, cLst, aNil, opNe, scalEq, p1, p2, shaped_ints, s2, eqv_ints, asBl]
  obtain ⟨h2, eh2⟩ : ∃ h2, h2 = h1 ++ [O.lst []] := ⟨_, rfl⟩
  rw [← eh2] at test h1a h1b
  have st2 : Step n m h1 h2 := by rw [eh2]; exact .app
  cases cells with
  | nil =>
    refine ⟨h2, [], hz, h1a, h1b, st2, .inl ⟨t, ?_⟩⟩
    exact sIf_f test
  | cons c0 cs =>
    obtain ⟨last, el⟩ : ∃ last, ((c0 :: cs).map D.int)[((c0 :: cs).map D.int).length - 1]? = some (.int last) := by
      refine ⟨((c0 :: cs)[(c0 :: cs).length - 1]'(by simp)), ?_⟩
      rw [List.length_map, List.getElem?_map, List.getElem?_eq_getElem (by simp)]
      rfl
    obtain ⟨h3, eh3⟩ : ∃ h3, h3 = h2.set m (.lst ((c0 :: cs).map D.int).dropLast) := ⟨_, rfl⟩
    have lm2 : m < h2.length := (List.getElem?_eq_some_iff.mp h1b).1
    have h3n : h3[n]? = some (.lst [.ref m, .int t, .int c]) := by rw [eh3, List.getElem?_set_ne hmn]; exact h1a
    have h3m : h3[m]? = some (.lst ((c0 :: cs).dropLast.map D.int)) := by rw [eh3, List.getElem?_set_self lm2, List.map_dropLast]
    have st3 : Step n m h2 h3 := by rw [eh3]; exact .set2
    have pop : sSet 2 (cMeth "list" mPop (cBin opIx (cVar 0) (cC (.int 0))) aNil) [some (.ref n), some (.int lots), some (.int t), none] h2 = .nx [some (.ref n), some (.int lots), some (.int last), none] h3 := by
      refine sSet_eq (d := .int last) ((cMeth_eq (d := .ref m) (h1 := h2) (cBin_eq (x := .ref n) (y := .int 0) rfl rfl |>.trans (i0 _ h1a)) (by simp [isTy, tyD, h1b]) aNil_eq).trans ?_)
      simp only [mPop, h1b, el, eh3]
    have test2 : ∀ h4, tVal (cBin opGe (cVar 2) (cBin opPow (cC (.int 10)) (cC (.int 18)))) [some (.ref n), some (.int lots), some (.int last), none] h4 = .ok (decide ((10 : Int) ^ 18 ≤ last)) h4 := fun h4 => by
      simp [tVal, cBin, cVar, cC, opPow, opII, opGe, asBl]
    have whole : dealtIf [some (.ref n), some (.int lots), some (.int t), none] h1 = _ := sIf_t test
    have whole2 := whole.trans (sSeq_nx pop)
    have st := st2.trans st3
    by_cases big : (10 : Int) ^ 18 ≤ last
    · have t2 := test2 h3
      rw [decide_eq_true big] at t2
      have whole3 := whole2.trans (sIf_t t2)
      obtain ⟨h4, eh4⟩ : ∃ h4, h4 = h3.set m (.lst ((c0 :: cs).dropLast.map D.int ++ [.int (last.fdiv lots)])) := ⟨_, rfl⟩
      have lm3 : m < h3.length := (List.getElem?_eq_some_iff.mp h3m).1
      have h4n : h4[n]? = some (.lst [.ref m, .int t, .int c]) := by rw [eh4, List.getElem?_set_ne hmn]; exact h3n
      have h4m : h4[m]? = some (.lst (((c0 :: cs).dropLast ++ [last.fdiv lots]).map D.int)) := by rw [eh4, List.getElem?_set_self lm3, List.map_append]; rfl
      have fd : opFdiv (.int last) (.int lots) h3 = .ok (.int (last.fdiv lots)) h3 := by
        have h1 : lots ≠ 0 := by omega
        have h2 : lots.natAbs < 1073741824 := by omega
        simp [opFdiv, opII, h1, h2]
      have lz : ((c0 :: cs).dropLast.map D.int).length < sizeLine := by
        rw [List.length_map, List.length_dropLast, sizeLine_eq]
        omega
      have app : sExpr (cMeth "list" mAppend (cBin opIx (cVar 0) (cC (.int 0))) (aCons (cBin opFdiv (cVar 2) (cVar 1)) aNil)) [some (.ref n), some (.int lots), some (.int last), none] h3 = .nx [some (.ref n), some (.int lots), some (.int last), none] h4 := by
        refine sExpr_eq (d := .non) ((cMeth_eq (d := .ref m) (h1 := h3) (h2 := h3) (ds := [.int (last.fdiv lots)]) (cBin_eq (x := .ref n) (y := .int 0) rfl rfl |>.trans (i0 _ h3n)) (by simp [isTy, tyD, h3m]) (aCons_eq ((cBin_eq (x := .int last) (y := .int lots) rfl rfl).trans fd) aNil_eq)).trans ?_)
        simp only [mAppend, h3m, eh4]
        rw [if_pos lz]
      have b := And.intro (Int.fmod_nonneg_of_pos last hl) (Int.fmod_lt_of_pos last hl)
      refine ⟨h4, (c0 :: cs).dropLast ++ [last.fdiv lots], ?_, h4n, h4m, st.trans (by rw [eh4]; exact .set2), .inr ⟨last.fmod lots, b.1, b.2, ?_⟩⟩
      · simp at hz ⊢
        omega
      · exact whole3.trans ((sSeq_nx app).trans (sRet_eq ((cBin_eq (x := .int last) (y := .int lots) rfl rfl).trans (mod_ok hl))))
    · have t2 := test2 h3
      rw [decide_eq_false big] at t2
      refine ⟨h3, (c0 :: cs).dropLast, ?_, h3n, h3m, st, .inl ⟨last, whole2.trans (sIf_f t2)⟩⟩
      simp at hz ⊢
      omega
theorem dealt_ok {h : AH} {n m : Nat} {c lots : Int} (H : Hand h n m c) (hc : 0 ≤ c) (hc2 : c < 1000000) (hl : 0 < lots) (hl2 : lots < 1000000) :
    ∃ (r : Int) (h' : AH), fDealt [.ref n, .int lots] h = .ok (.int r) h' ∧ 0 ≤ r ∧ r < lots ∧ Hand h' n m (c + 1) ∧ Step n m h h' := by
  obtain ⟨hmn, cells, t, hz, hn, hm⟩ := H
  have ln : n < h.length := (List.getElem?_eq_some_iff.mp hn).1
  obtain ⟨h1, eh1⟩ : ∃ h1, h1 = h.set n (.lst [.ref m, .int t, .int (c + 1)]) := ⟨_, rfl⟩
  have hn1 : h1[n]? = some (.lst [.ref m, .int t, .int (c + 1)]) := by rw [eh1]; simp [ln]
  have hm1 : h1[m]? = some (.lst (cells.map D.int)) := by rw [eh1, List.getElem?_set_ne (Ne.symm hmn)]; exact hm
  have st1 : Step n m h h1 := by rw [eh1]; exact .set1
  have z0 : sPut (cBin opAdd (cBin opIx (cVar 0) (cC (.int 2))) (cC (.int 1))) (cVar 0) (cC (.int 2)) [some (.ref n), some (.int lots), none, none] h = .nx [some (.ref n), some (.int lots), none, none] h1 := by
    simp [sPut, cBin, cVar, cC, opIx, seqD, atI, ixN, opAdd, putL, hn, eh1]
  have z1 : sSet 2 (cBin opIx (cVar 0) (cC (.int 1))) [some (.ref n), some (.int lots), none, none] h1 = .nx [some (.ref n), some (.int lots), some (.int t), none] h1 := by
    simp [sSet, cBin, cVar, cC, opIx, seqD, atI, ixN, hn1]
  obtain ⟨h2, cells2, hz2, g1, g2, st2, ⟨cell, e⟩ | ⟨r, r1, r2, e⟩⟩ := dealtIf_ok hmn hn1 hm1 hl hl2 hz
  · obtain ⟨r, e3, r1, r2⟩ := dealtTail_ok (cell := cell) (x := none) g1 (by omega) (by omega) hl hl2
    exact ⟨r, h2, runB_ret rfl ((sSeq_nx z0).trans ((sSeq_nx z1).trans ((sSeq_nx e).trans e3))), r1, r2, ⟨hmn, cells2, t, hz2, g1, g2⟩, st1.trans st2⟩
  · exact ⟨r, h2, runB_ret rfl ((sSeq_nx z0).trans ((sSeq_nx z1).trans (sSeq_ret e))), r1, r2, ⟨hmn, cells2, t, hz2, g1, g2⟩, st1.trans st2⟩
theorem Hand.get {h h' : AH} {n m : Nat} {c : Int} (H : Hand h n m c) (e1 : h'[n]? = h[n]?) (e2 : h'[m]? = h[m]?) : Hand h' n m c := by
  obtain ⟨a, cells, t, z, h1, h2⟩ := H
  exact ⟨a, cells, t, z, e1.trans h1, e2.trans h2⟩
theorem Hand.lt {h : AH} {n m : Nat} {c : Int} (H : Hand h n m c) : n < h.length ∧ m < h.length := by
  obtain ⟨a, cells, t, z, h1, h2⟩ := H
  exact ⟨(List.getElem?_eq_some_iff.mp h1).1, (List.getElem?_eq_some_iff.mp h2).1⟩
theorem Hand.app {h os : AH} {n m : Nat} {c : Int} (H : Hand h n m c) : Hand (h ++ os) n m c :=
  H.get (by rw [List.getElem?_append_left H.lt.1]) (by rw [List.getElem?_append_left H.lt.2])
theorem Hand.set {h : AH} {n m k : Nat} {c : Int} {o : O} (H : Hand h n m c) (h1 : k ≠ n) (h2 : k ≠ m) : Hand (h.set k o) n m c :=
  H.get (by rw [List.getElem?_set_ne h1]) (by rw [List.getElem?_set_ne h2])
/-! begun -/
def begunTurn : SF := (sSet 3 (cBin opMod (cBin opAdd (cBin opAdd (cBin opMul (cVar 3) (cC (.int 48271))) (cBin opMod (cVar 1) (cC (.int 2147483563)))) (cC (.int 17))) (cC (.int 2147483629))))
def fBegun : FN := runB 1 4 (sSeq (sPar2 2 3 (cCall fList (aCons (cCut (cVar 0) oNone (oSome (cC (.int 63)))) aNil)) (cC (.int 50021)))
    (sSeq (sFor (iAny (cVar 2)) (gN 1) begunTurn)
    (sRet (cLst (aCons (cRev (cVar 2)) (aCons (cVar 3) (aCons (cC (.int 0)) aNil)))))))
theorem begun_ok {ns : List Int} (hl : ns.length ≤ 63) : ∃ (n m : Nat) (h' : AH), fBegun [.rol (ns.map D.int)] [] = .ok (.ref n) h' ∧ Hand h' n m 0 := by
  have cut : cCut (cVar 0) oNone (oSome (cC (.int 63))) [some (.rol (ns.map D.int)), none, none, none] [] = .ok (.ref 0) [.lst (ns.map D.int)] := by
    refine (cCut_eq (d := .rol (ns.map D.int)) (l := none) (u := some 63) rfl rfl rfl).trans ?_
    have e : cutL (ns.map D.int) none (some 63) = ns.map D.int := by
      unfold cutL
      rw [show HT.sIx (ns.map D.int).length 0 none = 0 from rfl, show HT.sIx (ns.map D.int).length (ns.map D.int).length (some 63) = min 63 (ns.map D.int).length from HT.sIx_nat _ _ 63, List.length_map, Nat.min_eq_right hl, List.drop_zero, Nat.sub_zero, List.take_of_length_le (by rw [List.length_map]; exact Nat.le_refl _)]
    show Res.ok (D.ref 0) [O.lst (cutL (ns.map D.int) none (some 63))] = _
    rw [e]
  have lst : cCall fList (aCons (cCut (cVar 0) oNone (oSome (cC (.int 63)))) aNil) [some (.rol (ns.map D.int)), none, none, none] [] = .ok (.ref 1) [.lst (ns.map D.int), .lst (ns.map D.int)] := cCall_eq (aCons_eq cut aNil_eq)
  have it : iAny (cVar 2) [some (.rol (ns.map D.int)), none, some (.ref 1), some (.int 50021)] [.lst (ns.map D.int), .lst (ns.map D.int)] = .ok (.live 1 (ns.map D.int).length) [.lst (ns.map D.int), .lst (ns.map D.int)] := rfl
  obtain ⟨ε', h', e1, ⟨y, t, rfl⟩, rfl⟩ := sFor_inv (B := begunTurn) (g := gN 1) it (fun _ ε h => (∃ y t, ε = [some (.rol (ns.map D.int)), y, some (.ref 1), some (.int t)]) ∧ h = [.lst (ns.map D.int), .lst (ns.map D.int)]) ns.length (by simp [AIt.len]) ⟨⟨none, 50021, rfl⟩, rfl⟩
    (by
      rintro i ε h hi ⟨⟨y, t, rfl⟩, rfl⟩
      refine ⟨.int ns[i], [_, some (.int ns[i]), _, _], [_, _, _, some (.int ((t * 48271 + (ns[i]).fmod 2147483563 + 17).fmod 2147483629))], _, ?_, rfl, .inl (sSet_eq ?_), ⟨⟨_, _, rfl⟩, rfl⟩⟩
      · simp [AIt.item, hi]
      · have m1 : ∀ (a : Int) (h : AH), opMul (.int a) (.int 48271) h = .ok (.int (a * 48271)) h := fun a h => by simp [opMul, sm_l (show (0 : Int) ≤ 48271 by decide) (by decide)]
        exact (cBin_eq ((cBin_eq ((cBin_eq ((cBin_eq rfl rfl).trans (m1 _ _)) ((cBin_eq rfl rfl).trans (mod_ok (by decide)))).trans rfl) rfl).trans rfl) rfl).trans (mod_ok (by decide)))
    (by
      rintro ε h ⟨_, rfl⟩
      simp [AIt.fin])
  refine ⟨3, 2, [.lst (ns.map D.int), .lst (ns.map D.int), .lst (ns.map D.int).reverse, .lst [.ref 2, .int t, .int 0]], runB_ret rfl ((sSeq_nx (sPar2_eq lst rfl)).trans ((sSeq_nx e1).trans (sRet_eq (cLst_eq (ds := [.ref 2, .int t, .int 0]) (h1 := [.lst (ns.map D.int), .lst (ns.map D.int), .lst (ns.map D.int).reverse]) (aCons_eq (x := .ref 2) (h1 := [.lst (ns.map D.int), .lst (ns.map D.int), .lst (ns.map D.int).reverse]) rfl (aCons_eq (x := .int t) rfl (aCons_eq rfl aNil_eq))) ?_)))), by decide, ns.reverse, t, by rw [List.length_reverse]; omega, rfl, ?_⟩
  · rw [sizeLine_eq]
    exact Nat.le_of_ble_eq_true rfl
  · rw [List.map_reverse]
    rfl
/-! pick -/
def fPick : FN := runB 2 2 (sRet (cBin opIx (cVar 1) (cFn fDealt (aCons (cVar 0) (aCons (cCall fLen (aCons (cVar 1) aNil)) aNil)))))
theorem at_of {ds : List D} {r : Int} (h1 : 0 ≤ r) (h2 : r < ds.length) : ∃ d, d ∈ ds ∧ atI ds r = some d := by
  have hl : r.toNat < ds.length := by omega
  refine ⟨ds[r.toNat], List.getElem_mem hl, ?_⟩
  unfold atI ixN
  rw [if_pos h1, if_pos h2]
  exact List.getElem?_eq_getElem hl
theorem pick_ok {h : AH} {n m s : Nat} {c : Int} {ds : List D} (H : Hand h n m c) (hc : 0 ≤ c) (hc2 : c < 1000000) (hs : h[s]? = some (.lst ds)) (hsn : s ≠ n) (hsm : s ≠ m) (h0 : ds ≠ []) (hz : ds.length < 1000000) :
    ∃ (d : D) (h' : AH), fPick [.ref n, .ref s] h = .ok d h' ∧ d ∈ ds ∧ Hand h' n m (c + 1) ∧ Step n m h h' := by
  have hp : 0 < ds.length := List.length_pos_iff.mpr h0
  obtain ⟨r, h', e, r1, r2, H', st⟩ := dealt_ok (lots := ds.length) H hc hc2 (by omega) (by omega)
  have hs' : h'[s]? = some (.lst ds) := (st.keep s hsn hsm (List.getElem?_eq_some_iff.mp hs).1).trans hs
  obtain ⟨d, hd, ed⟩ := at_of r1 r2
  refine ⟨d, h', runB_ret rfl (sRet_eq ((cBin_eq (x := .ref s) (y := .int r) (h1 := h) (h2 := h') rfl (cFn_eq (aCons_eq (x := .ref n) (h1 := h) rfl (aCons_eq (x := .int ds.length) (h1 := h) (h2 := h) ?_ aNil_eq)) |>.trans e)).trans ?_)), hd, H', st⟩
  · refine (cCall_eq (aCons_eq (x := .ref s) (h1 := h) rfl aNil_eq)).trans ?_
    simp only [fLen, hs]
  · simp only [opIx, seqD, hs', ed]
end Mi

namespace Mi
open L2 PySem PySem.Spec PyProof.Rows

/-! ### texts of few plain signs -/
def Asc (n : Nat) (x : Str) : Prop := x.length ≤ n ∧ ∀ c ∈ x.cps.toList, c < 128
theorem len_list (x : Str) : x.length = x.cps.toList.length := by simp [Str.length]
theorem Asc.mono {n m : Nat} {x : Str} (a : Asc n x) (h : n ≤ m) : Asc m x := ⟨Nat.le_trans a.1 h, a.2⟩
theorem Asc.app {n m : Nat} {x y : Str} (a : Asc n x) (b : Asc m y) : Asc (n + m) (x ++ y) := by
  have e : (x ++ y).cps.toList = x.cps.toList ++ y.cps.toList := by
    show (x.cps ++ y.cps).toList = _
    simp
  refine ⟨?_, fun c hc => ?_⟩
  · rw [len_list, e, List.length_append, ← len_list, ← len_list]
    exact Nat.add_le_add a.1 b.1
  · rw [e] at hc
    rcases List.mem_append.mp hc with q | q
    · exact a.2 c q
    · exact b.2 c q
theorem asc_nil : Asc 0 (⟨#[]⟩ : Str) := ⟨Nat.le_refl _, fun c hc => by simp at hc⟩
theorem asc_one {c : Nat} (h : c < 128) : Asc 1 (⟨#[c]⟩ : Str) := ⟨Nat.le_refl _, fun d hd => by simp at hd; omega⟩
theorem Asc.sub {n : Nat} {x : Str} {l : List Nat} (a : Asc n x) (s : l.Sublist x.cps.toList) : Asc n ⟨l.toArray⟩ := by
  refine ⟨?_, fun c hc => a.2 c (s.subset (by simpa using hc))⟩
  rw [len_list]
  have := s.length_le
  rw [← len_list] at this
  exact Nat.le_trans (by simpa using this) a.1
theorem Asc.cut {n : Nat} {x : Str} (a : Asc n x) (lo hi : Option Int) : Asc n (cutS x lo hi) :=
  a.sub ((List.take_sublist _ _).trans (List.drop_sublist _ _))
theorem asc_join : ∀ ys : List Str, (∀ y ∈ ys, Asc 1 y) → Asc ys.length (Str.join (⟨#[]⟩ : Str) ys)
  | [], _ => asc_nil
  | [y], h => h y List.mem_cons_self
  | y :: z :: r, h => by
    have ih := asc_join (z :: r) fun w hw => h w (List.mem_cons_of_mem _ hw)
    have q := ((h y List.mem_cons_self).app asc_nil).app ih
    refine q.mono ?_
    simp only [List.length_cons]
    omega
theorem Asc.ok {n : Nat} {x : Str} (a : Asc n x) : PyData.strOk x = true := by
  unfold PyData.strOk
  rw [← Array.all_toList]
  refine List.all_eq_true.mpr fun c hc => ?_
  have := a.2 c hc
  simp only [decide_eq_true_eq]
  omega
/-- the text of what is data -/
theorem reprD_of {h : AH} {d : D} {p : PyData} (e : pd 60 h d = some p) (h1 : p.showable = true) (h2 : PyData.layable0 p = true) (h3 : p.intsShort 13 = true) : ∃ s, reprD d h = some s := by
  have z := shown_le13 h2 h3
  have q : p.showable = true ∧ p.shown.length ≤ sizeLine := ⟨h1, by rw [sizeLine_eq]; omega⟩
  refine ⟨p.shown, ?_⟩
  unfold reprD
  rw [e]
  simp only
  rw [if_pos q]
theorem reprD_str {h : AH} {x : Str} {n : Nat} (a : Asc n x) (hn : n ≤ 100000) : ∃ s, reprD (.str x) h = some s := by
  refine reprD_of (p := .str x) rfl (by simp [PyData.showable]) ?_ (by simp [PyData.intsShort])
  have : x.cps.size ≤ n := a.1
  have z : x.cps.size ≤ 2 ^ 20 := by omega
  simp only [PyData.layable0, PyData.canLay0, a.ok, PyData.depth, PyData.weight, Bool.true_and, Bool.and_eq_true, decide_eq_true_eq]
  exact ⟨rfl, decide_eq_true z⟩

/-! ### what is behind stays as it is -/
theorem getElem_pre {h h' : AH} {n : Nat} {o : O} (p : h <+: h') (e : h[n]? = some o) : h'[n]? = some o := by
  obtain ⟨r, rfl⟩ := p
  rw [List.getElem?_append_left (List.getElem?_eq_some_iff.mp e).1]
  exact e
theorem omap_imp {α β : Type} {f g : α → Option β} (i : ∀ x y, f x = some y → g x = some y) : ∀ {xs : List α} {ys : List β}, omap f xs = some ys → omap g xs = some ys
  | [], _, e => e
  | x :: xs, ys, e => by
    unfold omap at e ⊢
    cases q1 : f x with
    | none => rw [q1] at e; cases e
    | some y =>
      cases q2 : omap f xs with
      | none => rw [q1, q2] at e; cases e
      | some zs =>
        rw [q1, q2] at e
        rw [i _ _ q1, omap_imp i q2]
        exact e
theorem pd_pre {h h' : AH} (p : h <+: h') : ∀ (n : Nat) (d : D) (q : PyData), pd n h d = some q → pd n h' d = some q := by
  intro n
  induction n with
  | zero =>
    intro d q e
    cases d <;> simp only [pd] at e ⊢ <;> first | exact e | cases e
  | succ n ih =>
    intro d q e
    cases d with
    | tup xs =>
      simp only [pd, Option.map_eq_some_iff] at e ⊢
      obtain ⟨ps, z, rfl⟩ := e
      exact ⟨ps, omap_imp ih z, rfl⟩
    | rol xs =>
      simp only [pd, Option.map_eq_some_iff] at e ⊢
      obtain ⟨ps, z, rfl⟩ := e
      exact ⟨ps, omap_imp ih z, rfl⟩
    | ref r =>
      simp only [pd] at e ⊢
      split at e <;> first | (cases e; done) | skip
      rename_i xs q1
      rw [getElem_pre p q1]
      obtain ⟨ps, z, rfl⟩ := Option.map_eq_some_iff.mp e
      exact Option.map_eq_some_iff.mpr ⟨ps, omap_imp ih z, rfl⟩
    | _ => simp only [pd] at e ⊢ <;> first | exact e | cases e
def pd0 : D → Option PyData
  | .non => some .none
  | .bl b => some (.bool b)
  | .int i => some (.int i)
  | .str x => some (.str x)
  | _ => none
theorem pd_zero {h : AH} {d : D} : pd 0 h d = pd0 d := by cases d <;> rfl
theorem reprD_pre {h h' : AH} (p : h <+: h') {d : D} {s : Str} (e : reprD d h = some s) : reprD d h' = some s := by
  unfold reprD at e ⊢
  cases q : pd 60 h d with
  | some x =>
    rw [q] at e
    rw [pd_pre p _ _ _ q]
    exact e
  | none =>
    rw [q] at e
    simp only at e
    cases d with
    | ref n =>
      simp only [pdDict] at e
      cases q2 : h[n]? with
      | none => rw [q2] at e; cases e
      | some o =>
        rw [q2] at e
        cases o with
        | dic kvs =>
          have e0 : (pd 60 h' (.ref n)) = none := by simp only [pd, getElem_pre p q2]
          have same : pdDict h' (.ref n) = pdDict h (.ref n) := by
            unfold pdDict
            simp only [getElem_pre p q2, q2, pd_zero]
          rw [e0, same]
          unfold pdDict
          simp only [q2]
          exact e
        | _ => cases e
    | _ => cases e
theorem tyD_pre {h h' : AH} (p : h <+: h') {d : D} {t : String} (e : tyD d h = some t) : tyD d h' = some t := by
  cases d with
  | ref n =>
    simp only [tyD] at e ⊢
    cases q2 : h[n]? with
    | none => rw [q2] at e; cases e
    | some o =>
      rw [getElem_pre p q2]
      rw [q2] at e
      exact e
  | _ => exact e
end Mi

namespace Mi
open L2 PySem PySem.Spec PyProof.Rows

/-- [y for d in ds if b]: nothing is changed by y, b -/
theorem cComp_filter {iF : IF} {g : TF'} {t : TF} {F : EF} {own : List Nat} {ε : AEnv} {h h1 : AH} {ds : List D} (hi : iF ε h = .ok (.fix ds) h1) (hs : ds.length < sizeLine) (e : D → AEnv) (b : D → Bool) (y : D → D)
    (hg : ∀ d ∈ ds, ∀ h, g d (wipeA ε own) h = some (e d)) (ht : ∀ d ∈ ds, ∀ h, t (e d) h = .ok (b d) h) (hF : ∀ d ∈ ds, ∀ h, F (e d) h = .ok (y d) h) : cComp iF g t F own ε h = .ok (.ref h1.length) (h1 ++ [.lst ((ds.filter b).map y)]) := by
  have tk : ∀ i (hi : i < ds.length), ds.take (i + 1) = ds.take i ++ [ds[i]] := fun i hi => by rw [List.take_succ, List.getElem?_eq_getElem hi]; rfl
  obtain ⟨acc, h', e1, rfl, rfl⟩ := cComp_inv (it := .fix ds) (g := g) (t := t) (F := F) (own := own) hi (fun i acc h2 => acc = ((ds.take i).filter b).map y ∧ h2 = h1 ++ [.lst acc]) ds.length rfl hs
    (by rintro i acc h2 ⟨_, rfl⟩; simp)
    (by
      rintro i acc h2 ⟨rfl, _⟩
      rw [List.length_map]
      exact Nat.le_trans (List.length_filter_le _ _) (by rw [List.length_take]; exact Nat.min_le_left _ _))
    ⟨by simp, rfl⟩
    (by
      rintro i acc h2 hlt ⟨rfl, rfl⟩
      have hm : ds[i] ∈ ds := List.getElem_mem hlt
      refine ⟨ds[i], e ds[i], b ds[i], _, by simp [AIt.item, hlt], hg _ hm _, ht _ hm _, ?_⟩
      cases q : b ds[i] with
      | false => exact .inl ⟨rfl, by rw [tk i hlt, List.filter_append]; simp [q], rfl⟩
      | true => exact .inr ⟨rfl, y ds[i], _, hF _ hm _, by simp, by rw [tk i hlt, List.filter_append]; simp [q], by simp⟩)
    (by rintro acc h2 _; rfl)
  rw [e1, List.take_length]

/-! ### rows of texts -/
theorem strs_shaped {ys : List Str} (hy : ∀ y ∈ ys, PyData.strOk y = true) : SeqAt.shaped (.list (ys.map PyData.str)) = true := by
  have h1 : ∀ ys : List Str, (∀ y ∈ ys, PyData.strOk y = true) → PyData.canLayAll0 (ys.map PyData.str) = true := fun ys => by
    induction ys with
    | nil => intro _; simp [PyData.canLayAll0]
    | cons c cs ih =>
      intro hy
      simp [PyData.canLayAll0, PyData.canLay0, hy c List.mem_cons_self, ih fun z hz => hy z (List.mem_cons_of_mem _ hz)]
  have h2 : ∀ cs : List Str, PyData.depthAll (cs.map PyData.str) = 0 := fun cs => by
    induction cs with
    | nil => simp [PyData.depthAll]
    | cons c cs ih => simp [PyData.depthAll, PyData.depth, ih]
  simp [SeqAt.shaped, PyData.canLay0, PyData.depth, h1 ys hy, h2]
theorem pd_strs (h : AH) (k : Nat) : ∀ ys : List Str, omap (pd k h) (ys.map D.str) = some (ys.map PyData.str)
  | [] => rfl
  | c :: cs => by
    simp only [List.map_cons]
    unfold omap
    rw [pd_strs h k cs]
    cases k <;> rfl
theorem pd_lst {h : AH} {n k : Nat} {ds : List D} {ps : List PyData} (e : h[n]? = some (.lst ds)) (q : omap (pd k h) ds = some ps) : pd (k + 1) h (.ref n) = some (.list ps) := by
  simp only [pd, e, q, Option.map_some]
theorem eqv_strs (ys : List Str) : PyData.eqv (.list (ys.map PyData.str)) (.list []) = ys.isEmpty := by
  cases ys with
  | nil => simp [PyData.eqv, PyData.eqvAll]
  | cons c cs => simp [PyData.eqv, PyData.eqvAll]
/-- a row of texts == [] -/
theorem opEq_strs {h : AH} {n m : Nat} {ys : List Str} (hn : h[n]? = some (.lst (ys.map D.str))) (hm : h[m]? = some (.lst [])) (hy : ∀ y ∈ ys, PyData.strOk y = true) : opEq (.ref n) (.ref m) h = .ok (.bl ys.isEmpty) h := by
  have p1 := pd_lst hn (pd_strs h 65 ys)
  have p2 : pd 66 h (.ref m) = some (.list []) := pd_lst hm rfl
  have s2 : SeqAt.shaped (.list []) = true := shaped_ints []
  simp only [opEq, scalEq, p1, p2, strs_shaped hy, s2, and_self, if_true, eqv_strs]
theorem get_last {h : AH} {o : O} : (h ++ [o])[h.length]? = some o := by simp
theorem get_old {h : AH} {o : O} {n : Nat} {u : O} (e : h[n]? = some u) : (h ++ [o])[n]? = some u := by
  rw [List.getElem?_append_left (List.getElem?_eq_some_iff.mp e).1]
  exact e
end Mi

namespace Mi
open L2 PySem PySem.Spec PyProof.Rows GxR

/-! ### all(test for x in text), the test of names of the module, too -/
/-- the test: the sign c stands at x; what the text has written stands -/
def EltQ (X : Cx) (scope : Scope) (x : Str) (elt : Expr) (pb : Nat → Bool) : Prop :=
  ∀ (cenv : Env) (A' : Around) (E' : Value → Shared → Prop) (c : Nat) (t : Tok) (s : Shared) (m : Str → Option Value), L2.Mod X.K X.mg X.base → cenv.scope = scope → cenv.globals = mainGlobals → cenv.builtins = builtinsNs → (∀ b o, X.base.get? b = some o → s.heap.get? b = some o) → A'.handled = none →
    s.heap.Ns cenv.locals m → m x = some (.str ⟨#[c]⟩ t) → wpAny (model X.prog X.w) A' (eval elt cenv) (fun y s' => y = .bool (pb c) ∧ Keeps s s') E' s
section
variable {X : Cx} {pins : List (Addr × Obj)} {σ : L2.St} {H : Hp} {s : Shared} {W : WX} {cls ts : List Addr}
theorem gen_strQ {c P : Addr} {elt iter : Expr} {x : Str} {px gpos : Pos} {scope : Scope} {pb : Nat → Bool} {te : TE} {k : Nat} {Qv : Value → Shared → Prop} {R : Str → Hp → Prop} (hr : Room k X.A) (TB : TabB X.base X.mg c P) (hcode : X.env.code = .ref c) (S : GenS X.env scope x) (hi : PE X iter te) (hel : EltQ X scope x elt pb)
    (hs : ∀ v, genFold iter X.env v = pure v) (I : Inv X pins σ H s) (h : te σ H fun v H1 => ∃ a : Str, v = .str a ∧ TabG H1 P ∧ R a H1) (hQ : ∀ a H1 g s5, R a H1 → Ready X pins σ H1 P a pb g s5 → Qv (.ref g) s5) :
    wpAny (model X.prog X.w) X.A (eval (.GeneratorExp elt [⟨.Name x px, iter, [], 0⟩] scope gpos) X.env) Qv X.xe s := by
  refine wpAny_GeneratorExp_walksQ hr.hd S.co (closure_ok S.free) S.cell S.dot S.loc S.kind (by have := hr.dp; omega) (thn (hi.run pins s σ H _ I h) ?_) hs
  rintro xv s1 ⟨_, H1, I1, r1, a, rfl, ⟨ps, hP, ht⟩, q1⟩
  obtain ⟨t, rfl⟩ := (show ∃ t, xv = Value.str a t from r1)
  refine wpAny_pyIter_str fun o St Wk hst => ⟨I1.nolimit.push o, ?_⟩
  have atP : s1.heap.get? P = some (tblO ps) := I1.hok P _ hP
  have ltP := Heap.lt_size atP
  have up2 : ∀ b u, s1.heap.get? b = some u → (s1.heap.push o).get? b = some u := fun b u e => Heap.get?_push_of_some _ e
  have cd := TB.code.keeps fun b u e => up2 b u (I1.bk b u e)
  have go : ∀ (code : Value) (h3 : Heap) (tk : Nat) (qs more : Array Value), qs = ps ++ more → Heap.ExtBut P (s1.heap.push o) h3 → (s1.heap.push o).objs.size ≤ h3.objs.size → h3.get? P = some (tblO qs) → TriplesOk qs.toList →
      wpAny (model X.prog X.w) X.A (builtinsFor X.env.globals X.env.builtins) (fun bi s₄ => ∃ Ia fp wr n₀ Pf St₀ pz F, Value.ref s1.heap.objs.size = .ref Ia ∧ (∀ A' : Around, A'.handled = none → Walks X.prog X.w A' Ia fp wr n₀ Pf St₀) ∧ St₀ 0 s₄.heap ∧ (∀ b ∈ fp, b < s₄.heap.objs.size) ∧ s₄.heap.NoLimit ∧ cStatics ∉ wr ∧
        (∀ href : Heap, (∀ b o, s₄.heap.get? b = some o → href.get? b = some o) → QuietGen X.prog X.w (genEnv scope (cloFrom X.env.cells scope.names []) s₄.heap.objs.size code bi X.env) x [] elt (List.range s₄.heap.objs.size) wr Pf pz F href) ∧
        ∀ a h₅ tk gs, gs.bare = true → s₄.heap.objs.size < a → h₅.objs.size = a + 1 → (∀ b o, s₄.heap.get? b = some o → h₅.get? b = some o) →
          WalksS X.prog X.w X.A.in4 a (a :: s₄.heap.objs.size :: List.range s₄.heap.objs.size) (s₄.heap.objs.size :: wr) (GenOnlyQ s₄.gens.size) (passing pz n₀ 0).length (fun j y => ∃ i, (passing pz n₀ 0)[j]? = some i ∧ F i y) (GenAt X.prog X.w X.A.in4 a s₄.gens.size s₄.heap.objs.size (List.range s₄.heap.objs.size) wr pz n₀ F) →
          GenAt X.prog X.w X.A.in4 a s₄.gens.size s₄.heap.objs.size (List.range s₄.heap.objs.size) wr pz n₀ F 0 { s₄ with gens := s₄.gens.push gs, toks := tk, heap := h₅ } → Qv (.ref a) { s₄ with gens := s₄.gens.push gs, toks := tk, heap := h₅ }) X.xe { s1 with heap := h3, toks := tk } := by
    rintro code h3 tk qs more eq hx hz hP3 ht3
    obtain ⟨bm, ob, e1, e2, e3, e4, e5, e6, e7, e8⟩ := TB.bm
    have sz2 : (s1.heap.push o).objs.size = s1.heap.objs.size + 1 := Heap.size_push ..
    have k3 : ∀ b u, b ≠ P → s1.heap.get? b = some u → h3.get? b = some u := fun b u hb e => hx b u hb (up2 b u e)
    have noC : cStatics ≠ P ∧ cStatics < s1.heap.objs.size := by
      obtain ⟨_, hns, _⟩ := I1.nolimit
      refine ⟨fun e => ?_, hns.lt⟩
      obtain ⟨o', es, ep, ho, hd, _⟩ := hns
      rw [e, atP] at ho
      cases ho
      cases hd
    -- what the text has written is none of the table, none of the iterator
    have basN : ∀ b u, X.base.get? b = some u → b ≠ P ∧ b < s1.heap.objs.size := fun b u e => by
      refine ⟨fun z => ?_, Heap.lt_size (I1.bk b u e)⟩
      have q := (I1.bs b u e).2
      rw [z, hP] at q
      cases q
    refine wpAny_builtinsFor (m := X.mg) (by rw [I1.ok.glob]; exact ((I1.mod.glob.keeps I1.bk).push o).extBut hx TB.gP) e1 e2 (k3 _ _ e4 (I1.bk _ _ e5)) e6 e7 e8 ?_
    refine ⟨s1.heap.objs.size, [s1.heap.objs.size], [s1.heap.objs.size], a.cps.size, SignAt a, St, (fun _ => true), (fun i y => ∃ cc, a.cps[i]? = some cc ∧ y = .bool (pb cc)), rfl, Wk, ?_, fun b hb => ?_, (I1.nolimit.push o).extBut hx noC.1, fun z => ?_, fun href hh => ⟨fun A' E' i v s₂ m₂ _ _ _ _ _ => ?_, fun A' E' i v s₂ m₂ hA hv _ hn hm hk => ?_⟩, ?_⟩
    · refine (Wk X.A hr.hd).frame _ _ _ hst fun b hb u e => hx b u (fun z => ?_) e
      rw [List.mem_singleton] at hb
      exact Nat.ne_of_lt ltP (z.symm.trans hb)
    · rw [List.mem_singleton.mp hb]
      show s1.heap.objs.size < h3.objs.size
      omega
    · exact Nat.ne_of_lt noC.2 (List.mem_singleton.mp z)
    · rw [List.forIn_nil]
      exact wpAny_pure ⟨rfl, keeps_refl _⟩
    · obtain ⟨cc, u, hcc, rfl⟩ := hv
      refine wpAny_mono (hel _ A' E' cc u s₂ m₂ I1.mod rfl (by show X.env.globals = _; exact I1.ok.glob) rfl (fun b o' e => ?_) hA hn hm) (fun y s3 r => ⟨⟨cc, hcc, r.1⟩, r.2⟩) fun _ _ e => e
      obtain ⟨n1, n2⟩ := basN b o' e
      have e9 := k3 b o' n1 (I1.bk b o' e)
      refine hk b (List.mem_range.mpr (Heap.lt_size e9)) (fun z => ?_) o' (hh b o' e9)
      exact Nat.ne_of_lt n2 (List.mem_singleton.mp z)
    · intro g h5 tk5 gs hgb hag hsz5 hk5 W5 hat
      simp only [GxR.passing_true, List.length_range] at W5
      refine hQ a H1 g _ q1 ⟨_, _, _, _, _, W5.in4_1, hat, ?_, fun s' hm => ?_⟩
      · rintro j y sj Qj Ej ⟨i, hij, cc, hcc, rfl⟩ hQj
        obtain ⟨hj, ej⟩ := List.getElem?_eq_some_iff.mp hij
        rw [List.getElem_range] at ej
        subst ej
        have hQ2 : Qj (trF pb a.cps.toList j) sj := hQj
        rw [trF_some (b := cc) (by rw [Array.getElem?_toList]; exact hcc)] at hQ2
        exact wpAny_truthy_bool hQ2
      · have nwr : ∀ b u, s1.heap.get? b = some u → b ∉ h3.objs.size :: [s1.heap.objs.size] := fun b u e hb => by
          have hl := Heap.lt_size e
          have z3 : s1.heap.objs.size < h3.objs.size := by omega
          rcases List.mem_cons.mp hb with z | z
          · rw [z] at hl
            exact Nat.lt_asymm z3 hl
          · rw [List.mem_singleton.mp z] at hl
            exact Nat.lt_irrefl _ hl
        have J := inv_tab (more := more) (h' := s'.heap) (g' := s'.gens) (d' := s'.drawn) (t' := s'.toks) I1 hP (fun b u hb e => hm.heap b u (nwr b u e) (hk5 b u (k3 b u hb e)))
          (by rw [← eq]; exact hm.heap P _ (nwr P _ atP) (hk5 P _ hP3)) (AllBare.movedS (I1.bare.push hgb) hm)
        rw [sh_eta s1 s' hm.os] at J
        exact ⟨upd H1 P (.tbl (ps ++ more)), ⟨⟨ps ++ more, upd_same, by rw [← eq]; exact ht3⟩, fun b hb => upd_ne hb⟩, J⟩
  cases hf : codeAmong gpos ps.toList with
  | some cv => exact wpAny_genexprCode_hit hcode (cd.code (up2 _ _ atP) ht) hf (go cv (s1.heap.push o) s1.toks ps #[] (by simp) (Heap.ExtBut.refl _ _) (Nat.le_refl _) (up2 _ _ atP) ht)
  | none =>
    refine wpAny_genexprCodeX hcode (cd.code (up2 _ _ atP) ht) (cd.tab (up2 _ _ atP)) hf fun c' h' tk hx hge hlt hco _ htab _ => ?_
    obtain ⟨_, _, _, _, _, _, _, _, _, _, _, _, _, _, _, _, _, _, _, htr, _⟩ := hco
    exact go _ h' tk _ _ rfl hx (Nat.le_trans hge (Nat.le_of_lt hlt)) htab.2 htr
theorem e_allQ {c P : Addr} {elt iter : Expr} {x : Str} {px p pos gpos : Pos} {scope : Scope} {pb : Nat → Bool} {F : EF} {k : Nat} (hr : Room k X.A) (hg : Gl X "all") (hm : X.mg "all" = none) (TB : TabB X.base X.mg c P) (hcode : X.env.code = .ref c) (hP : P ∈ ts)
    (S : GenS X.env scope x) (hi : E' X cls ts W iter F) (hel : EltQ X scope x elt pb) (hs : ∀ v, genFold iter X.env v = pure v)
    (he : starEach [.GeneratorExp elt [⟨.Name x px, iter, [], 0⟩] scope gpos] X.env = [(false, eval (.GeneratorExp elt [⟨.Name x px, iter, [], 0⟩] scope gpos) X.env)] := by rfl) :
    E' X cls ts W (.Call (.Name "all" p) [.GeneratorExp elt [⟨.Name x px, iter, [], 0⟩] scope gpos] [] pos) (cAllS pb F) := by
  refine ⟨fun pins s σ H Q I ⟨ρ, ε, h, hH, hE, q⟩ => ?_⟩
  have q1 : tE X.K cls ts W F σ H fun v H1 => ∃ a : Str, v = .str a ∧ TabG H1 P ∧ ∀ H2, Tabbed P H1 H2 → Q (.bl (a.cps.toList.all pb)) H2 := tG_bind hH hE q fun ρ1 H1 v h1 d _ e1 hH1 rv hE1 p1 => by
    cases rv <;> first | exact p1.elim | skip
    refine ⟨_, rfl, (hH1.tab P hP).2, fun H2 t => ?_⟩
    obtain ⟨e2, hH2⟩ := tabbed_ext hH1 hP t
    exact p1 _ _ _ e2 hH2 (.bl _)
  have he' : starEach [.GeneratorExp elt [⟨.Name x px, iter, [], 0⟩] scope gpos] X.env = (false, eval (.GeneratorExp elt [⟨.Name x px, iter, [], 0⟩] scope gpos) X.env) :: starEach [] X.env := he
  refine wpAny_Call_Name_kw (ld_blt I hg hm (by with_unfolding_all rfl : bootBuiltins "all" = some (.builtin "all")) (PyProof.Rows.callWith_builtin1 ?_ he' (by rfl)))
  rw [he']
  show wpAny _ _ (spliced ((false, eval (.GeneratorExp elt [⟨.Name x px, iter, [], 0⟩] scope gpos) X.env) :: [])) _ _ s
  refine Calls.spliced_cons (gen_strQ hr TB hcode S hi hel hs I q1 fun a H1 g s5 hR hG => ?_)
  obtain ⟨fp, wr, G, Fw, St, Ws, hst, htr, hI⟩ := hG
  refine Calls.spliced_nil (call_all_walkS (Ws.self 0 _ _ _ hst ⟨g, fp, wr, G, _, Fw, St, _, rfl, Ws, hst, htr, fun s' hmv => ?_⟩))
  obtain ⟨H2, hT, J⟩ := hI s' hmv
  refine ⟨.bl _, H2, J, rfl, ?_⟩
  rw [all_signs a pb]
  exact hR H2 hT
end
end Mi

namespace Mi
open L2 PySem PySem.Spec PyProof.Rows GxR

/-! ### tests of a sign, step by step -/
structure QC (X : Cx) (scope : Scope) (x : Str) (cenv : Env) (A' : Around) (c : Nat) (t : Tok) (m : Str → Option Value) (s : Shared) : Prop where
  md : L2.Mod X.K X.mg X.base
  sc : cenv.scope = scope
  gl : cenv.globals = mainGlobals
  bl : cenv.builtins = builtinsNs
  bs : ∀ b o, X.base.get? b = some o → s.heap.get? b = some o
  hd : A'.handled = none
  ns : s.heap.Ns cenv.locals m
  at_ : m x = some (.str ⟨#[c]⟩ t)
theorem keeps_trans {a b c : Shared} (h : Keeps a b) (k : Keeps b c) : Keeps a c := by
  obtain ⟨h1, t1, rfl, k1⟩ := h
  obtain ⟨h2, t2, rfl, k2⟩ := k
  exact ⟨h2, t2, rfl, fun d o e => k2 d o (k1 d o e)⟩
theorem QC.on {X : Cx} {scope : Scope} {x : Str} {cenv : Env} {A' : Around} {c : Nat} {t : Tok} {m : Str → Option Value} {s s' : Shared} (q : QC X scope x cenv A' c t m s) (k : Keeps s s') : QC X scope x cenv A' c t m s' := by
  obtain ⟨h1, t1, rfl, k1⟩ := k
  exact ⟨q.md, q.sc, q.gl, q.bl, fun b o e => k1 b o (q.bs b o e), q.hd, q.ns.keeps k1, q.at_⟩
def QEv (X : Cx) (scope : Scope) (x : Str) (e : Expr) (f : Nat → V) : Prop := ∀ (cenv : Env) (A' : Around) (E' : Value → Shared → Prop) (c : Nat) (t : Tok) (m : Str → Option Value) (s : Shared), QC X scope x cenv A' c t m s →
  wpAny (model X.prog X.w) A' (eval e cenv) (fun y s' => RelV (f c) y ∧ Keeps s s') E' s
theorem elt_of {X : Cx} {scope : Scope} {x : Str} {e : Expr} {pb : Nat → Bool} (h : QEv X scope x e fun c => .bl (pb c)) : EltQ X scope x e pb := fun cenv A' E' c t s m h0 h1 h2 h3 h4 h5 h6 h7 =>
  wpAny_mono (h cenv A' E' c t m s ⟨h0, h1, h2, h3, h4, h5, h6, h7⟩) (fun _ _ r => ⟨r.1, r.2⟩) fun _ _ z => z
section
variable {X : Cx} {scope : Scope} {x : Str} {a b d e : Expr} {fa fb fd : Nat → V} {pos p1 p2 p3 : Pos}
theorem q_str {z : Str} {j : Nat} : QEv X scope x (.Constant (.str z) j pos) fun _ => .str z := fun _ _ _ _ _ _ _ _ => Calls.Constant_str ⟨⟨_, rfl⟩, keeps_tok _ _⟩
theorem q_int {z : Int} {j : Nat} : QEv X scope x (.Constant (.int z) j pos) fun _ => .int z := fun _ _ _ _ _ _ _ _ => wpAny_Constant_int ⟨⟨_, rfl⟩, keeps_tok _ _⟩
theorem q_sign (hk : scope.kind = .function) (hl : scope.names.lookup x = some .local) (hd : (x == ("__debug__" : Str)) = false := by decide) : QEv X scope x (.Name x pos) fun c => .str ⟨#[c]⟩ := fun cenv A' E' c t m s q =>
  wpAny_Name (wpAny_loadName_local (by rw [q.sc]; exact hk) (show cenv.scope.names.lookup x = some .local by rw [q.sc]; exact hl) q.ns q.at_ ⟨⟨_, rfl⟩, keeps_refl _⟩) hd
theorem q_glob {y : Str} {v : V} (hk : scope.kind = .function) (hl : scope.names.lookup y = some .globalImplicit) (hm : ∃ u, X.mg y = some u ∧ RelV v u) (hd : (y == ("__debug__" : Str)) = false := by decide) : QEv X scope x (.Name y pos) fun _ => v := fun cenv A' E' c t m s q => by
  obtain ⟨u, hu, r⟩ := hm
  exact Calls.Name_function_global (by rw [q.sc]; exact hk) (show cenv.scope.names.lookup y = some .globalImplicit by rw [q.sc]; exact hl) (Calls.loadGlobal_global (by rw [q.gl]; exact q.md.glob.keeps q.bs) hu ⟨r, keeps_refl _⟩) hd
theorem q_ord (hk : scope.kind = .function) (hl : scope.names.lookup ("ord" : Str) = some .globalImplicit) (hm : X.mg "ord" = none) (ha : QEv X scope x a fun c => .str ⟨#[c]⟩)
    (he : ∀ cenv : Env, starEach [a] cenv = [(false, eval a cenv)] := by intro _; rfl) : QEv X scope x (.Call (.Name "ord" p1) [a] [] pos) fun c => .int (c : Nat) := fun cenv A' E' c t m s q => by
  obtain ⟨mb, h1, h2⟩ := q.md.blt
  refine wpAny_Call_Name_kw (Calls.Name_function_global (by rw [q.sc]; exact hk) (show cenv.scope.names.lookup ("ord" : Str) = some .globalImplicit by rw [q.sc]; exact hl)
    (Calls.loadGlobal_builtin (by rw [q.gl]; exact q.md.glob.keeps q.bs) hm (by rw [q.bl]; exact h1.keeps q.bs) ((h2 _ (by decide)).trans boot_ord) ?_) (by decide))
  have he' : starEach [a] cenv = (false, eval a cenv) :: starEach [] cenv := he cenv
  refine PyProof.Rows.callWith_builtin1 ?_ he' (by rfl)
  rw [he']
  show wpAny _ _ (spliced ((false, eval a cenv) :: [])) _ _ s
  refine Calls.spliced_cons (wpAny_mono (ha cenv A' E' c t m s q) (fun y s1 r => ?_) fun _ _ z => z)
  obtain ⟨⟨u, rfl⟩, k⟩ := r
  refine Calls.spliced_nil (PySem.P.ord_of_char ⟨⟨_, rfl⟩, keeps_trans k (keeps_tok _ _)⟩)
/-- a <= x <= b of texts -/
theorem q_between {z1 z2 : Str} {j1 j2 : Nat} (hk : scope.kind = .function) (hl : scope.names.lookup x = some .local) (hd : (x == ("__debug__" : Str)) = false := by decide) (hm : lastMarks [.LtE, .LtE] [.Name x p1, .Constant (.str z2) j2 p2] = false := by with_unfolding_all rfl) :
    QEv X scope x (.Compare (.Constant (.str z1) j1 p3) [.LtE, .LtE] [.Name x p1, .Constant (.str z2) j2 p2] pos) fun c => .bl (between z1 z2 c) := fun cenv A' E' c t m s q =>
  wpAny_mono (elt_between (prog := X.prog) (w := X.w) hk hl hd hm cenv A' E' c t s m q.sc q.ns q.at_) (fun _ _ r => ⟨r.1, r.2⟩) fun _ _ z => z
/-- a not in (G, H), ints of the module -/
theorem q_notin2 {y z : Str} {i j : Int} {k : Nat} {fi : Nat → Int} (ha : QEv X scope x a fun c => .int (fi c)) (hy : QEv X scope x (.Name y p1) fun _ => .int i) (hz : QEv X scope x (.Name z p2) fun _ => .int j) (hm : behindInMarks .NotIn (.Tuple [.Name y p1, .Name z p2] k p3) = false := by with_unfolding_all rfl)
    (he : ∀ cenv : Env, starEach [.Name y p1, .Name z p2] cenv = [(false, eval (.Name y p1) cenv), (false, eval (.Name z p2) cenv)] := by intro _; rfl) :
    QEv X scope x (.Compare a [.NotIn] [.Tuple [.Name y p1, .Name z p2] k p3] pos) fun c => .bl (!([i, j].any (· == fi c))) := fun cenv A' E' c t m s q => by
  refine wpAny_Compare1 (wpAny_mono (ha cenv A' E' c t m s q) (fun va s1 r => ?_) fun _ _ z => z)
  obtain ⟨⟨t1, rfl⟩, k1⟩ := r
  refine wpAny_Tuple_spliced ?_
  rw [he cenv]
  show wpAny _ _ (spliced ((false, eval (.Name y p1) cenv) :: (false, eval (.Name z p2) cenv) :: [])) _ _ s1
  refine Calls.spliced_cons (wpAny_mono (hy cenv A' E' c t m s1 (q.on k1)) (fun vy s2 r => ?_) fun _ _ z => z)
  obtain ⟨⟨t2, rfl⟩, k2⟩ := r
  refine Calls.spliced_cons (wpAny_mono (hz cenv A' E' c t m s2 ((q.on k1).on k2)) (fun vz s3 r => ?_) fun _ _ z => z)
  obtain ⟨⟨t3, rfl⟩, k3⟩ := r
  refine Calls.spliced_nil ⟨by rw [sizeLine_eq]; exact Nat.le_of_ble_eq_true rfl, ?_⟩
  refine notin_tuple_ints (ns := [i, j]) ⟨_, Heap.get?_push_size _ rfl, rfl, 0, rfl⟩ (.cons _ _ (.cons _ _ .nil)) ⟨rfl, keeps_trans k1 (keeps_trans k2 (keeps_trans k3 ⟨_, _, rfl, fun b o e => Heap.get?_push_of_some _ e⟩))⟩
theorem q_one {op : BoolOp} (ha : QEv X scope x a fa) : QEv X scope x (.BoolOp op [a] pos) fa := fun cenv A' E' c t m s q => BoolOp_one (ha cenv A' E' c t m s q)
theorem q_and {rest : List Expr} {ba bb : Nat → Bool} (ha : QEv X scope x a fun c => .bl (ba c)) (hb : QEv X scope x (.BoolOp .And (b :: rest) pos) fun c => .bl (bb c)) : QEv X scope x (.BoolOp .And (a :: b :: rest) pos) fun c => .bl (ba c && bb c) := fun cenv A' E' c t m s q => by
  refine BoolOp_and (wpAny_mono (ha cenv A' E' c t m s q) (fun va s1 r => ?_) fun _ _ z => z)
  obtain ⟨rv, k1⟩ := r
  obtain rfl : va = Value.bool (ba c) := rv
  refine wpAny_truthy_bool ?_
  cases e : ba c with
  | false => exact ite_ff ⟨by show Value.bool false = Value.bool (ba c && bb c); rw [e]; rfl, k1⟩
  | true => exact ite_tt (wpAny_mono (hb cenv A' E' c t m s1 (q.on k1)) (fun vb s2 r => ⟨by have z : vb = Value.bool (bb c) := r.1; show vb = Value.bool (ba c && bb c); rw [z, e]; rfl, keeps_trans k1 r.2⟩) fun _ _ z => z)
end
end Mi

namespace Mi
open L2 PySem PySem.Spec PyProof.Rows

/-! ### name op= e -/
def sAug (i : Nat) (f : Op2) (F : EF) : SF := fun ε h => match ε[i]? with
  | some (some x) => (F ε h).st ε fun y h1 => (f x y h1).st ε fun z h2 => .nx (ε.set i (some z)) h2
  | _ => .stuck
def opIAdd : Op2 := opII (fun _ _ => true) (· + ·)
theorem iop_addM {X : Cx} : OpR X (inplaceOp .Add) (rI (fun _ _ => True) fun i j => .int (i + j)) := opI fun _ _ _ _ _ _ _ _ q => iadd_int q
theorem opIAdd_ok {K : PySem.W.Frag} {cls ts : List Addr} : OpS K cls ts (rI (fun _ _ => True) fun i j => .int (i + j)) opIAdd := opII_ok fun _ _ _ => trivial
section
variable {X : Cx} {W : WX} {cls ts : List Addr} {e : Expr} {es : List Expr} {F : EF} {A : AF} {pos p : Pos} {x : Str}
theorem s_aug {i : Nat} {op : Operator} {r : R2} {f : Op2} {pos' : Pos} (hN : X.N.Nodup) (hi : X.N[i]? = some x) (hx : Loc X.env.scope x) (ho : OpR X (inplaceOp op) r) (os : OpS X.K cls ts r f) (he : E' X cls ts W e F)
    (hf : X.fn x = true ∨ X.env.scope.names.lookup x = some .local := by first | exact .inl rfl | exact .inr rfl | assumption) : S' X cls ts W (.AugAssign (.Name x pos') op e pos) (sAug i f F) := by
  refine ⟨fun pins s σ H E I ⟨ρ, ε, h, hH, hE, q⟩ => (ps_aug (ti := r) hN hi hx he ho hf).run pins s σ H E I ?_⟩
  unfold sAug at q
  split at q <;> first | exact q.elim | skip
  rename_i d ed
  obtain ⟨v, ev, rv⟩ := hE.2 i d ed
  refine ⟨v, ev, tS_bind hH hE q fun ρ1 H1 y h1 dy _ e1 hH1 ry hE1 p1 => ?_⟩
  have p1' : PostS X.K cls ts W ρ1 H1 ((f d dy h1).st ε fun z h2 => .nx (ε.set i (some z)) h2) E := p1
  refine os (fun c dd H' => W c dd σ H') ρ1 H1 h1 v y d dy _ hH1 (rv.mono e1) ry ?_
  cases z : f d dy h1 with
  | stuck => rw [z] at p1'; exact p1'
  | exc k h' => rw [z] at p1'; exact fun ρ' H' c dd e2 hH2 rx => p1' ρ' H' σ c dd e2 hH2 (hE1.mono e2) rx
  | ok w h2 => rw [z] at p1'; exact fun ρ' H' u e2 hH2 ru => p1' ρ' H' _ e2 hH2 ((hE1.mono e2).set ru)

/-! ### a call of what a name holds -/
def cCallV (i : Nat) (Fs : List (Addr × FN)) (A : AF) : EF := fun ε h => match ε[i]? with
  | some (some (.own a)) => match Fs.lookup a with
    | some c => (A ε h).bind c
    | none => .stuck
  | _ => .stuck
/-- the def at f, whatever its name -/
structure CaA (P : Program) (w : World) (K : PySem.W.Frag) (mg : Str → Option Value) (base : Heap) (cls ts : List Addr) (k : Nat) (f : Addr) (c : FN) : Prop where
  ex : ∃ fd ps, FnG P w K mg base cls ts k f fd ps c ∧ PySem.W.keepIn K (.ref f) = true ∧ Binds K fd ps []
theorem e_callV {i k : Nat} {Fs : List (Addr × FN)} (hF : ∀ f c, Fs.lookup f = some c → CaA X.prog X.w X.K X.mg X.base cls ts k f c) (hgu : X.A.guards = some []) (hr : Room k X.A) (tk : Takes X W) (hN : X.N[i]? = some x) (ha : A' X cls ts W (e :: es) A)
    (hv : Vis X.env.scope x := by first | exact Or.inl rfl | exact Or.inr (Or.inl rfl) | exact Or.inr (Or.inr rfl)) (hdb : (x == ("__debug__" : Str)) = false := by decide) (hcd : (x == ("__classdict__" : Str)) = false := by decide)
    (he : starEach (e :: es) X.env = (false, eval e X.env) :: starEach es X.env := by rfl) (hpl : (backTo pos (starEach es X.env)).any (·.1) = false := by rfl) : E' X cls ts W (.Call (.Name x p) (e :: es) [] pos) (cCallV i Fs A) := by
  refine ⟨fun pins s σ H Q I ⟨ρ, ε, h, hH, hE, q⟩ => ?_⟩
  unfold cCallV at q
  split at q <;> first | exact q.elim | skip
  rename_i a ea
  split at q <;> first | exact q.elim | skip
  rename_i c ec
  obtain ⟨v, ev, rv⟩ := hE.2 i _ ea
  cases rv
  obtain ⟨fd, ps, Fg, hk, hb⟩ := (hF a c ec).ex
  have q1 : tA X.K cls ts W A σ H (Rdy X.K cls ts c (fun u dd H' => W u dd σ H') Q) := tG_bind hH hE q fun ρ1 H1 vs h1 ds _ e1 hH1 rv hE1 p1 => ⟨ρ1, h1, ds, hH1, rv, p1⟩
  refine wpAny_Call_Name_kw (thn ((pe_var (pos := p) hN hv hdb hcd).run pins s σ H (fun v H1 => v = .ref a ∧ H1 = H) I ⟨.ref a, ev, rfl, rfl⟩) fun u s1 ⟨v, H1, I1, r1, z1, z2⟩ => ?_)
  subst z1 z2
  cases r1
  refine PySem.W.callWith_K (h₀ := X.base) I.ok.mod.kin hk (thn (ha.run pos pins s1 σ _ _ I1 q1) fun us s2 ⟨vs, H2, I2, r, ρ1, h1, ds, hH1, rv, p1⟩ => ⟨I2.kIn, ?_⟩) he hpl
  exact run_g Fg hgu hr tk (fun hl => by have z := hb s2 us I2.kIn (by rw [List.append_nil]; exact hl); rw [List.append_nil] at z; exact z) I2 r hH1 rv p1
/-- a def as a value -/
theorem e_fun {f : Addr} (hg : Gl X x) (hm : X.mg x = some (.ref f)) (hd : (x == ("__debug__" : Str)) = false := by decide) : E' X cls ts W (.Name x pos) (cC (.own f)) := e_glob hg hm (v := .ref f) rfl (fun _ _ _ => .own f) hd
end

/-! ### sum, max, abs, ord; extend -/
def asInt : D → Option Int
  | .int i => some i
  | _ => none
section
variable {K : PySem.W.Frag} {cls ts ρ : List Addr} {H : Hp} {h : AH}
theorem ints_of : ∀ {xs : List V} {ds : List D} {ns : List Int}, RVs K ρ H xs ds → omap asInt ds = some ns → xs = ns.map V.int
  | _, _, _, .nil, e => by cases e; rfl
  | _, _, _, .cons r rs, e => by
    unfold omap at e
    split at e <;> first | (cases e; done) | skip
    rename_i y ys q1 q2
    cases e
    cases r <;> cases q1
    rw [ints_of rs q2] <;> rfl
def fSum : OpN
  | [.ref n], h => match h[n]? with
    | some (.lst ds) => match omap asInt ds with
      | some ns => .ok (.int ns.sum) h
      | none => .stuck
    | _ => .stuck
  | _, _ => .stuck
theorem sum_ok : CallS K cls ts (rSum K) fSum := by
  intro W ρ H h xs ds Q r rs p
  unfold fSum at p
  split at p <;> first | exact p.elim | skip
  obtain ⟨v, rfl, rv⟩ := rs.one
  cases rv with
  | ref q1 =>
    split at p <;> first | exact p.elim | skip
    rename_i e1
    split at p <;> first | exact p.elim | skip
    rename_i ns e2
    obtain ⟨us, k1, r1⟩ := r.lst q1 e1
    obtain rfl := ints_of r1 e2
    exact ⟨_, ns, rfl, SqL.of k1, post_val r (.int _) p⟩
def fAbs : OpN
  | [.int i], h => .ok (.int (if i < 0 then -i else i)) h
  | _, _ => .stuck
theorem abs_ok : CallS K cls ts (fun xs H Q => ∃ i, xs = [.int i] ∧ Q (.int (if i < 0 then -i else i)) H) fAbs := by
  intro W ρ H h xs ds Q r rs p
  unfold fAbs at p
  split at p <;> first | exact p.elim | skip
  obtain ⟨v, rfl, rv⟩ := rs.one
  cases rv
  exact ⟨_, rfl, post_val r (.int _) p⟩
def fOrd : OpN
  | [.str x], h => if x.length = 1 then .ok (.int (x.cps.getD 0 0 : Nat)) h else .stuck
  | _, _ => .stuck
theorem ord_ok1 : CallS K cls ts (fun xs H Q => ∃ x, xs = [.str x] ∧ x.length = 1 ∧ Q (.int (x.cps.getD 0 0 : Nat)) H) fOrd := by
  intro W ρ H h xs ds Q r rs p
  unfold fOrd at p
  split at p <;> first | exact p.elim | skip
  obtain ⟨v, rfl, rv⟩ := rs.one
  cases rv
  split at p <;> first | exact p.elim | skip
  rename_i c
  exact ⟨_, rfl, c, post_val r (.int _) p⟩
def mExtend : OpM
  | .ref n, [.ref k], h => match h[n]?, h[k]? with
    | some (.lst xs), some (.lst ys) => if xs.length + ys.length ≤ sizeLine then .ok .non (h.set n (.lst (xs ++ ys))) else .stuck
    | _, _ => .stuck
  | _, _, _ => .stuck
theorem extend_ok : MtS K cls ts "list" rExtend mExtend := by
  intro W ρ H h x dx xs ds Q r rx rs p
  unfold mExtend at p
  split at p <;> first | exact p.elim | skip
  split at p <;> first | exact p.elim | skip
  rename_i e1 e2
  split at p <;> first | exact p.elim | skip
  rename_i c
  obtain ⟨v, rfl, rv⟩ := rs.one
  cases rx with
  | ref q1 =>
    cases rv with
    | ref q2 =>
      obtain ⟨us, k1, r1⟩ := r.lst q1 e1
      obtain ⟨ws, k2, r2⟩ := r.lst q2 e2
      exact ⟨_, _, _, _, rfl, rfl, k1, k2, by rw [r1.length, r2.length]; exact c, post_put (us := us) r q1 (r1.append r2) .non p⟩
end
end Mi

namespace Mi
open L2 PySem PySem.Spec PyProof.Rows

/-! ### == of unlike kinds, of unlike lengths -/
theorem dict_eq_str (l : Addr) (es : Array DictEntry) (n : Nat) (dd : Option Addr) (sl : Array (Option Value)) (b : Str) (u : Tok) :
    Meets (Builtin.«dict.__eq__» ⟨[.ref l, .str b u], []⟩) (fun _ R s => s.heap.get? l = some { cls := .type "dict", dict := dd, data := .dict es n, slots := sl } ∧ R (.ok (.ret .notImplemented)) s) :=
  .of_wp fun prog w A R s h => by obtain ⟨hp, g, d, tk, os⟩ := s; obtain ⟨hl, h⟩ := h; have f1 := F.sub_str_dict; wp_walk using wpAny_loadPart' hl; exact ⟨_, rfl, h⟩
theorem str_eq_dict (b : Str) (u : Tok) (l : Addr) (es : Array DictEntry) (n : Nat) (dd : Option Addr) (sl : Array (Option Value)) :
    Meets (Builtin.«str.__eq__» ⟨[.str b u, .ref l], []⟩) (fun _ R s => s.heap.get? l = some { cls := .type "dict", dict := dd, data := .dict es n, slots := sl } ∧ R (.ok (.ret .notImplemented)) s) :=
  .of_wp fun prog w A R s h => by obtain ⟨hp, g, d, tk, os⟩ := s; obtain ⟨hl, h⟩ := h; wp_walk using wpAny_loadPart' hl, wpAny_load hl; exact ⟨_, rfl, h⟩
theorem rc_dict_str {A : Around} {s : Shared} {l : Addr} {es : Array DictEntry} {n : Nat} {dd : Option Addr} {sl : Array (Option Value)} (b : Str) (u : Tok) (ho : s.heap.get? l = some { cls := .type "dict", dict := dd, data := .dict es n, slots := sl }) (hu : A.units < cLine) : SeqAt.RcAt A s (.ref l) (.str b u) false := fun prog w E Q h =>
  SeqAt.rc_eq_decline_or (k := false) ⟨_, ho, rfl⟩ (typeIs_str s b u) (by decide) F.sub_str_dict F.slot_dict_eq F.slot_str_eq_refl
    (fun _ hq => call_meets F.slot_dict_eq ⟨_, ho, rfl⟩ F.entry_dict_eq (F.args_dict_eq_2 _ _) (dict_eq_str l es n dd sl b u) ⟨ho, hq⟩)
    (fun _ hq => call_meets F.slot_str_eq_refl (typeIs_str s b u) F.entry_str_eq (F.args_str_eq_2 _ _) (str_eq_dict b u l es n dd sl) ⟨ho, hq⟩) (fun _ hq => wpAny_of_eq (rfl : isSame (.ref l) (.str b u) = pure false) hq) (.inr hu) h
/-- a list, a tuple, a dict stands at x -/
def Box (K : PySem.W.Frag) (H : Hp) (x : V) : Prop := ∃ a, x = .ref a ∧ ((∃ xs, SqL K H a xs) ∨ (∃ xs, SqT K H a xs) ∨ ∃ kvs, H a = some (.dK kvs))
/-- what is compared is none of it: a box and a text; two rows of unlike lengths, two of none -/
def rEqX (K : PySem.W.Frag) : R2 := fun x y H Q => (∃ z, y = .str z ∧ Box K H x ∧ Q (.bl false) H) ∨ (∃ a b xs ys, x = .ref a ∧ y = .ref b ∧ SqL K H a xs ∧ SqL K H b ys ∧ xs.length ≠ ys.length ∧ Q (.bl false) H) ∨
  ∃ a b xs ys, x = .ref a ∧ y = .ref b ∧ SqT K H a xs ∧ SqT K H b ys ∧ ((xs ≠ [] ∧ ys = [] ∧ Q (.bl false) H) ∨ (xs = [] ∧ ys = [] ∧ Q (.bl true) H))
theorem op_eqX {X : Cx} (hu : X.A.units + 64 < cLine) : OpR X (compareOp .Eq) (rEqX X.K) := by
  intro pins s σ H x y v u Q I rx ry h
  have hu0 : X.A.units < cLine := by omega
  have fin : ∀ {k : Bool}, Q (.bl k) H → SeqAt.RcAt X.A s v u k → wpAny (model X.prog X.w) X.A (compareOp .Eq v u) (EP X pins σ Q) X.xe s := fun {k} q r => r X.prog X.w _ _ ⟨.bl k, H, I, rfl, q⟩
  rcases h with ⟨z, rfl, ⟨a, rfl, hb⟩, q⟩ | ⟨a, b, xs, ys, rfl, rfl, ha, hb, ne, q⟩ | ⟨a, b, xs, ys, rfl, rfl, ha, hb, q⟩
  · obtain ⟨t, rfl⟩ := ry
    obtain rfl : v = Value.ref a := rx
    refine fin q ?_
    rcases hb with ⟨xs, hb⟩ | ⟨xs, hb⟩ | ⟨kvs, hb⟩
    · obtain ⟨us, _, p1, _⟩ := I.list hb
      exact SeqAt.RcAt.list_str z t p1.isList hu0
    · obtain ⟨us, _, p1, _⟩ := I.tuple hb
      exact SeqAt.RcAt.tuple_str z t p1 hu0
    · obtain ⟨_, _, vs, _, o, es, ep, ho, ex, hd, _⟩ := dk_of I.hok hb
      obtain ⟨oc, od, odt, osl⟩ := o
      obtain ⟨rfl, _⟩ := ex
      subst hd
      exact rc_dict_str z t ho hu0
  · obtain rfl : v = Value.ref a := rx
    obtain rfl : u = Value.ref b := ry
    obtain ⟨us, r1, p1, _⟩ := I.list ha
    obtain ⟨ws, r2, p2, _⟩ := I.list hb
    refine fin q (SeqAt.RcAt.lists_lengths p1.isList p2.isList ?_ hu0)
    rw [bne_iff_ne, List.size_toArray, List.size_toArray, ← r1.length, ← r2.length]
    exact ne
  · obtain rfl : v = Value.ref a := rx
    obtain rfl : u = Value.ref b := ry
    obtain ⟨us, r1, p1, _⟩ := I.tuple ha
    obtain ⟨ws, r2, p2, _⟩ := I.tuple hb
    have go : ys = [] → SeqAt.RcAt X.A s (.ref a) (.ref b) (us.length == ws.length) := fun e => by
      subst e
      cases r2
      have z := SeqAt.RcAt.tuples (A := X.A) (e := fun _ => true) p1 p2 hu0 (fun j h1 h2 => absurd h2 (by simp))
      simpa using z
    rcases q with ⟨n1, e, q⟩ | ⟨n1, e, q⟩
    · refine fin q ?_
      have z := go e
      subst e
      cases r2
      cases r1 with
      | nil => exact absurd rfl n1
      | cons _ _ => exact z
    · refine fin q ?_
      have z := go e
      subst e n1
      cases r1
      cases r2
      exact z
end Mi

namespace Mi
open L2 PySem PySem.Spec PyProof.Rows

/-! ### ==, in: boxes, too -/
def isBox (x : D) (h : AH) : Bool :=
  match x with
  | .tup _ => true
  | .rol _ => true
  | .ref n => match h[n]? with
    | some (.lst _) => true
    | some (.dic _) => true
    | _ => false
  | _ => false
def lstD (x : D) (h : AH) : Option (List D) :=
  match x with
  | .rol xs => some xs
  | .ref n => match h[n]? with
    | some (.lst xs) => some xs
    | _ => none
  | _ => none
def eqX (x y : D) (h : AH) : Option Bool :=
  match y with
  | .str _ => if isBox x h = true then some false else none
  | .tup [] => match x with
    | .tup xs => some xs.isEmpty
    | _ => none
  | _ => match lstD x h, lstD y h with
    | some xs, some ys => if xs.length ≠ ys.length then some false else none
    | _, _ => none
def opEq2 : Op2 := fun x y h => match eqX x y h with
  | some b => .ok (.bl b) h
  | none => opEq x y h
theorem box_of {K : PySem.W.Frag} {cls ts ρ : List Addr} {H : Hp} {h : AH} {v : V} {d : D} (r : RH K cls ts ρ H h) (rv : RV K ρ H v d) (e : isBox d h = true) : Box K H v := by
  cases rv with
  | tup h1 r1 => exact ⟨_, rfl, .inr (.inl ⟨_, h1⟩)⟩
  | rol h1 r1 => exact ⟨_, rfl, .inl ⟨_, h1.sq⟩⟩
  | ref q1 =>
    simp only [isBox] at e
    split at e <;> first | (cases e; done) | skip
    · rename_i xs e1
      obtain ⟨us, k1, _⟩ := r.lst q1 e1
      exact ⟨_, rfl, .inl ⟨_, SqL.of k1⟩⟩
    · rename_i xs e1
      obtain ⟨us, k1, _⟩ := r.dic q1 e1
      exact ⟨_, rfl, .inr (.inr ⟨_, k1⟩)⟩
  | _ => cases e
theorem lst_of {K : PySem.W.Frag} {cls ts ρ : List Addr} {H : Hp} {h : AH} {v : V} {d : D} {ds : List D} (r : RH K cls ts ρ H h) (rv : RV K ρ H v d) (e : lstD d h = some ds) : ∃ a xs, v = .ref a ∧ SqL K H a xs ∧ xs.length = ds.length := by
  cases rv with
  | rol h1 r1 => cases e; exact ⟨_, _, rfl, h1.sq, r1.length⟩
  | ref q1 =>
    simp only [lstD] at e
    split at e <;> cases e
    rename_i e1
    obtain ⟨us, k1, r1⟩ := r.lst q1 e1
    exact ⟨_, _, rfl, SqL.of k1, r1.length⟩
  | _ => cases e
theorem op_eq2 {X : Cx} (hu : X.A.units + 64 < cLine) : OpR X (compareOp .Eq) (fun x y H Q => rEqX X.K x y H Q ∨ rEqM X.K x y H Q) := (op_eqX hu).or (op_eqM hu)
theorem opEq2_ok {K : PySem.W.Frag} {cls ts : List Addr} : OpS K cls ts (fun x y H Q => rEqX K x y H Q ∨ rEqM K x y H Q) opEq2 := by
  intro W ρ H h x y dx dy Q r rx ry p
  unfold opEq2 at p
  split at p
  · rename_i b e
    refine .inl ?_
    unfold eqX at e
    split at e
    · split at e <;> cases e
      rename_i c
      cases ry
      exact .inl ⟨_, rfl, box_of r rx c, post_val r (.bl _) p⟩
    · split at e <;> cases e
      cases ry with
      | tup h2 r2 =>
        cases r2
        cases rx with
        | tup h1 r1 =>
          refine .inr (.inr ⟨_, _, _, _, rfl, rfl, h1, h2, ?_⟩)
          cases r1 with
          | nil => exact .inr ⟨rfl, rfl, post_val r (.bl _) p⟩
          | cons a b => exact .inl ⟨List.cons_ne_nil _ _, rfl, post_val r (.bl _) p⟩
    · split at e <;> first | (cases e; done) | skip
      rename_i xs ys e1 e2
      split at e <;> cases e
      rename_i c
      obtain ⟨a, us, rfl, h1, l1⟩ := lst_of r rx e1
      obtain ⟨b, ws, rfl, h2, l2⟩ := lst_of r ry e2
      exact .inr (.inl ⟨_, _, _, _, rfl, rfl, h1, h2, by rw [l1, l2]; exact c, post_val r (.bl _) p⟩)
  · exact .inr (opEq_ok _ _ _ _ _ _ _ _ _ r rx ry p)
/-- a box in a tuple of texts -/
theorem str_eq_box {X : Cx} {pins : List (Addr × Obj)} {σ : L2.St} {H : Hp} {s : Shared} {A : Around} {x : V} {u : Value} (I : L2.Inv X pins σ H s) (hb : Box X.K H x) (r : RelV x u) (hu : A.units < cLine) (b : Str) (t : Tok) : SeqAt.EqAt A s (.str b t) u false := by
  obtain ⟨a, rfl, hb⟩ := hb
  obtain rfl : u = Value.ref a := r
  rcases hb with ⟨xs, hb⟩ | ⟨xs, hb⟩ | ⟨kvs, hb⟩
  · obtain ⟨us, _, p1, _⟩ := I.list hb
    exact SeqAt.EqAt.str_list b t p1.isList hu
  · obtain ⟨us, _, p1, _⟩ := I.tuple hb
    exact SeqAt.EqAt.str_tuple b t p1 hu
  · obtain ⟨_, _, vs, _, o, es, ep, ho, ex, hd, _⟩ := dk_of I.hok hb
    obtain ⟨oc, od, odt, osl⟩ := o
    obtain ⟨rfl, _⟩ := ex
    subst hd
    intro prog w E Q h
    unfold eqBool
    refine wpAny_holding (wpAny_ite_split (fun hab => absurd (eq_of_beq hab) nofun) fun _ => wpAny_bind ?_)
    exact SeqAt.rc_eq_decline_or (k := false) (typeIs_str s b t) ⟨_, ho, rfl⟩ (by decide) F.sub_dict_str F.slot_str_eq F.slot_dict_eq_refl
      (fun _ hq => call_meets F.slot_str_eq (typeIs_str s b t) F.entry_str_eq (F.args_str_eq_2 _ _) (str_eq_dict b t a es ep od osl) ⟨ho, hq⟩)
      (fun _ hq => call_meets F.slot_dict_eq_refl ⟨_, ho, rfl⟩ F.entry_dict_eq (F.args_dict_eq_2 _ _) (dict_eq_str a es ep od osl b t) ⟨ho, hq⟩) (fun _ hq => wpAny_of_eq (rfl : isSame (.str b t) (.ref a) = pure false) hq) (.inr hu) (wpAny_truthy_bool h)
theorem vals_mem_str {zs : List Str} : ∀ {us : List Value}, Vals (zs.map V.str) us → ∀ u ∈ us, ∃ z t, u = Value.str z t := by
  induction zs with
  | nil => intro us r u hu; cases r; cases hu
  | cons z zs ih =>
    intro us r u hu
    cases r with
    | cons a b =>
      rcases List.mem_cons.mp hu with rfl | hu
      · obtain ⟨t, rfl⟩ := a
        exact ⟨z, t, rfl⟩
      · exact ih b u hu
def rInX (K : PySem.W.Frag) (n : Bool) : R2 := fun x y H Q => ∃ (p : Addr) (zs : List Str), y = .ref p ∧ SqT K H p (zs.map V.str) ∧ Box K H x ∧ Q (.bl n) H
theorem any_false {α : Type} (xs : Array α) : (xs.any fun _ => false) = false := by
  rw [← Array.any_toList]
  simp
theorem op_inX {X : Cx} (hu : X.A.units + 65 < cLine) : OpR X (compareOp .In) (rInX X.K false) := by
  rintro pins s σ H x y v u Q I rx ry ⟨p, zs, rfl, hs, hb, q⟩
  obtain rfl : u = Value.ref p := ry
  obtain ⟨us, r1, p1, _⟩ := I.tuple hs
  refine SeqAt.in_tupleAt (fun _ => false) p1 (fun w hw => ?_) ⟨.bl false, H, I, ?_, q⟩
  · obtain ⟨z, t, rfl⟩ := vals_mem_str r1 w (by simpa using hw)
    exact str_eq_box I hb rx (by show X.A.units + 1 < cLine; omega) z t
  · rw [any_false]
    rfl
theorem op_notInX {X : Cx} (hu : X.A.units + 65 < cLine) : OpR X (compareOp .NotIn) (rInX X.K true) := by
  rintro pins s σ H x y v u Q I rx ry ⟨p, zs, rfl, hs, hb, q⟩
  obtain rfl : u = Value.ref p := ry
  obtain ⟨us, r1, p1, _⟩ := I.tuple hs
  refine SeqAt.notIn_tupleAt (fun _ => false) p1 (fun w hw => ?_) ⟨.bl true, H, I, ?_, q⟩
  · obtain ⟨z, t, rfl⟩ := vals_mem_str r1 w (by simpa using hw)
    exact str_eq_box I hb rx (by show X.A.units + 1 < cLine; omega) z t
  · rw [any_false]
    rfl
def inX (x y : D) (h : AH) : Bool := match y with
  | .tup ys => isBox x h && (omap asStr ys).isSome
  | _ => false
def opIn2 : Op2 := fun x y h => if inX x y h = true then .ok (.bl false) h else opIn x y h
def opNotIn2 : Op2 := fun x y h => if inX x y h = true then .ok (.bl true) h else opNotIn x y h
section
variable {K : PySem.W.Frag} {cls ts ρ : List Addr} {H : Hp} {h : AH}
theorem inX_ok {n : Bool} {x y : V} {dx dy : D} {Q : VK} (r : RH K cls ts ρ H h) (rx : RV K ρ H x dx) (ry : RV K ρ H y dy) (e : inX dx dy h = true) (q : Q (.bl n) H) : rInX K n x y H Q := by
  unfold inX at e
  split at e <;> first | (cases e; done) | skip
  cases ry with
  | tup h2 r2 =>
    rw [Bool.and_eq_true] at e
    obtain ⟨zs, ez⟩ := Option.isSome_iff_exists.mp e.2
    rw [strs_of r2 ez] at h2
    exact ⟨_, zs, rfl, h2, box_of r rx e.1, q⟩
theorem opIn2_ok : OpS K cls ts (fun x y H Q => rInX K false x y H Q ∨ rInM K x y H Q) opIn2 := by
  intro W ρ H h x y dx dy Q r rx ry p
  unfold opIn2 at p
  split at p
  · rename_i c
    exact .inl (inX_ok r rx ry c (post_val r (.bl _) p))
  · exact .inr (opIn_ok _ _ _ _ _ _ _ _ _ r rx ry p)
theorem opNotIn2_ok : OpS K cls ts (fun x y H Q => rInX K true x y H Q ∨ rNotInM K x y H Q) opNotIn2 := by
  intro W ρ H h x y dx dy Q r rx ry p
  unfold opNotIn2 at p
  split at p
  · rename_i c
    exact .inl (inX_ok r rx ry c (post_val r (.bl _) p))
  · exact .inr (opNotIn_ok _ _ _ _ _ _ _ _ _ r rx ry p)
end
theorem op_in2 {X : Cx} (hu : X.A.units + 65 < cLine) : OpR X (compareOp .In) (fun x y H Q => rInX X.K false x y H Q ∨ rInM X.K x y H Q) := (op_inX hu).or (op_inM hu)
theorem op_notIn2 {X : Cx} (hu : X.A.units + 65 < cLine) : OpR X (compareOp .NotIn) (fun x y H Q => rInX X.K true x y H Q ∨ rNotInM X.K x y H Q) := (op_notInX hu).or (op_notInM hu)
end Mi

namespace Mi
open L2 PySem PySem.Spec PyProof.Rows

/-! ### the text of anything: dicts within rows, too -/
def pdx : Nat → AH → D → Option PyData
  | _, _, .non => some .none
  | _, _, .bl b => some (.bool b)
  | _, _, .int i => some (.int i)
  | _, _, .str x => some (.str x)
  | 0, _, _ => none
  | n + 1, h, .tup xs => (omap (pdx n h) xs).map .tuple
  | n + 1, h, .ref r => match h[r]? with
    | some (.lst xs) => (omap (pdx n h) xs).map .list
    | some (.dic kvs) => (omap (pdx n h) (kvs.map (·.2))).map fun ps => .dict ((kvs.map fun kv => keyP kv.1).zip ps)
    | _ => none
  | _, _, _ => none
theorem omap_length {α β : Type} {f : α → Option β} : ∀ {xs : List α} {ys : List β}, omap f xs = some ys → ys.length = xs.length
  | [], _, e => by cases e; rfl
  | x :: xs, ys, e => by
    unfold omap at e
    split at e <;> cases e
    rename_i q1 q2
    rw [List.length_cons, List.length_cons, omap_length q2]
theorem depthKv_zip {n : Nat} : ∀ {ks : List Key} {ps : List PyData}, ks.length = ps.length → PyData.depthAll ps ≤ n → PyData.depthKv ((ks.map keyP).zip ps) ≤ n
  | [], [], _, _ => by simp [PyData.depthKv]
  | k :: ks, p :: ps, e, h => by
    simp only [PyData.depthAll] at h
    have ih := depthKv_zip (ks := ks) (ps := ps) (by simpa using e) (Nat.le_trans (Nat.le_max_right _ _) h)
    have h1 := Nat.le_trans (Nat.le_max_left _ _) h
    cases k <;> simp only [List.map_cons, List.zip_cons_cons, PyData.depthKv, keyP, PyData.depth] <;> omega
theorem pdx_depth {h : AH} : ∀ (n : Nat) (d : D) (p : PyData), pdx n h d = some p → p.depth ≤ n := by
  intro n
  induction n with
  | zero =>
    intro d p e
    cases d <;> simp only [pdx] at e <;> cases e <;> exact Nat.zero_le _
  | succ n ih =>
    intro d p e
    cases d with
    | tup xs =>
      simp only [pdx, Option.map_eq_some_iff] at e
      obtain ⟨ps, q, rfl⟩ := e
      simp only [PyData.depth]
      exact Nat.succ_le_succ (pd_depth ih q)
    | ref r =>
      simp only [pdx] at e
      split at e <;> first | (cases e; done) | skip
      · obtain ⟨ps, q, rfl⟩ := Option.map_eq_some_iff.mp e
        simp only [PyData.depth]
        exact Nat.succ_le_succ (pd_depth ih q)
      · rename_i kvs _
        obtain ⟨ps, q, rfl⟩ := Option.map_eq_some_iff.mp e
        simp only [PyData.depth]
        have l := omap_length q
        rw [show (kvs.map fun kv => keyP kv.1) = (kvs.map (·.1)).map keyP from by rw [List.map_map]; rfl]
        exact Nat.succ_le_succ (depthKv_zip (by rw [l, List.length_map, List.length_map]) (pd_depth ih q))
    | _ => first | (cases e; done) | (cases e; exact Nat.zero_le _)
section
variable {X : Cx} {pins : List (Addr × Obj)} {σ : L2.St} {H : Hp} {s : Shared} {cls ts ρ : List Addr} {h : AH}
theorem readsAll_x {f : D → Option PyData} (ih : ∀ v u d p, RV X.K ρ H v d → RelV v u → f d = some p → ∃ as, Reads s.heap u p as ∧ sysModules ∉ as) : ∀ {xs : List V} {us : List Value} {ds : List D} {ps : List PyData}, RVs X.K ρ H xs ds → Vals xs us → omap f ds = some ps →
    ∃ as, ReadsAll s.heap us ps as ∧ sysModules ∉ as
  | _, _, _, _, .nil, r, e => by
    cases e
    cases r
    exact ⟨[], .nil, List.not_mem_nil⟩
  | _, _, _, _, .cons a b, r, e => by
    unfold omap at e
    split at e <;> first | (cases e; done) | skip
    rename_i y ys q1 q2
    cases e
    cases r with
    | cons r1 r2 =>
      obtain ⟨as, k1, n1⟩ := ih _ _ _ _ a r1 q1
      obtain ⟨bs, k2, n2⟩ := readsAll_x ih b r2 q2
      exact ⟨_, .cons k1 k2, fun m => (List.mem_append.mp m).elim n1 n2⟩
theorem keys_x {P : Program} {w : World} {hh : Heap} : ∀ {es : List DictEntry} {vs : List (Key × Value)} {xs : List (Key × V)} {kvs : List (Key × D)}, PySem.Pairs (mixKind P w) es vs → KV xs vs → RKs X.K ρ H xs kvs →
    ReadsAll hh (es.map (·.key)) (kvs.map fun kv => keyP kv.1) [] ∧ Vals (xs.map (·.2)) (es.map (·.val)) ∧ RVs X.K ρ H (xs.map (·.2)) (kvs.map (·.2))
  | _, _, _, _, .nil, a, b => by
    cases a
    cases b
    exact ⟨.nil, .nil, .nil⟩
  | _, _, _, _, .cons (e := en) (kv := kv) k1 k2 rest, a, b => by
    cases a with
    | cons a1 a2 =>
      cases b with
      | cons b1 b2 =>
        obtain ⟨i1, i2, i3⟩ := keys_x (hh := hh) rest a2 b2
        refine ⟨.cons (as := []) ?_ i1, .cons ?_ i2, .cons b1.2 i3⟩
        · show Reads hh en.key (keyP _) []
          rw [← b1.1, a1.1]
          rcases keyIs_shape k1 with ⟨i, t, ek, ev⟩ | ⟨x, t, ek, ev⟩
          · rw [ek, ev]; exact .int _ _
          · rw [ek, ev]; exact .str _ _
        · show RelV _ en.val
          rw [k2]
          exact a1.2
theorem reads_x (I : L2.Inv X pins σ H s) (r : RH X.K cls ts ρ H h) : ∀ (n : Nat) (v : V) (u : Value) (d : D) (p : PyData), RV X.K ρ H v d → RelV v u → pdx n h d = some p → ∃ as, Reads s.heap u p as ∧ sysModules ∉ as := by
  obtain ⟨_, φ, sm⟩ := r.sm
  have ne : ∀ {a : Addr} {o : HO}, H a = some o → (∀ ψ, o ≠ .ext ψ) → sysModules ≠ a := fun {a o} e n z => by
    rw [← z, sm] at e
    cases e
    exact n _ rfl
  intro n
  induction n with
  | zero =>
    intro v u d p rv ru e
    exact ⟨[], reads_scalar (h := h) rv ru (by cases d <;> simp only [pdx] at e <;> first | (cases e; done) | exact e), List.not_mem_nil⟩
  | succ n ih =>
    intro v u d p rv ru e
    cases rv with
    | tup h1 r1 =>
      simp only [pdx, Option.map_eq_some_iff] at e
      obtain ⟨ps, q, rfl⟩ := e
      cases ru
      obtain ⟨its, rt, ⟨o, ho, hc, k, hd⟩, _⟩ := I.tuple h1
      obtain ⟨as, ra, na⟩ := readsAll_x ih r1 rt q
      exact ⟨_, .tuple ho hc hd ra, na⟩
    | ref q1 =>
      simp only [pdx] at e
      split at e <;> first | (cases e; done) | skip
      · rename_i xs e1
        obtain ⟨ps, q, rfl⟩ := Option.map_eq_some_iff.mp e
        obtain ⟨us, k1, r1⟩ := r.lst q1 e1
        cases ru
        obtain ⟨its, rt, ⟨o, k, ho, hc, _, hd⟩, _⟩ := I.list (SqL.of k1)
        obtain ⟨as, ra, na⟩ := readsAll_x ih r1 rt q
        exact ⟨_, .list ho hc hd ra, fun m => (List.mem_cons.mp m).elim (ne k1 fun _ z => by cases z) na⟩
      · rename_i kvs e1
        obtain ⟨ps, q, rfl⟩ := Option.map_eq_some_iff.mp e
        obtain ⟨us, k1, r1⟩ := r.dic q1 e1
        cases ru
        obtain ⟨_, nS, vs, kv, o, es, ep, ho, ex, hd, hk, hp, _⟩ := I.hok _ _ k1
        obtain ⟨i1, i2, i3⟩ := keys_x (hh := s.heap) hp kv r1
        obtain ⟨bs, rb, nb⟩ := readsAll_x ih i3 i2 q
        have l : ps.length = (kvs.map fun kv => keyP kv.1).length := by rw [omap_length q, List.length_map, List.length_map]
        refine ⟨_, .dict (as := []) (bs := bs) ho ex.1 hd (by rw [List.map_fst_zip (by omega)]; exact i1) (by rw [List.map_snd_zip (by omega)]; exact rb), fun m => ?_⟩
        rcases List.mem_cons.mp m with z | z
        · exact ne k1 (fun _ z => by cases z) z
        · exact nb z
    | non => exact ⟨[], reads_scalar (K := X.K) (ρ := ρ) (H := H) (h := h) .non ru e, List.not_mem_nil⟩
    | bl b => exact ⟨[], reads_scalar (K := X.K) (ρ := ρ) (H := H) (h := h) (.bl b) ru e, List.not_mem_nil⟩
    | int i => exact ⟨[], reads_scalar (K := X.K) (ρ := ρ) (H := H) (h := h) (.int i) ru e, List.not_mem_nil⟩
    | str x => exact ⟨[], reads_scalar (K := X.K) (ρ := ρ) (H := H) (h := h) (.str x) ru e, List.not_mem_nil⟩
    | _ => cases e
end
def reprX (d : D) (h : AH) : Option Str :=
  match pdx 60 h d with
  | some p => if p.showable = true ∧ p.shown.length ≤ sizeLine then some p.shown else none
  | none => none
def fRepr2 : OpN
  | [d], h => match reprX d h with
    | some x => .ok (.str x) h
    | none => .stuck
  | _, _ => .stuck
def rReprX (K : PySem.W.Frag) : List V → Hp → VK → Prop := fun xs H Q => ∃ (cls ts ρ : List Addr) (h : AH) (v : V) (d : D) (x : Str), xs = [v] ∧ RH K cls ts ρ H h ∧ RV K ρ H v d ∧ reprX d h = some x ∧ Q (.str x) H
theorem call_reprX {X : Cx} (hg : X.A.guards = some []) (hu : X.A.units + 64 < cLine) : CallR X (.builtin "repr") (rReprX X.K) := by
  rintro pins s σ H xs us Q I rs ⟨cls, ts, ρ, hh, v, d, x, rfl, rH, rv, e, q⟩
  obtain ⟨w, rfl, ru⟩ := vals1 rs
  unfold reprX at e
  split at e <;> first | (cases e; done) | skip
  rename_i p ep
  split at e <;> cases e
  rename_i c
  have fin : ∀ h' u tk, (∀ b o, s.heap.get? b = some o → h'.get? b = some o) → EP X pins σ Q (.str p.shown u) { s with heap := h', toks := tk } := fun h' u tk hk => ⟨.str p.shown, H, I.kept hk, ⟨_, rfl⟩, q⟩
  cases hv : v with
  | ref a =>
    subst hv
    obtain ⟨as, rd, na⟩ := reads_x I rH 60 _ _ _ _ rv ru ep
    obtain rfl : w = Value.ref a := ru
    exact repr_of_reads' rd c.1 (fun _ => na) hg (by have := pdx_depth _ _ _ ep; omega) (fun _ _ e => e) (fun h' u tk hk => fin h' u tk hk) c.2
  | _ =>
    subst hv
    have e0 : pd 0 hh d = some p := by cases rv <;> simpa [pd, pdx] using ep
    exact repr_scalar rv ru e0 c.1 c.2 fun t k => fin s.heap t k fun _ _ e => e
theorem repr_ok2 {K : PySem.W.Frag} {cls ts : List Addr} : CallS K cls ts (rReprX K) fRepr2 := by
  intro W ρ H h xs ds Q r rs p
  unfold fRepr2 at p
  split at p <;> first | exact p.elim | skip
  obtain ⟨v, rfl, rv⟩ := rs.one
  split at p <;> first | exact p.elim | skip
  rename_i d _ x e
  exact ⟨cls, ts, ρ, h, v, d, x, rfl, r, rv, e, post_val r (.str _) p⟩
end Mi

namespace Mi
open L2 PySem PySem.Spec PyProof.Rows

/-! ### what a name may hold -/
theorem Ca.at {P : Program} {w : World} {K : PySem.W.Frag} {mg : Str → Option Value} {base : Heap} {cls ts : List Addr} {j k : Nat} {x : Str} {st : Stmt} {ps : List Str} {c : FN} {a : Addr} (C : Ca P w K mg base cls ts j x st ps c) (b : Bd x st ps) (m : mg x = some (.ref a)) (h : j ≤ k) : CaA P w K mg base cls ts k a c := by
  obtain ⟨f, cdv, fd, D, F⟩ := C.ex
  have e := D.mg.symm.trans m
  cases e
  exact ⟨fd, ps, F.mono h, D.kp.1, D.binds b⟩
theorem held_of {P : Program} {w : World} {K : PySem.W.Frag} {mg : Str → Option Value} {base : Heap} {cls ts : List Addr} {j1 j2 k : Nat} {x1 x2 : Str} {st1 st2 : Stmt} {ps1 ps2 : List Str} {c1 c2 : FN} {a1 a2 : Addr} (C1 : Ca P w K mg base cls ts j1 x1 st1 ps1 c1) (b1 : Bd x1 st1 ps1) (m1 : mg x1 = some (.ref a1))
    (C2 : Ca P w K mg base cls ts j2 x2 st2 ps2 c2) (b2 : Bd x2 st2 ps2) (m2 : mg x2 = some (.ref a2)) (h1 : j1 ≤ k) (h2 : j2 ≤ k) (f : Addr) (c : FN) (q : [(a1, c1), (a2, c2)].lookup f = some c) : CaA P w K mg base cls ts k f c := by
  simp only [List.lookup] at q
  split at q
  · rename_i e
    cases q
    rw [eq_of_beq e]
    exact C1.at b1 m1 h1
  · split at q
    · rename_i e
      cases q
      rw [eq_of_beq e]
      exact C2.at b2 m2 h2
    · cases q
/-- a generator expression's scope without captured names, with names of the module -/
def genC2 (scope : Scope) (x : Str) : Bool := (match scope.kind with | .function => true | _ => false) && !scope.isCoroutine && (scope.names.all fun y => match y.2 with | .local => true | .globalImplicit => true | _ => false) &&
  (match scope.names.lookup (".0" : Str) with | some .local => true | _ => false) && (match scope.names.lookup x with | some .local => true | _ => false)
theorem genS_by2 {env : Env} {scope : Scope} {x : Str} (h : genC2 scope x = true) : GxR.GenS env scope x := by
  simp only [genC2, Bool.and_eq_true, List.all_eq_true] at h
  obtain ⟨⟨⟨⟨h1, h2⟩, h3⟩, h4⟩, h5⟩ := h
  refine ⟨?_, by simpa using h2, fun y hy e => ?_, ?_, ?_, fun y hy e => ?_⟩
  · split at h1 <;> first | assumption | cases h1
  · have := h3 y hy
    rw [e] at this
    cases this
  · split at h4 <;> first | assumption | cases h4
  · split at h5 <;> first | assumption | cases h5
  · have := h3 y hy
    rw [e] at this
    cases this
/-! ### max(.., default = e) of a list of ints -/
def cMaxD (F G : EF) : EF := fun ε h => (F ε h).bind fun d h1 => (G ε h1).bind fun e h2 => match d with
  | .ref n => match h2[n]? with
    | some (.lst ds) => match omap asInt ds with
      | some [] => .ok e h2
      | some (i :: is) => .ok (.int (is.foldl max i)) h2
      | none => .stuck
    | _ => .stuck
  | _ => .stuck
end Mi

namespace Mi
open L2 PySem PySem.Spec PyProof.Rows

/-! ### max(.., default = e): the loop -/
def bestOf : List Int → Option Int
  | [] => none
  | i :: is => some (is.foldl max i)
theorem bestOf_snoc (xs : List Int) (x : Int) : bestOf (xs ++ [x]) = some (match bestOf xs with | some b => max b x | none => x) := by
  cases xs with
  | nil => rfl
  | cons i is => simp [bestOf, List.foldl_append]
/-- what the loop's list holds -/
def Holds2 (b : Option Int) (vs : Array Value) : Prop := match b with
  | none => vs = #[]
  | some i => ∃ t, vs = #[.int i t, .int i t]
theorem max_loopD {prog : Program} {w : World} {A : Around} {R : Result → Shared → Prop} {I l S : Addr} {items : Array Value} {ns : List Int} {d : Value} {s0 : Shared} (hh : A.handled = none) (hlI : l ≠ I) (hSI : S ≠ I) (hSl : S ≠ l) (hi : IntsAre items.toList ns)
    (hR : ∀ v h' tk, (match bestOf ns with | some i => ∃ t, v = .int i t | none => v = d) → (∀ b o, b ≠ I → b ≠ S → s0.heap.get? b = some o → h'.get? b = some o) → R (.ok (.ret v)) { s0 with heap := h', toks := tk }) :
    ∀ (k j : Nat) (hp : Heap) (tk c : Nat) (vs : Array Value), items.size - j = k → j ≤ items.size → hp.IsListIter I l j → hp.IsList l items → hp.get? S = some { cls := .type "list", dict := none, data := .seq vs c, slots := #[] } → Holds2 (bestOf (ns.take j)) vs →
      (∀ b o, b ≠ I → b ≠ S → s0.heap.get? b = some o → hp.get? b = some o) → codeAny (model prog w) A (.builtin "max.loop" ⟨[.ref I, .none, .ref S], [("default", d)]⟩) R { s0 with heap := hp, toks := tk } := by
  have Wk := Walks.list (prog := prog) (w := w) (A := A.in1) hh I l hlI items
  have nm : (toString "max" ++ toString ".loop" : String) = "max.loop" := by decide
  have ln : ns.length = items.size := by rw [← hi.length]; simp
  intro k
  induction k with
  | zero =>
    intro j hp tk c vs hk hj st sl hS hb kp
    have ej : j = items.size := by omega
    subst ej
    rw [← ln, List.take_length] at hb
    refine codeAny_builtin F.entry_max_loop ?_
    rw [Around.under_plainId F.plain_max_loop _]
    show wpAny _ A.in1 (seqItems? (.ref S) >>= _) _ _ _
    refine wpAny_bind (wpAny_seqItems hS rfl ?_)
    show wpAny _ A.in1 (tryCatch (pyNext (.ref I)) _ >>= _) _ _ _
    refine wpAny_bind (wpAny_tryCatch (Wk.done _ _ _ ⟨st, sl⟩ fun h' tk' kk => ?_))
    have hS' := kk S _ (by simpa using hSI) hS
    have kp' : ∀ b o, b ≠ I → b ≠ S → s0.heap.get? b = some o → h'.get? b = some o := fun b o n1 n2 e => kk b o (by simpa using n1) (kp b o n1 n2 e)
    cases q : bestOf ns with
    | none =>
      rw [q] at hb
      cases (show vs = #[] from hb)
      refine wpAny_bind (wpAny_rule (wpAny_pure ?_))
      exact hR d h' tk' (by rw [q]) kp'
    | some i =>
      rw [q] at hb
      obtain ⟨t, rfl⟩ := (show ∃ t, vs = #[.int i t, .int i t] from hb)
      show wpAny _ A.in1 (updateSeq S (fun _ => #[]) >>= _) _ _ _
      refine wpAny_bind (wpAny_updateSeq hS' rfl (wpAny_bind (wpAny_letGo (wpAny_pure ?_))))
      exact hR (.int i t) _ tk' (by rw [q]; exact ⟨t, rfl⟩) fun b o n1 n2 e => (Heap.get?_update_other _ _ (Ne.symm n2)).trans (kp' b o n1 n2 e)
  | succ k ih =>
    intro j hp tk c vs hk hj st sl hS hb kp
    have lt : j < items.size := by omega
    have ltn : j < ns.length := by omega
    refine codeAny_builtin F.entry_max_loop ?_
    rw [Around.under_plainId F.plain_max_loop _]
    show wpAny _ A.in1 (seqItems? (.ref S) >>= _) _ _ _
    refine wpAny_bind (wpAny_seqItems hS rfl ?_)
    show wpAny _ A.in1 (tryCatch (pyNext (.ref I)) _ >>= _) _ _ _
    refine wpAny_bind (wpAny_tryCatch (Wk.item j _ _ _ lt ⟨st, sl⟩ fun v h' tk' hv st' kk => ?_))
    have hS' := kk S _ (by simpa using hSI) hS
    have kp' : ∀ b o, b ≠ I → b ≠ S → s0.heap.get? b = some o → h'.get? b = some o := fun b o n1 n2 e => kk b o (by simpa using n1) (kp b o n1 n2 e)
    obtain ⟨x, t, rfl, ex⟩ := hi.at j v (by rw [Array.getElem?_toList]; exact hv)
    have tk1 : ns.take (j + 1) = ns.take j ++ [x] := by rw [List.take_succ, ex]; rfl
    have kI : ∀ (f : Obj → Obj) (o : Obj), h'.get? I = some o → (h'.update S f).get? I = some o := fun f o e => (Heap.get?_update_other _ _ hSI).trans e
    have kl : ∀ (f : Obj → Obj) (o : Obj), h'.get? l = some o → (h'.update S f).get? l = some o := fun f o e => (Heap.get?_update_other _ _ hSl).trans e
    have put_ : ∀ (w2 : Array Value) (tk2 : Nat), Holds2 (bestOf (ns.take (j + 1))) w2 → codeAny (model prog w) A (.builtin "max.loop" ⟨[.ref I, .none, .ref S], [("default", d)]⟩) R { s0 with heap := h'.update S (Obj.mapSeq fun _ => w2), toks := tk2 } := fun w2 tk2 hw =>
      ih (j + 1) _ tk2 _ w2 (by omega) (by omega) (st'.1.at (kI _)) (st'.2.at (kl _)) (Heap.get?_update_self _ hS' rfl) hw fun b o n1 n2 e => (Heap.get?_update_other _ _ (Ne.symm n2)).trans (kp' b o n1 n2 e)
    rw [tk1, bestOf_snoc] at put_
    cases q : bestOf (ns.take j) with
    | none =>
      rw [q] at hb put_
      cases (show vs = #[] from hb)
      show wpAny _ A.in1 (updateSeq S (fun _ => #[.int x t, .int x t]) >>= _) _ _ _
      refine wpAny_bind (wpAny_updateSeq hS' rfl ?_)
      rw [nm]
      exact wpAny_pure ⟨plainId_quiet F.plain_max_loop _, put_ #[.int x t, .int x t] tk' ⟨t, rfl⟩⟩
    | some i =>
      rw [q] at hb put_
      obtain ⟨u, rfl⟩ := (show ∃ t, vs = #[.int i t, .int i t] from hb)
      show wpAny _ A.in1 (tryCatch (holding [.int x t, .int x t] (richCompare .Gt (.int x t) (.int i u) >>= _)) _ >>= _) _ _ _
      refine wpAny_bind (wpAny_tryCatch (wpAny_holding (wpAny_bind (CmpOf.ints_gt (P := fun m v => ∃ t, v = .int (if m = 0 then x else i) t) (fun m => if m = 0 then x else i) (fun _ _ e => e) 0 1 (.int x t) (.int i u) _ _ _ ⟨t, rfl⟩ ⟨u, rfl⟩ ?_))))
      refine wpAny_bind (wpAny_holding (wpAny_truthy_bool (wpAny_bind (wpAny_letGo (wpAny_pure ?_)))))
      show wpAny _ A.in1 (if decide (x > i) = true then _ else _) _ _ _
      by_cases c1 : x > i
      · rw [decide_eq_true c1, if_pos rfl]
        refine wpAny_bind (wpAny_updateSeq hS' rfl (wpAny_bind (wpAny_letGo ?_)))
        rw [nm]
        exact wpAny_pure ⟨plainId_quiet F.plain_max_loop _, put_ #[.int x t, .int x t] tk' ⟨t, by simp only; rw [Int.max_eq_right (by omega)]⟩⟩
      · rw [decide_eq_false c1, if_neg Bool.false_ne_true]
        refine wpAny_bind (wpAny_letGo ?_)
        rw [nm]
        refine wpAny_pure ⟨plainId_quiet F.plain_max_loop _, ih (j + 1) _ tk' c _ (by omega) (by omega) st'.1 st'.2 hS' ?_ kp'⟩
        rw [tk1, bestOf_snoc, q]
        exact ⟨u, by simp only; rw [Int.max_eq_left (by omega)]⟩
/-- a built-in function, with named arguments, that may go on by a loop -/
theorem callB_kw {prog : Program} {w : World} {A : Around} {E Q : Value → Shared → Prop} {s : Shared} {id : String} {b : Builtin} {args : List Value} {kw : List (Str × Value)} (hk : builtinKind id = none) (hp : plainId id = true) (hb : entryFor table id = some b) (ha : argsOk id ⟨args, kw⟩)
    (hc : wpAny (model prog w) A.in1 (b ⟨args, kw⟩) (fun fin s' => match fin with
      | .done f => (match (Except.ok f : Result) with | .ok (.ret v) => Q v s' | .ok _ => False | .error e => E e s')
      | .again c => c.quiet = true ∧ codeAny (model prog w) A c (fun r s' => match r with | .ok (.ret v) => Q v s' | .ok _ => False | .error e => E e s') s') E s) : wpAny (model prog w) A (call (.builtin id) args kw) Q E s := by
  refine wpAny_call (codeAny_call_builtin hp hb ?_)
  simp only [checkBuiltinCall, hk]
  cases e : Manifest.signature? id with
  | none => exact wpAny_pure hc
  | some sig =>
    have e2 : Bind.checkArgs id sig ⟨args, kw⟩ = pure () := by simpa only [argsOk, e] using ha
    simp only [e2]
    exact wpAny_pure hc
theorem args_max_d (x d : Value) : argsOk "max" ⟨[x], [("default", d)]⟩ := by
  unfold argsOk
  kernel_rfl
theorem max_default {prog : Program} {w : World} {A : Around} {E Qe : Value → Shared → Prop} {l : Addr} {items : Array Value} {ns : List Int} {d : Value} {s : Shared} (hh : A.handled = none) (hl : s.heap.IsList l items) (hi : IntsAre items.toList ns)
    (h : ∀ v h' tk, (match bestOf ns with | some i => ∃ t, v = .int i t | none => v = d) → (∀ b o, s.heap.get? b = some o → h'.get? b = some o) → Qe v { s with heap := h', toks := tk }) : wpAny (model prog w) A (call (.builtin "max") [.ref l] [("default", d)]) Qe E s := by
  have nm : (toString "max" ++ toString ".loop" : String) = "max.loop" := by decide
  have lt : l < s.heap.objs.size := by
    obtain ⟨_, e, _⟩ := hl
    exact Heap.lt_size e
  refine callB_kw F.kind_max F.plain_max F.entry_max (args_max_d _ _) ?_
  show wpAny _ A.in1 (Builtin.Builtins.bindParams "max" ["key", "default"] 0 ⟨[], [("default", d)]⟩ >>= _) _ _ s
  refine wpAny_bind (wpAny_of_eq (show Builtin.Builtins.bindParams "max" ["key", "default"] 0 ⟨[], [("default", d)]⟩ = pure [none, some d] from rfl) ?_)
  refine wpAny_bind (wpAny_pure (wpAny_bind ?_))
  refine wpAny_pyIter_list hl (wpAny_bind (wpAny_newObj_type ?_))
  rw [nm]
  have k1 : ∀ b o, s.heap.get? b = some o → ((s.heap.push { cls := .type "list_iterator", data := .fields #[.ref l, .int 0 0] }).push { cls := .type "list", data := .seq #[] 0 }).get? b = some o := fun b o e => Heap.get?_push_of_some _ (Heap.get?_push_of_some _ e)
  have sz : (s.heap.push { cls := .type "list_iterator", data := .fields #[.ref l, .int 0 0] }).objs.size = s.heap.objs.size + 1 := Heap.size_push ..
  refine wpAny_pure ⟨plainId_quiet F.plain_max_loop _, ?_⟩
  refine max_loopD (s0 := s) (I := s.heap.objs.size) (l := l) (S := (s.heap.push { cls := .type "list_iterator", data := .fields #[.ref l, .int 0 0] }).objs.size) (items := items) (ns := ns) hh (Nat.ne_of_lt lt) (by rw [sz]; exact Nat.succ_ne_self _) (by rw [sz]; exact Nat.ne_of_gt (Nat.lt_succ_of_lt lt)) hi (fun v h' tk hv kp => ?_) items.size 0 _ s.toks 0 #[] rfl (Nat.zero_le _) ⟨_, Heap.get?_push_of_some _ (Heap.get?_push_size _ rfl), rfl, rfl⟩ ((hl.push _).push _) (Heap.get?_push_size _ rfl) rfl fun b o _ _ e => k1 b o e
  refine h v h' tk hv fun b o e => kp b o ?_ ?_ e
  · exact Nat.ne_of_lt (Heap.lt_size e)
  · rw [sz]
    exact Nat.ne_of_lt (Nat.lt_succ_of_lt (Heap.lt_size e))
theorem boot_max' : bootBuiltins "max" = some (.builtin "max") := by decide +kernel
theorem e_maxD {X : Cx} {W : WX} {cls ts : List Addr} {a d : Expr} {F G : EF} {p pos kp : Pos} (hc : X.calm = true) (hg : Gl X "max") (hm : X.mg "max" = none) (ha : E' X cls ts W a F) (hd : E' X cls ts W d G) (he : starEach [a] X.env = (false, eval a X.env) :: starEach [] X.env := by rfl) :
    E' X cls ts W (.Call (.Name "max" p) [a] [⟨some "default", d, kp⟩] pos) (cMaxD F G) := by
  refine ⟨fun pins s σ H Q I ⟨ρ, ε, h, hH, hE, q⟩ => ?_⟩
  have q1 : tA X.K cls ts W (aCons F aNil) σ H fun vs H1 => tA X.K cls ts W (aCons G aNil) σ H1 fun zs H2 => ∃ (l : Addr) (ns : List Int) (z : V), vs = [.ref l] ∧ zs = [z] ∧ SqL X.K H2 l (ns.map V.int) ∧ Q (match bestOf ns with | some i => .int i | none => z) H2 := by
    refine tG_bind (rel2 := relD X.K) (F := aCons F aNil) (G := fun ds h1 => (aCons G aNil ε h1).bind fun es h2 => match ds, es with
      | [.ref n], [e] => match h2[n]? with
        | some (.lst xs) => match omap asInt xs with
          | some [] => .ok e h2
          | some (i :: is) => .ok (.int (is.foldl max i)) h2
          | none => .stuck
        | _ => .stuck
      | _, _ => .stuck) hH hE (Q := Q) ?_ fun ρ1 H1 vs h1 ds _ e1 hH1 rv hE1 p1 => ?_
    · unfold cMaxD at q
      cases e1 : F ε h with
      | stuck => rw [e1] at q; exact q.elim
      | exc x h1 => rw [e1] at q; simpa [aCons, e1] using q
      | ok dv h1 =>
        rw [e1] at q
        simp only [Res.bind_ok] at q
        cases e2 : G ε h1 with
        | stuck => rw [e2] at q; exact q.elim
        | exc x h2 => rw [e2] at q; simpa [aCons, e1, e2, aNil] using q
        | ok ev h2 =>
          rw [e2] at q
          simp only [Res.bind_ok] at q
          simp only [aCons, e1, e2, aNil, Res.bind_ok]
          cases dv <;> exact q
    · refine tG_bind hH1 hE1 p1 fun ρ2 H2 zs h2 es _ e2 hH2 rz hE2 p2 => ?_
      split at p2 <;> first | exact p2.elim | skip
      obtain ⟨z, rfl, rz1⟩ := rz.one
      obtain ⟨v, rfl, rv1⟩ := rv.one
      have rv2 := rv1.mono e2
      cases rv2 with
      | ref q1 =>
        split at p2 <;> first | exact p2.elim | skip
        rename_i xs ex
        obtain ⟨us, k1, r1⟩ := hH2.lst q1 ex
        split at p2 <;> first | exact p2.elim | skip
        · rename_i ei
          obtain rfl := ints_of r1 ei
          exact ⟨_, [], z, rfl, rfl, SqL.of k1, post_val hH2 rz1 p2⟩
        · rename_i i is ei
          obtain rfl := ints_of r1 ei
          exact ⟨_, i :: is, z, rfl, rfl, SqL.of k1, post_val hH2 (.int _) p2⟩
  refine wpAny_Call_Name_kw (ld_blt I hg hm boot_max' (callWith_kw (thn ((a_cons ha a_nil he).run pos pins s σ H _ I q1) fun us s1 ⟨vs, H1, I1, r1, y⟩ => ?_) (by rw [he]; rfl) (by rw [he]; rfl)))
  refine thn ((k_cons hd k_nil).run pos pins s1 σ H1 _ I1 y) fun ws s2 ⟨zs, H2, I2, r2, l, ns, z, ev, ez, hs, q2⟩ => ?_
  subst ev ez
  obtain ⟨u, rfl, ru⟩ := vals1 r1
  obtain ⟨w, rfl, rw'⟩ := vals1 r2
  obtain rfl : u = Value.ref l := ru
  obtain ⟨its, rt, pl, _⟩ := I2.list hs
  show wpAny _ _ (call (.builtin "max") [.ref l] [("default", w)]) _ _ s2
  refine max_default (I2.ok.hd hc) pl.isList (ns := ns) (by simpa using rt.ints) fun v h' tk hv hk => ?_
  cases e : bestOf ns with
  | none =>
    rw [e] at hv q2
    cases (show v = w from hv)
    exact ⟨z, H2, I2.kept hk, rw', q2⟩
  | some i =>
    rw [e] at hv q2
    exact ⟨.int i, H2, I2.kept hk, hv, q2⟩
end Mi

namespace K02
open Mi L2 PySem PySem.Spec PyProof.Rows
structure FV where
  a_is_single : Addr
  a_is_plain_single : Addr
def top (i : Nat) : Stmt := PySem.Challenge.pw_everso_k02_worths_of_anything.main.body.getD i (.Pass ⟨0, 0, 0, 0⟩)
abbrev st_l_begun : Stmt := top 21
abbrev N_l_begun : List Str := [("_law_script" : Str), ("_law_cell" : Str), ("_law_cells" : Str), ("_law_total" : Str)]
abbrev ps_l_begun : List Str := [("_law_script" : Str)]
theorem sc_l_begun : FnScope N_l_begun ps_l_begun (defScope st_l_begun) := ⟨rfl, rfl, rfl, by decide +kernel, rfl, by decide +kernel, by decide +kernel⟩
theorem bd_l_begun : Bd ("_law_begun" : Str) st_l_begun ps_l_begun := fun _ _ _ _ _ _ us hl => match us, hl with | [_], _ => rfl
def b_l_begun : SF := (sSeq (sPar2 2 3 (cCall fList (aCons (cCut (cVar 0) oNone (oSome (cC (.int 63)))) aNil)) (cC (.int 50021)))
    (sSeq (sFor (iAny (cVar 2)) (gN 1) (sSet 3 (cBin opMod (cBin opAdd (cBin opAdd (cBin opMul (cVar 3) (cC (.int 48271))) (cBin opMod (cVar 1) (cC (.int 2147483563)))) (cC (.int 17))) (cC (.int 2147483629)))))
    (sRet (cLst (aCons (cRev (cVar 2)) (aCons (cVar 3) (aCons (cC (.int 0)) aNil)))))))
def f_l_begun : FN := runB ps_l_begun.length N_l_begun.length (b_l_begun)
abbrev st_l_dealt : Stmt := top 22
abbrev N_l_dealt : List Str := [("_law_hand" : Str), ("_law_lots" : Str), ("_law_cell" : Str), ("_law_mixed" : Str)]
abbrev ps_l_dealt : List Str := [("_law_hand" : Str), ("_law_lots" : Str)]
theorem sc_l_dealt : FnScope N_l_dealt ps_l_dealt (defScope st_l_dealt) := ⟨rfl, rfl, rfl, by decide +kernel, rfl, by decide +kernel, by decide +kernel⟩
theorem bd_l_dealt : Bd ("_law_dealt" : Str) st_l_dealt ps_l_dealt := fun _ _ _ _ _ _ us hl => match us, hl with | [_, _], _ => rfl
def b_l_dealt : SF := (sSeq (sPut (cBin opAdd (cBin opIx (cVar 0) (cC (.int 2))) (cC (.int 1))) (cVar 0) (cC (.int 2)))
    (sSeq (sSet 2 (cBin opIx (cVar 0) (cC (.int 1))))
    (sSeq (sIf (tVal (cBin opNe (cBin opIx (cVar 0) (cC (.int 0))) (cLst aNil)))
      (sSeq (sSet 2 (cMeth "list" mPop (cBin opIx (cVar 0) (cC (.int 0))) aNil))
    (sIf (tVal (cBin opGe (cVar 2) (cBin opPow (cC (.int 10)) (cC (.int 18)))))
      (sSeq (sExpr (cMeth "list" mAppend (cBin opIx (cVar 0) (cC (.int 0))) (aCons (cBin opFdiv (cVar 2) (cVar 1)) aNil)))
    (sRet (cBin opMod (cVar 2) (cVar 1))))
      sPass))
      sPass)
    (sSeq (sSet 3 (cBin opAdd (cBin opAdd (cBin opAdd (cBin opMod (cVar 2) (cC (.int 2147483629))) (cBin opMul (cBin opMul (cC (.int 16807)) (cBin opIx (cVar 0) (cC (.int 2)))) (cBin opIx (cVar 0) (cC (.int 2))))) (cBin opIx (cVar 0) (cC (.int 1)))) (cC (.int 97))))
    (sSeq (sSet 3 (cBin opMod (cBin opMul (cVar 3) (cC (.int 48271))) (cC (.int 2147483647))))
    (sSeq (sSet 3 (cBin opMod (cBin opAdd (cBin opAdd (cBin opMul (cVar 3) (cVar 3)) (cBin opMul (cC (.int 69621)) (cBin opIx (cVar 0) (cC (.int 2))))) (cC (.int 11))) (cC (.int 2147483587))))
    (sRet (cBin opMod (cBin opFdiv (cBin opMod (cBin opMul (cVar 3) (cBin opAdd (cBin opFdiv (cVar 3) (cC (.int 5))) (cC (.int 39373)))) (cC (.int 2147483563))) (cC (.int 128))) (cVar 1)))))))))
def f_l_dealt : FN := runB ps_l_dealt.length N_l_dealt.length (b_l_dealt)
abbrev st_l_pick : Stmt := top 23
abbrev N_l_pick : List Str := [("_law_hand" : Str), ("_law_some" : Str)]
abbrev ps_l_pick : List Str := [("_law_hand" : Str), ("_law_some" : Str)]
theorem sc_l_pick : FnScope N_l_pick ps_l_pick (defScope st_l_pick) := ⟨rfl, rfl, rfl, by decide +kernel, rfl, by decide +kernel, by decide +kernel⟩
theorem bd_l_pick : Bd ("_law_pick" : Str) st_l_pick ps_l_pick := fun _ _ _ _ _ _ us hl => match us, hl with | [_, _], _ => rfl
def b_l_pick : SF := (sRet (cBin opIx (cVar 1) (cFn f_l_dealt (aCons (cVar 0) (aCons (cCall fLen (aCons (cVar 1) aNil)) aNil)))))
def f_l_pick : FN := runB ps_l_pick.length N_l_pick.length (b_l_pick)
abbrev st_l_alike_looks : Stmt := top 26
abbrev N_l_alike_looks : List Str := [("_law_some" : Str), ("_law_parts" : Str)]
abbrev ps_l_alike_looks : List Str := []
theorem sc_l_alike_looks : FnScope N_l_alike_looks ps_l_alike_looks (defScope st_l_alike_looks) := ⟨rfl, rfl, rfl, by decide +kernel, rfl, by decide +kernel, by decide +kernel⟩
theorem bd_l_alike_looks : Bd ("_law_alike_looks" : Str) st_l_alike_looks ps_l_alike_looks := fun _ _ _ _ _ _ us hl => match us, hl with | [], _ => rfl
def b_l_alike_looks : SF := (sSeq (sSet 0 (cLst (aCons (cTup (aCons (cC (.str ("thing" : Str))) (aCons (cC (.int 5)) aNil))) (aCons (cTup (aCons (cC (.str ("deed" : Str))) (aCons (cC (.str ("a" : Str))) (aCons (cC (.str ("b" : Str))) aNil)))) (aCons (cTup (aCons (cC (.str ("kind" : Str))) (aCons (cC (.str ("a" : Str))) (aCons (cC (.str ("b" : Str))) aNil)))) (aCons (cTup (aCons (cC (.str ("row" : Str))) (aCons (cC (.int 5)) aNil))) (aCons (cTup (aCons (cC (.str ("row" : Str))) (aCons (cTup (aCons (cC (.str ("row" : Str))) (aCons (cTup aNil) aNil))) aNil))) (aCons (cTup (aCons (cC (.str ("row" : Str))) aNil)) aNil))))))))
    (sRet (cComp (iAny (cVar 0)) (gN 1) tYes' (cTup (aCons (cC (.str ("row" : Str))) (aCons (cVar 1) aNil))) [1])))
def f_l_alike_looks : FN := runB ps_l_alike_looks.length N_l_alike_looks.length (b_l_alike_looks)
abbrev st_l_label : Stmt := top 24
abbrev N_l_label : List Str := [("_law_hand" : Str)]
abbrev ps_l_label : List Str := [("_law_hand" : Str)]
theorem sc_l_label : FnScope N_l_label ps_l_label (defScope st_l_label) := ⟨rfl, rfl, rfl, by decide +kernel, rfl, by decide +kernel, by decide +kernel⟩
theorem bd_l_label : Bd ("_law_label" : Str) st_l_label ps_l_label := fun _ _ _ _ _ _ us hl => match us, hl with | [_], _ => rfl
def b_l_label : SF := (sRet (cFn f_l_pick (aCons (cVar 0) (aCons (cLst (aCons (cC (.str ("a" : Str))) (aCons (cC (.str ("z" : Str))) (aCons (cC (.str ("row" : Str))) (aCons (cC (.str ("none" : Str))) (aCons (cC (.str ("thing" : Str))) (aCons (cC (.str ("ab" : Str))) (aCons (cC (.str ("abcdefgh" : Str))) (aCons (cC (.str ("deed" : Str))) aNil))))))))) aNil))))
def f_l_label : FN := runB ps_l_label.length N_l_label.length (b_l_label)
abbrev st_l_leaf : Stmt := top 25
abbrev N_l_leaf : List Str := [("_law_hand" : Str), ("_law_words" : Str), ("_law_some" : Str), ("_law_sort" : Str), ("_law_number" : Str), ("_law_word" : Str), ("_law_first" : Str), ("_law_last" : Str)]
abbrev ps_l_leaf : List Str := [("_law_hand" : Str)]
theorem sc_l_leaf : FnScope N_l_leaf ps_l_leaf (defScope st_l_leaf) := ⟨rfl, rfl, rfl, by decide +kernel, rfl, by decide +kernel, by decide +kernel⟩
theorem bd_l_leaf : Bd ("_law_leaf" : Str) st_l_leaf ps_l_leaf := fun _ _ _ _ _ _ us hl => match us, hl with | [_], _ => rfl
def b_l_leaf : SF := (sSeq (sPar2 3 4 (cFn f_l_dealt (aCons (cVar 0) (aCons (cC (.int 8)) aNil))) (cFn f_l_pick (aCons (cVar 0) (aCons (cLst (aCons (cC (.int 0)) (aCons (cC (.int 1)) (aCons (cC (.int 9)) (aCons (cC (.int 10)) (aCons (cC (.int 99)) (aCons (cC (.int 100)) (aCons (cC (.int 999999)) (aCons (cBin opPow (cC (.int 10)) (cC (.int 15))) aNil))))))))) aNil))))
    (sSeq (sSet 1 (cLst (aCons (cC (.str ("" : Str))) (aCons (cC (.str ("a" : Str))) (aCons (cC (.str ("none" : Str))) (aCons (cC (.str ("yes" : Str))) (aCons (cC (.str ("row" : Str))) (aCons (cC (.str ("thing" : Str))) (aCons (cC (.str ("1" : Str))) (aCons (cC (.str ("-1" : Str))) (aCons (cC (.str ("[1 2]" : Str))) (aCons (cC (.str ("#5" : Str))) (aCons (cC (.str ("a.b" : Str))) (aCons (cC (.str ("a:b" : Str))) (aCons (cC (.str (" " : Str))) aNil)))))))))))))))
    (sSeq (sExpr (cMeth "list" mAppend (cVar 1) (aCons (cC (.str ("twentysigns of all ~" : Str))) aNil)))
    (sSeq (sPar3 5 6 7 (cFn f_l_pick (aCons (cVar 0) (aCons (cVar 1) aNil))) (cFn f_l_label (aCons (cVar 0) aNil)) (cFn f_l_label (aCons (cVar 0) aNil)))
    (sSeq (sSet 2 (cLst (aCons (cC .non) (aCons (cC (.bl true)) (aCons (cC (.bl false)) (aCons (cVar 4) (aCons (cBin opSub (cC (.int 0)) (cVar 4)) (aCons (cVar 5) (aCons (cTup (aCons (cC (.str ("thing" : Str))) (aCons (cVar 4) aNil))) aNil)))))))))
    (sRet (cBin opIx (cBin opAdd (cVar 2) (cLst (aCons (cTup (aCons (cBin opIx (cLst (aCons (cC (.str ("deed" : Str))) (aCons (cC (.str ("kind" : Str))) aNil))) (cFn f_l_dealt (aCons (cVar 0) (aCons (cC (.int 2)) aNil)))) (aCons (cVar 6) (aCons (cVar 7) aNil)))) aNil))) (cVar 3))))))))
def f_l_leaf : FN := runB ps_l_leaf.length N_l_leaf.length (b_l_leaf)
abbrev st_l_drawn : Stmt := top 27
abbrev N_l_drawn : List Str := [("_law_hand" : Str), ("_law_deep" : Str), ("_law_way" : Str), ("_law_turn" : Str)]
abbrev ps_l_drawn : List Str := [("_law_hand" : Str), ("_law_deep" : Str)]
theorem sc_l_drawn : FnScope N_l_drawn ps_l_drawn (defScope st_l_drawn) := ⟨rfl, rfl, rfl, by decide +kernel, rfl, by decide +kernel, by decide +kernel⟩
theorem bd_l_drawn : Bd ("_law_drawn" : Str) st_l_drawn ps_l_drawn := fun _ _ _ _ _ _ us hl => match us, hl with | [_, _], _ => rfl
def b_l_drawn (self_ : FN) : SF := (sSeq (sSet 2 (cFn f_l_dealt (aCons (cVar 0) (aCons (cC (.int 6)) aNil))))
    (sSeq (sIf (tOr' (tVal (cBin opEq2 (cVar 1) (cC (.int 0)))) (tVal (cBin opLt (cVar 2) (cC (.int 2)))))
      (sRet (cFn f_l_leaf (aCons (cVar 0) aNil)))
      sPass)
    (sSeq (sIf (tVal (cBin opEq2 (cVar 2) (cC (.int 5))))
      (sRet (cFn f_l_pick (aCons (cVar 0) (aCons (cFn f_l_alike_looks aNil) aNil))))
      sPass)
    (sRet (cTup (aCons (cC (.str ("row" : Str))) (aCons (cCall fTuple (aCons (cComp (iRange1 (cFn f_l_dealt (aCons (cVar 0) (aCons (cC (.int 5)) aNil)))) (gN 3) tYes' (cFn self_ (aCons (cVar 0) (aCons (cBin opSub (cVar 1) (cC (.int 1))) aNil))) [3]) aNil)) aNil)))))))
def f_l_drawn : Nat → FN
  | 0 => fun _ _ => .stuck
  | n + 1 => runB ps_l_drawn.length N_l_drawn.length (b_l_drawn (f_l_drawn n))
abbrev st_l_chain : Stmt := top 28
abbrev N_l_chain : List Str := [("_law_inner" : Str), ("_law_lots" : Str), ("_law_turn" : Str)]
abbrev ps_l_chain : List Str := [("_law_inner" : Str), ("_law_lots" : Str)]
theorem sc_l_chain : FnScope N_l_chain ps_l_chain (defScope st_l_chain) := ⟨rfl, rfl, rfl, by decide +kernel, rfl, by decide +kernel, by decide +kernel⟩
theorem bd_l_chain : Bd ("_law_chain" : Str) st_l_chain ps_l_chain := fun _ _ _ _ _ _ us hl => match us, hl with | [_, _], _ => rfl
def b_l_chain : SF := (sSeq (sFor (iRange1 (cVar 1)) (gN 2) (sSet 0 (cTup (aCons (cC (.str ("row" : Str))) (aCons (cTup (aCons (cVar 0) aNil)) aNil)))))
    (sRet (cVar 0)))
def f_l_chain : FN := runB ps_l_chain.length N_l_chain.length (b_l_chain)
abbrev st_l_wide : Stmt := top 29
abbrev N_l_wide : List Str := [("_law_inner" : Str), ("_law_lots" : Str)]
abbrev ps_l_wide : List Str := [("_law_inner" : Str), ("_law_lots" : Str)]
theorem sc_l_wide : FnScope N_l_wide ps_l_wide (defScope st_l_wide) := ⟨rfl, rfl, rfl, by decide +kernel, rfl, by decide +kernel, by decide +kernel⟩
theorem bd_l_wide : Bd ("_law_wide" : Str) st_l_wide ps_l_wide := fun _ _ _ _ _ _ us hl => match us, hl with | [_, _], _ => rfl
def b_l_wide : SF := (sRet (cTup (aCons (cC (.str ("row" : Str))) (aCons (cBin opMul (cTup (aCons (cVar 0) aNil)) (cVar 1)) aNil))))
def f_l_wide : FN := runB ps_l_wide.length N_l_wide.length (b_l_wide)
abbrev st_l_greatest : Stmt := top 30
abbrev N_l_greatest : List Str := [("_law_hand" : Str), ("_law_found" : Str), ("_law_inner" : Str), ("_law_other_leaf" : Str)]
abbrev ps_l_greatest : List Str := [("_law_hand" : Str)]
theorem sc_l_greatest : FnScope N_l_greatest ps_l_greatest (defScope st_l_greatest) := ⟨rfl, rfl, rfl, by decide +kernel, rfl, by decide +kernel, by decide +kernel⟩
theorem bd_l_greatest : Bd ("_law_greatest" : Str) st_l_greatest ps_l_greatest := fun _ _ _ _ _ _ us hl => match us, hl with | [_], _ => rfl
def b_l_greatest : SF := (sSeq (sPar2 2 3 (cFn f_l_leaf (aCons (cVar 0) aNil)) (cFn f_l_leaf (aCons (cVar 0) aNil)))
    (sSeq (sSet 1 (cLst (aCons (cFn f_l_chain (aCons (cVar 2) (aCons (cC (.int 8)) aNil))) (aCons (cFn f_l_wide (aCons (cVar 2) (aCons (cC (.int 40)) aNil))) (aCons (cFn f_l_chain (aCons (cFn f_l_wide (aCons (cVar 2) (aCons (cC (.int 40)) aNil))) (aCons (cC (.int 7)) aNil))) aNil)))))
    (sRet (cBin opAdd (cVar 1) (cLst (aCons (cTup (aCons (cC (.str ("row" : Str))) (aCons (cBin opAdd (cBin opMul (cTup (aCons (cFn f_l_wide (aCons (cVar 2) (aCons (cC (.int 38)) aNil))) aNil)) (cC (.int 5))) (cBin opMul (cTup (aCons (cVar 3) aNil)) (cC (.int 4)))) aNil))) aNil))))))
def f_l_greatest : FN := runB ps_l_greatest.length N_l_greatest.length (b_l_greatest)
abbrev st_l_beyond : Stmt := top 31
abbrev N_l_beyond : List Str := [("_law_hand" : Str), ("_law_found" : Str), ("_law_inner" : Str), ("_law_other_leaf" : Str)]
abbrev ps_l_beyond : List Str := [("_law_hand" : Str)]
theorem sc_l_beyond : FnScope N_l_beyond ps_l_beyond (defScope st_l_beyond) := ⟨rfl, rfl, rfl, by decide +kernel, rfl, by decide +kernel, by decide +kernel⟩
theorem bd_l_beyond : Bd ("_law_beyond" : Str) st_l_beyond ps_l_beyond := fun _ _ _ _ _ _ us hl => match us, hl with | [_], _ => rfl
def b_l_beyond : SF := (sSeq (sPar2 2 3 (cFn f_l_leaf (aCons (cVar 0) aNil)) (cFn f_l_leaf (aCons (cVar 0) aNil)))
    (sSeq (sSet 1 (cLst (aCons (cFn f_l_chain (aCons (cVar 2) (aCons (cC (.int 9)) aNil))) (aCons (cFn f_l_wide (aCons (cVar 2) (aCons (cC (.int 41)) aNil))) (aCons (cFn f_l_chain (aCons (cFn f_l_wide (aCons (cVar 2) (aCons (cC (.int 40)) aNil))) (aCons (cC (.int 8)) aNil))) aNil)))))
    (sRet (cBin opAdd (cVar 1) (cLst (aCons (cTup (aCons (cC (.str ("row" : Str))) (aCons (cBin opAdd (cBin opMul (cTup (aCons (cFn f_l_wide (aCons (cVar 2) (aCons (cC (.int 38)) aNil))) aNil)) (cC (.int 5))) (cBin opMul (cTup (aCons (cVar 3) aNil)) (cC (.int 5)))) aNil))) (aCons (cTup (aCons (cC (.str ("row" : Str))) (aCons (cBin opMul (cTup (aCons (cFn f_l_wide (aCons (cVar 2) (aCons (cC (.int 39)) aNil))) aNil)) (cC (.int 5))) aNil))) aNil)))))))
def f_l_beyond : FN := runB ps_l_beyond.length N_l_beyond.length (b_l_beyond)
abbrev st_l_odd : Stmt := top 36
abbrev N_l_odd : List Str := [("_law_hand" : Str), ("_law_part" : Str), ("_law_some" : Str)]
abbrev ps_l_odd : List Str := [("_law_hand" : Str), ("_law_part" : Str)]
theorem sc_l_odd : FnScope N_l_odd ps_l_odd (defScope st_l_odd) := ⟨rfl, rfl, rfl, by decide +kernel, rfl, by decide +kernel, by decide +kernel⟩
theorem bd_l_odd : Bd ("_law_odd" : Str) st_l_odd ps_l_odd := fun _ _ _ _ _ _ us hl => match us, hl with | [_, _], _ => rfl
def b_l_odd : SF := (sSeq (sSet 2 (cLst (aCons (cC .non) (aCons (cC (.bl true)) (aCons (cC (.int 0)) (aCons (cNeg (cC (.int 1))) (aCons (cBin opAdd (cBin opPow (cC (.int 10)) (cC (.int 15))) (cC (.int 1))) (aCons (cBin opSub (cBin opSub (cC (.int 0)) (cBin opPow (cC (.int 10)) (cC (.int 15)))) (cC (.int 1))) (aCons (cBin opPow (cC (.int 10)) (cC (.int 39))) (aCons (cC (.str ("it's" : Str))) (aCons (cC (.str ("\n" : Str))) (aCons (cC (.str ("twentyonesigns of all" : Str))) (aCons (cLst aNil) (aCons cD0 aNil))))))))))))))
    (sSeq (sSet 2 (cBin opAdd (cVar 2) (cLst (aCons (cTup aNil) (aCons (cTup (aCons (cC (.str ("row" : Str))) aNil)) (aCons (cTup (aCons (cC (.str ("row" : Str))) (aCons (cLst aNil) aNil))) (aCons (cTup (aCons (cC (.str ("row" : Str))) (aCons (cTup aNil) (aCons (cTup aNil) aNil)))) (aCons (cTup (aCons (cC (.str ("thing" : Str))) (aCons (cNeg (cC (.int 1))) aNil))) (aCons (cTup (aCons (cC (.str ("thing" : Str))) (aCons (cC (.bl true)) aNil))) (aCons (cTup (aCons (cC (.str ("thing" : Str))) (aCons (cBin opAdd (cBin opPow (cC (.int 10)) (cC (.int 15))) (cC (.int 1))) aNil))) aNil))))))))))
    (sSeq (sSet 2 (cBin opAdd (cVar 2) (cLst (aCons (cTup (aCons (cC (.str ("thing" : Str))) (aCons (cC (.int 0)) (aCons (cC (.int 0)) aNil)))) (aCons (cTup (aCons (cC (.str ("deed" : Str))) (aCons (cC (.str ("a" : Str))) aNil))) (aCons (cTup (aCons (cC (.str ("deed" : Str))) (aCons (cC (.str ("A" : Str))) (aCons (cC (.str ("b" : Str))) aNil)))) (aCons (cTup (aCons (cC (.str ("kind" : Str))) (aCons (cC (.str ("a" : Str))) (aCons (cC (.str ("" : Str))) aNil)))) (aCons (cTup (aCons (cC (.str ("kind" : Str))) (aCons (cC (.str ("a" : Str))) (aCons (cC .non) aNil)))) aNil))))))))
    (sSeq (sSet 2 (cBin opAdd (cVar 2) (cLst (aCons (cTup (aCons (cC (.str ("at" : Str))) (aCons (cC (.str ("a" : Str))) (aCons (cC (.str ("b" : Str))) aNil)))) (aCons (cTup (aCons (cVar 1) aNil)) (aCons (cLst (aCons (cVar 1) aNil)) (aCons (cTup (aCons (cC (.str ("row" : Str))) (aCons (cTup (aCons (cVar 1) aNil)) aNil))) (aCons (cTup (aCons (cC (.str ("row" : Str))) (aCons (cVar 1) aNil))) (aCons (cTup (aCons (cC (.str ("Row" : Str))) (aCons (cTup (aCons (cVar 1) aNil)) aNil))) aNil)))))))))
    (sSeq (sSet 2 (cBin opAdd (cVar 2) (cLst (aCons (cTup (aCons (cC (.str ("row" : Str))) (aCons (cTup (aCons (cVar 1) (aCons (cVar 1) aNil))) aNil))) (aCons (cTup (aCons (cC .non) (aCons (cVar 1) aNil))) aNil)))))
    (sRet (cFn f_l_pick (aCons (cVar 0) (aCons (cVar 2) aNil)))))))))
def f_l_odd : FN := runB ps_l_odd.length N_l_odd.length (b_l_odd)
abbrev st_l_spoilt : Stmt := top 37
abbrev N_l_spoilt : List Str := [("_law_hand" : Str), ("_law_it" : Str), ("_law_at" : Str)]
abbrev ps_l_spoilt : List Str := [("_law_hand" : Str), ("_law_it" : Str)]
theorem sc_l_spoilt : FnScope N_l_spoilt ps_l_spoilt (defScope st_l_spoilt) := ⟨rfl, rfl, rfl, by decide +kernel, rfl, by decide +kernel, by decide +kernel⟩
theorem bd_l_spoilt : Bd ("_law_spoilt" : Str) st_l_spoilt ps_l_spoilt := fun _ _ _ _ _ _ us hl => match us, hl with | [_, _], _ => rfl
def b_l_spoilt (self_ : FN) : SF := (sSeq (sIf (tOr' (tNot' (tVal (cCall fIsi (aCons (cVar 1) (aCons (cC (.ty "tuple")) aNil))))) (tOr' (tVal (cBin opEq2 (cVar 1) (cTup aNil))) (tVal (cBin opEq2 (cFn f_l_dealt (aCons (cVar 0) (aCons (cC (.int 4)) aNil))) (cC (.int 0))))))
      (sRet (cFn f_l_odd (aCons (cVar 0) (aCons (cVar 1) aNil))))
      sPass)
    (sSeq (sSet 2 (cFn f_l_dealt (aCons (cVar 0) (aCons (cCall fLen (aCons (cVar 1) aNil)) aNil))))
    (sRet (cBin opAdd (cBin opAdd (cCut (cVar 1) oNone (oSome (cVar 2))) (cTup (aCons (cFn self_ (aCons (cVar 0) (aCons (cBin opIx (cVar 1) (cVar 2)) aNil))) aNil))) (cCut (cVar 1) (oSome (cBin opAdd (cVar 2) (cC (.int 1)))) oNone)))))
def f_l_spoilt : Nat → FN
  | 0 => fun _ _ => .stuck
  | n + 1 => runB ps_l_spoilt.length N_l_spoilt.length (b_l_spoilt (f_l_spoilt n))
abbrev st_is_short_row : Stmt := top 14
abbrev N_is_short_row : List Str := [("thing" : Str), ("word" : Str), ("parts" : Str)]
abbrev ps_is_short_row : List Str := [("thing" : Str)]
theorem sc_is_short_row : FnScope N_is_short_row ps_is_short_row (defScope st_is_short_row) := ⟨rfl, rfl, rfl, by decide +kernel, rfl, by decide +kernel, by decide +kernel⟩
theorem bd_is_short_row : Bd ("is_short_row" : Str) st_is_short_row ps_is_short_row := fun _ _ _ _ _ _ us hl => match us, hl with | [_], _ => rfl
def b_is_short_row : SF := (sSeq (sIf (tOr' (tNot' (tVal (cCall fIsi (aCons (cVar 0) (aCons (cC (.ty "tuple")) aNil))))) (tVal (cBin opNe (cCall fLen (aCons (cVar 0) aNil)) (cC (.int 2)))))
      (sRet (cC (.bl false)))
      sPass)
    (sSeq (sAsg (cVar 0) (gT 2 (gCons' (gN 1) (gCons' (gN 2) gNil'))))
    (sRet (cAnd (cBin opEq2 (cVar 1) (cC (.str ("row" : Str)))) (cAnd (cCall fIsi (aCons (cVar 2) (aCons (cC (.ty "tuple")) aNil))) (cBin opLe (cCall fLen (aCons (cVar 2) aNil)) (cC (.int 40))))))))
def f_is_short_row : FN := runB ps_is_short_row.length N_is_short_row.length (b_is_short_row)
abbrev st_is_whole : Stmt := top 9
abbrev N_is_whole : List Str := [("thing" : Str)]
abbrev ps_is_whole : List Str := [("thing" : Str)]
theorem sc_is_whole : FnScope N_is_whole ps_is_whole (defScope st_is_whole) := ⟨rfl, rfl, rfl, by decide +kernel, rfl, by decide +kernel, by decide +kernel⟩
theorem bd_is_whole : Bd ("is_whole" : Str) st_is_whole ps_is_whole := fun _ _ _ _ _ _ us hl => match us, hl with | [_], _ => rfl
def b_is_whole : SF := (sRet (cAnd (cCall fIsi (aCons (cVar 0) (aCons (cC (.ty "int")) aNil))) (cNot (cCall fIsi (aCons (cVar 0) (aCons (cC (.ty "bool")) aNil))))))
def f_is_whole : FN := runB ps_is_whole.length N_is_whole.length (b_is_whole)
abbrev st_is_short_text : Stmt := top 17
abbrev N_is_short_text : List Str := [("thing" : Str)]
abbrev ps_is_short_text : List Str := [("thing" : Str)]
theorem sc_is_short_text : FnScope N_is_short_text ps_is_short_text (defScope st_is_short_text) := ⟨rfl, rfl, rfl, by decide +kernel, rfl, by decide +kernel, by decide +kernel⟩
theorem bd_is_short_text : Bd ("is_short_text" : Str) st_is_short_text ps_is_short_text := fun _ _ _ _ _ _ us hl => match us, hl with | [_], _ => rfl
def b_is_short_text : SF := (sSeq (sIf (tOr' (tNot' (tVal (cCall fIsi (aCons (cVar 0) (aCons (cC (.ty "str")) aNil))))) (tVal (cBin opGt (cCall fLen (aCons (cVar 0) aNil)) (cC (.int 20)))))
      (sRet (cC (.bl false)))
      sPass)
    (sRet (cAllS (fun c => (between (" " : Str) ("~" : Str) c && !([(37 : Int), 39].any (· == ((c : Nat) : Int))))) (cVar 0))))
def f_is_short_text : FN := runB ps_is_short_text.length N_is_short_text.length (b_is_short_text)
abbrev st_is_plain_single : Stmt := top 16
abbrev N_is_plain_single : List Str := [("thing" : Str)]
abbrev ps_is_plain_single : List Str := [("thing" : Str)]
theorem sc_is_plain_single : FnScope N_is_plain_single ps_is_plain_single (defScope st_is_plain_single) := ⟨rfl, rfl, rfl, by decide +kernel, rfl, by decide +kernel, by decide +kernel⟩
theorem bd_is_plain_single : Bd ("is_plain_single" : Str) st_is_plain_single ps_is_plain_single := fun _ _ _ _ _ _ us hl => match us, hl with | [_], _ => rfl
def b_is_plain_single : SF := (sSeq (sIf (tOr' (tVal (cBin opIs (cVar 0) (cC .non))) (tVal (cCall fIsi (aCons (cVar 0) (aCons (cC (.ty "bool")) aNil)))))
      (sRet (cC (.bl true)))
      sPass)
    (sSeq (sIf (tVal (cFn f_is_whole (aCons (cVar 0) aNil)))
      (sRet (cChain opLe opLe (cNeg (cC (.int 1000000000000000))) (cVar 0) (cC (.int 1000000000000000))))
      sPass)
    (sRet (cFn f_is_short_text (aCons (cVar 0) aNil)))))
def f_is_plain_single : FN := runB ps_is_plain_single.length N_is_plain_single.length (b_is_plain_single)
abbrev st_is_thing : Stmt := top 18
abbrev N_is_thing : List Str := [("thing" : Str), ("word" : Str), ("k" : Str)]
abbrev ps_is_thing : List Str := [("thing" : Str)]
theorem sc_is_thing : FnScope N_is_thing ps_is_thing (defScope st_is_thing) := ⟨rfl, rfl, rfl, by decide +kernel, rfl, by decide +kernel, by decide +kernel⟩
theorem bd_is_thing : Bd ("is_thing" : Str) st_is_thing ps_is_thing := fun _ _ _ _ _ _ us hl => match us, hl with | [_], _ => rfl
def b_is_thing : SF := (sSeq (sIf (tOr' (tNot' (tVal (cCall fIsi (aCons (cVar 0) (aCons (cC (.ty "tuple")) aNil))))) (tVal (cBin opNe (cCall fLen (aCons (cVar 0) aNil)) (cC (.int 2)))))
      (sRet (cC (.bl false)))
      sPass)
    (sSeq (sAsg (cVar 0) (gT 2 (gCons' (gN 1) (gCons' (gN 2) gNil'))))
    (sRet (cAnd (cBin opEq2 (cVar 1) (cC (.str ("thing" : Str)))) (cAnd (cFn f_is_whole (aCons (cVar 2) aNil)) (cChain opLe opLe (cC (.int 0)) (cVar 2) (cC (.int 1000000000000000))))))))
def f_is_thing : FN := runB ps_is_thing.length N_is_thing.length (b_is_thing)
abbrev st_is_name : Stmt := top 10
abbrev N_is_name : List Str := [("thing" : Str)]
abbrev ps_is_name : List Str := [("thing" : Str)]
theorem sc_is_name : FnScope N_is_name ps_is_name (defScope st_is_name) := ⟨rfl, rfl, rfl, by decide +kernel, rfl, by decide +kernel, by decide +kernel⟩
theorem bd_is_name : Bd ("is_name" : Str) st_is_name ps_is_name := fun _ _ _ _ _ _ us hl => match us, hl with | [_], _ => rfl
def b_is_name : SF := (sSeq (sIf (tOr' (tNot' (tVal (cCall fIsi (aCons (cVar 0) (aCons (cC (.ty "str")) aNil))))) (tNot' (tVal (cChain opLe opLe (cC (.int 1)) (cCall fLen (aCons (cVar 0) aNil)) (cC (.int 8))))))
      (sRet (cC (.bl false)))
      sPass)
    (sRet (cAllS (between ("a" : Str) ("z" : Str)) (cVar 0))))
def f_is_name : FN := runB ps_is_name.length N_is_name.length (b_is_name)
abbrev st_is_deed_or_kind : Stmt := top 19
abbrev N_is_deed_or_kind : List Str := [("thing" : Str), ("word" : Str), ("module" : Str), ("name" : Str)]
abbrev ps_is_deed_or_kind : List Str := [("thing" : Str)]
theorem sc_is_deed_or_kind : FnScope N_is_deed_or_kind ps_is_deed_or_kind (defScope st_is_deed_or_kind) := ⟨rfl, rfl, rfl, by decide +kernel, rfl, by decide +kernel, by decide +kernel⟩
theorem bd_is_deed_or_kind : Bd ("is_deed_or_kind" : Str) st_is_deed_or_kind ps_is_deed_or_kind := fun _ _ _ _ _ _ us hl => match us, hl with | [_], _ => rfl
def b_is_deed_or_kind : SF := (sSeq (sIf (tOr' (tNot' (tVal (cCall fIsi (aCons (cVar 0) (aCons (cC (.ty "tuple")) aNil))))) (tVal (cBin opNe (cCall fLen (aCons (cVar 0) aNil)) (cC (.int 3)))))
      (sRet (cC (.bl false)))
      sPass)
    (sSeq (sAsg (cVar 0) (gT 3 (gCons' (gN 1) (gCons' (gN 2) (gCons' (gN 3) gNil')))))
    (sRet (cAnd (cBin opIn2 (cVar 1) (cTup (aCons (cC (.str ("deed" : Str))) (aCons (cC (.str ("kind" : Str))) aNil)))) (cAnd (cFn f_is_name (aCons (cVar 2) aNil)) (cFn f_is_name (aCons (cVar 3) aNil)))))))
def f_is_deed_or_kind : FN := runB ps_is_deed_or_kind.length N_is_deed_or_kind.length (b_is_deed_or_kind)
abbrev st_is_single : Stmt := top 15
abbrev N_is_single : List Str := [("thing" : Str)]
abbrev ps_is_single : List Str := [("thing" : Str)]
theorem sc_is_single : FnScope N_is_single ps_is_single (defScope st_is_single) := ⟨rfl, rfl, rfl, by decide +kernel, rfl, by decide +kernel, by decide +kernel⟩
theorem bd_is_single : Bd ("is_single" : Str) st_is_single ps_is_single := fun _ _ _ _ _ _ us hl => match us, hl with | [_], _ => rfl
def b_is_single : SF := (sRet (cOr (cFn f_is_plain_single (aCons (cVar 0) aNil)) (cOr (cFn f_is_thing (aCons (cVar 0) aNil)) (cFn f_is_deed_or_kind (aCons (cVar 0) aNil)))))
def f_is_single : FN := runB ps_is_single.length N_is_single.length (b_is_single)
abbrev st_is_built_of : Stmt := top 13
abbrev N_is_built_of : List Str := [("thing" : Str), ("is_fit" : Str), ("pending" : Str), ("many" : Str), ("part" : Str), ("deep" : Str), ("inner" : Str)]
abbrev ps_is_built_of : List Str := [("thing" : Str), ("is_fit" : Str)]
theorem sc_is_built_of : FnScope N_is_built_of ps_is_built_of (defScope st_is_built_of) := ⟨rfl, rfl, rfl, by decide +kernel, rfl, by decide +kernel, by decide +kernel⟩
theorem bd_is_built_of : Bd ("is_built_of" : Str) st_is_built_of ps_is_built_of := fun _ _ _ _ _ _ us hl => match us, hl with | [_, _], _ => rfl
def b_is_built_of (V : FV) : SF := (sSeq (sSet 2 (cLst (aCons (cTup (aCons (cVar 0) (aCons (cC (.int 1)) aNil))) aNil)))
    (sSeq (sSet 3 (cC (.int 0)))
    (sSeq (sWhile 300 (tAnd' (tTru (cVar 2)) (tVal (cBin opLe (cVar 3) (cC (.int 200))))) (sSeq (sAsg (cMeth "list" mPop (cVar 2) aNil) (gT 2 (gCons' (gN 4) (gCons' (gN 5) gNil'))))
    (sSeq (sAug 3 opIAdd (cC (.int 1)))
    (sIf (tAnd' (tVal (cFn f_is_short_row (aCons (cVar 4) aNil))) (tVal (cBin opLe (cVar 5) (cC (.int 8)))))
      (sExpr (cMeth "list" mExtend (cVar 2) (aCons (cComp (iAny (cBin opIx (cVar 4) (cC (.int 1)))) (gN 6) tYes' (cTup (aCons (cVar 6) (aCons (cBin opAdd (cVar 5) (cC (.int 1))) aNil))) [6]) aNil)))
      (sIf (tNot' (tVal (cCallV 1 [(V.a_is_single, f_is_single), (V.a_is_plain_single, f_is_plain_single)] (aCons (cVar 4) aNil))))
      (sRet (cC (.bl false)))
      sPass)))))
    (sRet (cBin opLe (cVar 3) (cC (.int 200)))))))
def f_is_built_of (V : FV) : FN := runB ps_is_built_of.length N_is_built_of.length (b_is_built_of V)
abbrev st_is_worth : Stmt := top 11
abbrev N_is_worth : List Str := [("thing" : Str)]
abbrev ps_is_worth : List Str := [("thing" : Str)]
theorem sc_is_worth : FnScope N_is_worth ps_is_worth (defScope st_is_worth) := ⟨rfl, rfl, rfl, by decide +kernel, rfl, by decide +kernel, by decide +kernel⟩
theorem bd_is_worth : Bd ("is_worth" : Str) st_is_worth ps_is_worth := fun _ _ _ _ _ _ us hl => match us, hl with | [_], _ => rfl
def b_is_worth (V : FV) : SF := (sRet (cFn (f_is_built_of V) (aCons (cVar 0) (aCons (cC (.own V.a_is_single)) aNil))))
def f_is_worth (V : FV) : FN := runB ps_is_worth.length N_is_worth.length (b_is_worth V)
abbrev st_is_plain : Stmt := top 12
abbrev N_is_plain : List Str := [("thing" : Str)]
abbrev ps_is_plain : List Str := [("thing" : Str)]
theorem sc_is_plain : FnScope N_is_plain ps_is_plain (defScope st_is_plain) := ⟨rfl, rfl, rfl, by decide +kernel, rfl, by decide +kernel, by decide +kernel⟩
theorem bd_is_plain : Bd ("is_plain" : Str) st_is_plain ps_is_plain := fun _ _ _ _ _ _ us hl => match us, hl with | [_], _ => rfl
def b_is_plain (V : FV) : SF := (sRet (cFn (f_is_built_of V) (aCons (cVar 0) (aCons (cC (.own V.a_is_plain_single)) aNil))))
def f_is_plain (V : FV) : FN := runB ps_is_plain.length N_is_plain.length (b_is_plain V)
abbrev st_l_is_label : Stmt := top 32
abbrev N_l_is_label : List Str := [("_law_it" : Str), ("_law_sign" : Str)]
abbrev ps_l_is_label : List Str := [("_law_it" : Str)]
theorem sc_l_is_label : FnScope N_l_is_label ps_l_is_label (defScope st_l_is_label) := ⟨rfl, rfl, rfl, by decide +kernel, rfl, by decide +kernel, by decide +kernel⟩
theorem bd_l_is_label : Bd ("_law_is_label" : Str) st_l_is_label ps_l_is_label := fun _ _ _ _ _ _ us hl => match us, hl with | [_], _ => rfl
def b_l_is_label : SF := (sSeq (sIf (tOr' (tNot' (tVal (cCall fIsi (aCons (cVar 0) (aCons (cC (.ty "str")) aNil))))) (tVal (cBin opNotIn2 (cCall fLen (aCons (cVar 0) aNil)) (cTup (aCons (cC (.int 1)) (aCons (cC (.int 2)) (aCons (cC (.int 3)) (aCons (cC (.int 4)) (aCons (cC (.int 5)) (aCons (cC (.int 6)) (aCons (cC (.int 7)) (aCons (cC (.int 8)) aNil))))))))))))
      (sRet (cC (.bl false)))
      sPass)
    (sRet (cBin opEq2 (cComp (iAny (cVar 0)) (gN 1) (tVal (cBin opLt (cMeth "str" mFind (cC (.str ("abcdefghijklmnopqrstuvwxyz" : Str))) (aCons (cVar 1) aNil)) (cC (.int 0)))) (cVar 1) [1]) (cLst aNil))))
def f_l_is_label : FN := runB ps_l_is_label.length N_l_is_label.length (b_l_is_label)
abbrev st_l_leaf_looked : Stmt := top 33
abbrev N_l_leaf_looked : List Str := [("_law_it" : Str), ("_law_is_so" : Str), ("_law_part" : Str), ("_law_sign" : Str)]
abbrev ps_l_leaf_looked : List Str := [("_law_it" : Str)]
theorem sc_l_leaf_looked : FnScope N_l_leaf_looked ps_l_leaf_looked (defScope st_l_leaf_looked) := ⟨rfl, rfl, rfl, by decide +kernel, rfl, by decide +kernel, by decide +kernel⟩
theorem bd_l_leaf_looked : Bd ("_law_leaf_looked" : Str) st_l_leaf_looked ps_l_leaf_looked := fun _ _ _ _ _ _ us hl => match us, hl with | [_], _ => rfl
def b_l_leaf_looked : SF := (sSeq (sIf (tOr' (tVal (cBin opIs (cVar 0) (cC .non))) (tVal (cCall fIsi (aCons (cVar 0) (aCons (cC (.ty "bool")) aNil)))))
      (sRet (cTup (aCons (cC (.bl true)) (aCons (cC (.bl true)) aNil))))
      sPass)
    (sSeq (sIf (tVal (cCall fIsi (aCons (cVar 0) (aCons (cC (.ty "int")) aNil))))
      (sRet (cTup (aCons (cBin opLe (cCall fAbs (aCons (cVar 0) aNil)) (cBin opPow (cC (.int 10)) (cC (.int 15)))) (aCons (cC (.bl true)) aNil))))
      sPass)
    (sSeq (sIf (tVal (cCall fIsi (aCons (cVar 0) (aCons (cC (.ty "str")) aNil))))
      (sRet (cTup (aCons (cAnd (cBin opLt (cCall fLen (aCons (cVar 0) aNil)) (cC (.int 21))) (cBin opEq2 (cComp (iAny (cVar 0)) (gN 3) (tOr' (tNot' (tVal (cChain opLt opLt (cC (.int 31)) (cCall fOrd (aCons (cVar 3) aNil)) (cC (.int 127))))) (tVal (cBin opIn2 (cCall fOrd (aCons (cVar 3) aNil)) (cTup (aCons (cC (.int 37)) (aCons (cC (.int 39)) aNil)))))) (cVar 3) [3]) (cLst aNil))) (aCons (cC (.bl true)) aNil))))
      sPass)
    (sSeq (sIf (tOr' (tNot' (tVal (cCall fIsi (aCons (cVar 0) (aCons (cC (.ty "tuple")) aNil))))) (tOr' (tVal (cBin opEq2 (cVar 0) (cTup aNil))) (tNot' (tVal (cCall fIsi (aCons (cBin opIx (cVar 0) (cC (.int 0))) (aCons (cC (.ty "str")) aNil)))))))
      (sRet (cTup (aCons (cC (.bl false)) (aCons (cC (.bl false)) aNil))))
      sPass)
    (sSeq (sIf (tAnd' (tVal (cBin opEq2 (cBin opIx (cVar 0) (cC (.int 0))) (cC (.str ("thing" : Str))))) (tVal (cBin opEq2 (cCall fLen (aCons (cVar 0) aNil)) (cC (.int 2)))))
      (sSeq (sSet 1 (cAnd (cCall fIsi (aCons (cBin opIx (cVar 0) (cC (.int 1))) (aCons (cC (.ty "int")) aNil))) (cAnd (cNot (cCall fIsi (aCons (cBin opIx (cVar 0) (cC (.int 1))) (aCons (cC (.ty "bool")) aNil)))) (cChain opLe opLe (cC (.int 0)) (cBin opIx (cVar 0) (cC (.int 1))) (cBin opPow (cC (.int 10)) (cC (.int 15)))))))
    (sRet (cTup (aCons (cVar 1) (aCons (cC (.bl false)) aNil)))))
      sPass)
    (sSeq (sSet 1 (cAnd (cBin opIn2 (cBin opIx (cVar 0) (cC (.int 0))) (cTup (aCons (cC (.str ("deed" : Str))) (aCons (cC (.str ("kind" : Str))) aNil)))) (cBin opEq2 (cCall fLen (aCons (cVar 0) aNil)) (cC (.int 3)))))
    (sRet (cTup (aCons (cAnd (cVar 1) (cBin opEq2 (cComp (iAny (cCut (cVar 0) (oSome (cC (.int 1))) oNone)) (gN 2) (tNot' (tVal (cFn f_l_is_label (aCons (cVar 2) aNil)))) (cVar 2) [2]) (cLst aNil))) (aCons (cC (.bl false)) aNil))))))))))
def f_l_leaf_looked : FN := runB ps_l_leaf_looked.length N_l_leaf_looked.length (b_l_leaf_looked)
abbrev st_l_looked : Stmt := top 34
abbrev N_l_looked : List Str := [("_law_it" : Str), ("_law_found" : Str), ("_law_lots" : Str), ("_law_good" : Str), ("_law_plain" : Str), ("_law_part" : Str), ("_law_row" : Str)]
abbrev ps_l_looked : List Str := [("_law_it" : Str)]
theorem sc_l_looked : FnScope N_l_looked ps_l_looked (defScope st_l_looked) := ⟨rfl, rfl, rfl, by decide +kernel, rfl, by decide +kernel, by decide +kernel⟩
theorem bd_l_looked : Bd ("_law_looked" : Str) st_l_looked ps_l_looked := fun _ _ _ _ _ _ us hl => match us, hl with | [_], _ => rfl
def b_l_looked (self_ : FN) : SF := (sSeq (sIf (tOr' (tNot' (tVal (cCall fIsi (aCons (cVar 0) (aCons (cC (.ty "tuple")) aNil))))) (tOr' (tVal (cBin opNe (cCall fLen (aCons (cVar 0) aNil)) (cC (.int 2)))) (tOr' (tVal (cBin opNe (cCall fRepr2 (aCons (cBin opIx (cVar 0) (cC (.int 0))) aNil)) (cCall fRepr2 (aCons (cC (.str ("row" : Str))) aNil)))) (tNot' (tVal (cCall fIsi (aCons (cBin opIx (cVar 0) (cC (.int 1))) (aCons (cC (.ty "tuple")) aNil))))))))
      (sSeq (sAsg (cFn f_l_leaf_looked (aCons (cVar 0) aNil)) (gT 2 (gCons' (gN 3) (gCons' (gN 4) gNil'))))
    (sRet (cIf (tTru (cVar 3)) (cTup (aCons (cC (.int 1)) (aCons (cC (.int 0)) (aCons (cVar 4) aNil)))) (cC .non))))
      sPass)
    (sSeq (sSet 1 (cComp (iAny (cBin opIx (cVar 0) (cC (.int 1)))) (gN 5) tYes' (cFn self_ (aCons (cVar 5) aNil)) [5]))
    (sSeq (sIf (tOr' (tVal (cBin opGt (cCall fLen (aCons (cVar 1) aNil)) (cC (.int 40)))) (tVal (cBin opIn2 (cC .non) (cVar 1))))
      (sRet (cC .non))
      sPass)
    (sSeq (sSet 2 (cBin opAdd (cC (.int 1)) (cCall fSum (aCons (cComp (iAny (cVar 1)) (gN 6) tYes' (cBin opIx (cVar 6) (cC (.int 0))) [6]) aNil))))
    (sRet (cTup (aCons (cVar 2) (aCons (cBin opAdd (cC (.int 1)) (cMaxD (cComp (iAny (cVar 1)) (gN 6) tYes' (cBin opIx (cVar 6) (cC (.int 1))) [6]) (cC (.int 0)))) (aCons (cBin opEq2 (cComp (iAny (cVar 1)) (gN 6) (tNot' (tTru (cBin opIx (cVar 6) (cC (.int 2))))) (cVar 6) [6]) (cLst aNil)) aNil)))))))))
def f_l_looked : Nat → FN
  | 0 => fun _ _ => .stuck
  | n + 1 => runB ps_l_looked.length N_l_looked.length (b_l_looked (f_l_looked n))
abbrev st_l_deemed : Stmt := top 35
abbrev N_l_deemed : List Str := [("_law_it" : Str), ("_law_found" : Str)]
abbrev ps_l_deemed : List Str := [("_law_it" : Str)]
theorem sc_l_deemed : FnScope N_l_deemed ps_l_deemed (defScope st_l_deemed) := ⟨rfl, rfl, rfl, by decide +kernel, rfl, by decide +kernel, by decide +kernel⟩
theorem bd_l_deemed : Bd ("_law_deemed" : Str) st_l_deemed ps_l_deemed := fun _ _ _ _ _ _ us hl => match us, hl with | [_], _ => rfl
def b_l_deemed : SF := (sSeq (sSet 1 (cFn (f_l_looked 30) (aCons (cVar 0) aNil)))
    (sSeq (sIf (tOr' (tVal (cBin opIs (cVar 1) (cC .non))) (tOr' (tVal (cBin opGt (cBin opIx (cVar 1) (cC (.int 0))) (cC (.int 200)))) (tVal (cBin opGt (cBin opIx (cVar 1) (cC (.int 1))) (cC (.int 8))))))
      (sRet (cLst (aCons (cC (.bl false)) (aCons (cC (.bl false)) aNil))))
      sPass)
    (sRet (cLst (aCons (cC (.bl true)) (aCons (cBin opIx (cVar 1) (cC (.int 2))) aNil))))))
def f_l_deemed : FN := runB ps_l_deemed.length N_l_deemed.length (b_l_deemed)
abbrev st_l_right : Stmt := top 38
abbrev N_l_right : List Str := [("_law_it" : Str), ("_law_kept" : Str), ("_law_found" : Str)]
abbrev ps_l_right : List Str := [("_law_it" : Str)]
theorem sc_l_right : FnScope N_l_right ps_l_right (defScope st_l_right) := ⟨rfl, rfl, rfl, by decide +kernel, rfl, by decide +kernel, by decide +kernel⟩
theorem bd_l_right : Bd ("_law_right" : Str) st_l_right ps_l_right := fun _ _ _ _ _ _ us hl => match us, hl with | [_], _ => rfl
def b_l_right (V : FV) : SF := (sSeq (sSet 1 (cCall fRepr2 (aCons (cVar 0) aNil)))
    (sSeq (sSet 2 (cLst (aCons (cFn (f_is_worth V) (aCons (cVar 0) aNil)) (aCons (cFn (f_is_plain V) (aCons (cVar 0) aNil)) (aCons (cFn (fun es h => (f_is_worth V) (pm0 es) h) (aCons (cVar 0) aNil)) (aCons (cFn (fun es h => (f_is_plain V) (pm0 es) h) (aCons (cVar 0) aNil)) aNil))))))
    (sRet (cAnd (cBin opEq2 (cCall fRepr2 (aCons (cVar 2) aNil)) (cCall fRepr2 (aCons (cBin opMul (cFn f_l_deemed (aCons (cVar 0) aNil)) (cC (.int 2))) aNil))) (cBin opEq2 (cCall fRepr2 (aCons (cVar 0) aNil)) (cVar 1))))))
def f_l_right (V : FV) : FN := runB ps_l_right.length N_l_right.length (b_l_right V)
abbrev st_law : Stmt := top 39
abbrev N_law : List Str := [("_law_script" : Str), ("_law_hand" : Str), ("_law_ways" : Str), ("_law_some" : Str), ("_law_twice" : Str), ("_law_it" : Str), ("_law_turn" : Str)]
abbrev ps_law : List Str := [("_law_script" : Str)]
theorem sc_law : FnScope N_law ps_law (defScope st_law) := ⟨rfl, rfl, rfl, by decide +kernel, rfl, by decide +kernel, by decide +kernel⟩
theorem bd_law : Bd ("law" : Str) st_law ps_law := fun _ _ _ _ _ _ us hl => match us, hl with | [_], _ => rfl
def b_law (V : FV) : SF := (sSeq (sSet 1 (cFn f_l_begun (aCons (cVar 0) aNil)))
    (sSeq (sSet 2 (cComp (iRange1 (cC (.int 12))) (gN 6) tYes' (cBin opEq2 (cFn f_l_dealt (aCons (cVar 1) (aCons (cC (.int 3)) aNil))) (cC (.int 0))) [6]))
    (sSeq (sSet 3 (cBin opAdd (cBin opAdd (cComp (iRange1 (cC (.int 8))) (gN 6) tYes' (cFn (f_l_drawn 30) (aCons (cVar 1) (aCons (cC (.int 3)) aNil))) [6]) (cFn f_l_greatest (aCons (cVar 1) aNil))) (cFn f_l_beyond (aCons (cVar 1) aNil))))
    (sSeq (sFor (iAny (cVar 2)) (gN 4) (sSeq (sSet 5 (cFn (f_l_spoilt 30) (aCons (cVar 1) (aCons (cFn f_l_pick (aCons (cVar 1) (aCons (cCut (cVar 3) oNone (oSome (cC (.int 12)))) aNil))) aNil))))
    (sExpr (cMeth "list" mAppend (cVar 3) (aCons (cIf (tTru (cVar 4)) (cFn (f_l_spoilt 30) (aCons (cVar 1) (aCons (cVar 5) aNil))) (cVar 5)) aNil)))))
    (sSeq (sSet 3 (cBin opAdd (cBin opAdd (cVar 3) (cFn f_l_alike_looks aNil)) (cLst (aCons (cLst aNil) (aCons cD0 (aCons (cTup aNil) (aCons (cTup (aCons (cC (.str ("a" : Str))) aNil)) (aCons (cTup (aCons (cC (.str ("row" : Str))) (aCons (cLst (aCons (cC (.str ("a" : Str))) aNil)) aNil))) (aCons (cLst (aCons (cC (.str ("row" : Str))) (aCons (cTup (aCons (cC (.str ("a" : Str))) aNil)) aNil))) (aCons (cD1 ("row" : Str) (cTup aNil)) (aCons (cTup (aCons (cTup aNil) aNil)) aNil)))))))))))
    (sSeq (sSet 3 (cBin opAdd (cVar 3) (cLst (aCons (cC (.str ("" : Str))) (aCons (cBin opMul (cC (.str ("a" : Str))) (cC (.int 20))) (aCons (cBin opMul (cC (.str ("a" : Str))) (cC (.int 21))) (aCons (cTup (aCons (cC (.str ("thing" : Str))) (aCons (cBin opPow (cC (.int 10)) (cC (.int 15))) aNil))) (aCons (cTup (aCons (cC (.bl true)) aNil)) (aCons (cTup (aCons (cC (.str ("row" : Str))) (aCons (cTup aNil) aNil))) (aCons (cTup (aCons (cC (.str ("row" : Str))) (aCons (cTup (aCons (cTup aNil) aNil)) aNil))) aNil))))))))))
    (sSeq (sSet 3 (cBin opAdd (cVar 3) (cLst (aCons (cFn f_l_chain (aCons (cTup (aCons (cC (.str ("row" : Str))) (aCons (cTup aNil) aNil))) (aCons (cC (.int 7)) aNil))) (aCons (cFn f_l_chain (aCons (cTup (aCons (cC (.str ("row" : Str))) (aCons (cTup aNil) aNil))) (aCons (cC (.int 8)) aNil))) aNil)))))
    (sRet (cBin opEq2 (cComp (iAny (cBin opAdd (cVar 3) (cRev (cVar 3)))) (gN 5) (tNot' (tVal (cFn (f_l_right V) (aCons (cVar 5) aNil)))) (cVar 5) [5]) (cLst aNil))))))))))
def f_law (V : FV) : FN := runB ps_law.length N_law.length (b_law V)
theorem bk_is_plain_0 : BdK ("is_plain" : Str) st_is_plain ps_is_plain [("thing" : Str)] 0 (fun _ ws => pm0 ws) := fun _ _ _ _ _ _ us ws h1 h2 => match us, ws, h1, h2 with | [], [_], _, _ => rfl
theorem bk_is_worth_0 : BdK ("is_worth" : Str) st_is_worth ps_is_worth [("thing" : Str)] 0 (fun _ ws => pm0 ws) := fun _ _ _ _ _ _ us ws h1 h2 => match us, ws, h1, h2 with | [], [_], _, _ => rfl
structure Txt (K : PySem.W.Frag) (mg : Str → Option Value) : Prop where
  b_abs : mg ("abs" : Str) = none
  b_all : mg ("all" : Str) = none
  b_bool : mg ("bool" : Str) = none
  b_int : mg ("int" : Str) = none
  b_isinstance : mg ("isinstance" : Str) = none
  b_len : mg ("len" : Str) = none
  b_list : mg ("list" : Str) = none
  b_max : mg ("max" : Str) = none
  b_ord : mg ("ord" : Str) = none
  b_range : mg ("range" : Str) = none
  b_repr : mg ("repr" : Str) = none
  b_str : mg ("str" : Str) = none
  b_sum : mg ("sum" : Str) = none
  b_tuple : mg ("tuple" : Str) = none
  g_GREATEST : ∃ u, mg ("GREATEST" : Str) = some u ∧ RelV (.int 1000000000000000) u
  g_NAME_SIGNS : ∃ u, mg ("NAME_SIGNS" : Str) = some u ∧ RelV (.int 8) u
  g_PERCENT : ∃ u, mg ("PERCENT" : Str) = some u ∧ RelV (.int 37) u
  g_QUOTE : ∃ u, mg ("QUOTE" : Str) = some u ∧ RelV (.int 39) u
  g_ROWS_DEEP : ∃ u, mg ("ROWS_DEEP" : Str) = some u ∧ RelV (.int 8) u
  g_ROW_PARTS : ∃ u, mg ("ROW_PARTS" : Str) = some u ∧ RelV (.int 40) u
  g_TEXT_SIGNS : ∃ u, mg ("TEXT_SIGNS" : Str) = some u ∧ RelV (.int 20) u
  g_WORTHS_IN_ALL : ∃ u, mg ("WORTHS_IN_ALL" : Str) = some u ∧ RelV (.int 200) u
structure HV (V : FV) (mg : Str → Option Value) : Prop where
  m_is_single : mg ("is_single" : Str) = some (.ref V.a_is_single)
  m_is_plain_single : mg ("is_plain_single" : Str) = some (.ref V.a_is_plain_single)
section
variable {P : Program} {w : World} {K : PySem.W.Frag} {mg : Str → Option Value} {base : Heap} {cls ts : List Addr}
theorem ok_l_begun (T : Txt K mg) {f : Addr} {cdv : Value} {fd : FuncData} (D : Kd K mg ("_law_begun" : Str) st_l_begun f cdv fd) : Ca P w K mg base cls ts 1 ("_law_begun" : Str) st_l_begun ps_l_begun f_l_begun :=
  ⟨f, cdv, fd, D, D.fn sc_l_begun fun A outer s H E hg hr tk =>
    (ss_cons (s_par2 (i := 2) (j := 3) rfl sc_l_begun.nd rfl rfl (by decide) rfl rfl (e_callTy call_list_of list_ok (by rfl) T.b_list boot_list (a_cons (e_cut (e_var 0) o_none (o_some e_int)) a_nil)) e_int rfl)
    (ss_cons (s_for (passes_of rfl) rfl (i_any (e_var 2)) (g_name (i := 1) sc_l_begun.nd rfl (Or.inl rfl)) (ss_one (s_set (i := 3) sc_l_begun.nd rfl (Or.inl rfl) (e_bin op_modN opMod_ok (e_bin op_addM opAdd_ok (e_bin op_addM opAdd_ok (e_bin op_mulM opMul_ok (e_var 3) e_int) (e_bin op_modN opMod_ok (e_var 1) e_int)) e_int) e_int))))
    (ss_one (s_ret (e_lst (a_cons (e_rev (e_var 2)) (a_cons (e_var 3) (a_cons e_int a_nil))))))))⟩
theorem ok_l_dealt (T : Txt K mg) {f : Addr} {cdv : Value} {fd : FuncData} (D : Kd K mg ("_law_dealt" : Str) st_l_dealt f cdv fd) : Ca P w K mg base cls ts 1 ("_law_dealt" : Str) st_l_dealt ps_l_dealt f_l_dealt :=
  ⟨f, cdv, fd, D, D.fn sc_l_dealt fun A outer s H E hg hr tk =>
    (ss_cons (s_put (e_bin op_addM opAdd_ok (e_ix (e_var 0) e_int) e_int) (e_var 0) e_int)
    (ss_cons (s_set (i := 2) sc_l_dealt.nd rfl (Or.inl rfl) (e_ix (e_var 0) e_int))
    (ss_cons (s_if (t_cmp (op_neM hr.units) opNe_ok (e_ix (e_var 0) e_int) (e_lst a_nil) (by rfl))
      (ss_cons (s_set (i := 2) sc_l_dealt.nd rfl (Or.inl rfl) (e_meth0 (.inl rfl) PySem.F.plainAttrs_list PySem.F.slot_list_pop PySem.F.type_list_pop mt_pop pop_ok (e_ix (e_var 0) e_int)))
    (ss_one (s_if (t_cmp op_geM opGe_ok (e_var 2) (e_bin op_pow opPow_ok e_int e_int) (by rfl))
      (ss_cons (s_expr (e_meth (.inl rfl) PySem.F.plainAttrs_list PySem.F.slot_list_append PySem.F.type_list_append mt_append append_ok (e_ix (e_var 0) e_int) (a_cons (e_bin op_fdivN opFdiv_ok (e_var 2) (e_var 1)) a_nil)))
    (ss_one (s_ret (e_bin op_modN opMod_ok (e_var 2) (e_var 1)))))
      ss_nil)))
      ss_nil)
    (ss_cons (s_set (i := 3) sc_l_dealt.nd rfl (Or.inl rfl) (e_bin op_addM opAdd_ok (e_bin op_addM opAdd_ok (e_bin op_addM opAdd_ok (e_bin op_modN opMod_ok (e_var 2) e_int) (e_bin op_mulM opMul_ok (e_bin op_mulM opMul_ok e_int (e_ix (e_var 0) e_int)) (e_ix (e_var 0) e_int))) (e_ix (e_var 0) e_int)) e_int))
    (ss_cons (s_set (i := 3) sc_l_dealt.nd rfl (Or.inl rfl) (e_bin op_modN opMod_ok (e_bin op_mulM opMul_ok (e_var 3) e_int) e_int))
    (ss_cons (s_set (i := 3) sc_l_dealt.nd rfl (Or.inl rfl) (e_bin op_modN opMod_ok (e_bin op_addM opAdd_ok (e_bin op_addM opAdd_ok (e_bin op_mulM opMul_ok (e_var 3) (e_var 3)) (e_bin op_mulM opMul_ok e_int (e_ix (e_var 0) e_int))) e_int) e_int))
    (ss_one (s_ret (e_bin op_modN opMod_ok (e_bin op_fdivN opFdiv_ok (e_bin op_modN opMod_ok (e_bin op_mulM opMul_ok (e_var 3) (e_bin op_addM opAdd_ok (e_bin op_fdivN opFdiv_ok (e_var 3) e_int) e_int)) e_int) e_int) (e_var 1))))))))))⟩
theorem ok_l_pick (T : Txt K mg) (C_l_dealt : Ca P w K mg base cls ts 1 ("_law_dealt" : Str) st_l_dealt ps_l_dealt f_l_dealt) {f : Addr} {cdv : Value} {fd : FuncData} (D : Kd K mg ("_law_pick" : Str) st_l_pick f cdv fd) : Ca P w K mg base cls ts 2 ("_law_pick" : Str) st_l_pick ps_l_pick f_l_pick :=
  ⟨f, cdv, fd, D, D.fn sc_l_pick fun A outer s H E hg hr tk =>
    (ss_one (s_ret (e_ix (e_var 1) (e_ca C_l_dealt bd_l_dealt hg (hr.mono (by decide)) tk (by rfl) (a_cons (e_var 0) (a_cons (e_callB call_lenM len_ok (by rfl) T.b_len PySem.boot_len (a_cons (e_var 1) a_nil)) a_nil))))))⟩
theorem ok_l_alike_looks (T : Txt K mg) {f : Addr} {cdv : Value} {fd : FuncData} (D : Kd K mg ("_law_alike_looks" : Str) st_l_alike_looks f cdv fd) : Ca P w K mg base cls ts 1 ("_law_alike_looks" : Str) st_l_alike_looks ps_l_alike_looks f_l_alike_looks :=
  ⟨f, cdv, fd, D, D.fn sc_l_alike_looks fun A outer s H E hg hr tk =>
    (ss_cons (s_set (i := 0) sc_l_alike_looks.nd rfl (Or.inl rfl) (e_lst (a_cons (e_tup (a_cons e_str (a_cons e_int a_nil))) (a_cons (e_tup (a_cons e_str (a_cons e_str (a_cons e_str a_nil)))) (a_cons (e_tup (a_cons e_str (a_cons e_str (a_cons e_str a_nil)))) (a_cons (e_tup (a_cons e_str (a_cons e_int a_nil))) (a_cons (e_tup (a_cons e_str (a_cons (e_tup (a_cons e_str (a_cons (e_tup a_nil) a_nil))) a_nil))) (a_cons (e_tup (a_cons e_str a_nil)) a_nil))))))))
    (ss_one (s_ret (e_comp (own := [(("_law_parts" : Str), 1)]) rfl sc_l_alike_looks.nd (i_any (e_var 0)) (blkOk_by (N := N_l_alike_looks) (sc := defScope st_l_alike_looks) (by decide +kernel)) (by decide) (fun _ _ _ _ _ => (g_name (i := 1) sc_l_alike_looks.nd rfl (Or.inl rfl))) (fun _ _ _ _ _ => ts_nil) (fun _ _ _ _ _ => (e_tup (a_cons e_str (a_cons (e_var 1) a_nil))))))))⟩
theorem ok_l_label (T : Txt K mg) (C_l_pick : Ca P w K mg base cls ts 2 ("_law_pick" : Str) st_l_pick ps_l_pick f_l_pick) {f : Addr} {cdv : Value} {fd : FuncData} (D : Kd K mg ("_law_label" : Str) st_l_label f cdv fd) : Ca P w K mg base cls ts 3 ("_law_label" : Str) st_l_label ps_l_label f_l_label :=
  ⟨f, cdv, fd, D, D.fn sc_l_label fun A outer s H E hg hr tk =>
    (ss_one (s_ret (e_ca C_l_pick bd_l_pick hg (hr.mono (by decide)) tk (by rfl) (a_cons (e_var 0) (a_cons (e_lst (a_cons e_str (a_cons e_str (a_cons e_str (a_cons e_str (a_cons e_str (a_cons e_str (a_cons e_str (a_cons e_str a_nil))))))))) a_nil)))))⟩
theorem ok_l_leaf (T : Txt K mg) (C_l_dealt : Ca P w K mg base cls ts 1 ("_law_dealt" : Str) st_l_dealt ps_l_dealt f_l_dealt) (C_l_pick : Ca P w K mg base cls ts 2 ("_law_pick" : Str) st_l_pick ps_l_pick f_l_pick) (C_l_label : Ca P w K mg base cls ts 3 ("_law_label" : Str) st_l_label ps_l_label f_l_label) {f : Addr} {cdv : Value} {fd : FuncData} (D : Kd K mg ("_law_leaf" : Str) st_l_leaf f cdv fd) : Ca P w K mg base cls ts 4 ("_law_leaf" : Str) st_l_leaf ps_l_leaf f_l_leaf :=
  ⟨f, cdv, fd, D, D.fn sc_l_leaf fun A outer s H E hg hr tk =>
    (ss_cons (s_par2 (i := 3) (j := 4) rfl sc_l_leaf.nd rfl rfl (by decide) rfl rfl (e_ca C_l_dealt bd_l_dealt hg (hr.mono (by decide)) tk (by rfl) (a_cons (e_var 0) (a_cons e_int a_nil))) (e_ca C_l_pick bd_l_pick hg (hr.mono (by decide)) tk (by rfl) (a_cons (e_var 0) (a_cons (e_lst (a_cons e_int (a_cons e_int (a_cons e_int (a_cons e_int (a_cons e_int (a_cons e_int (a_cons e_int (a_cons (e_bin op_pow opPow_ok e_int e_int) a_nil))))))))) a_nil))) rfl)
    (ss_cons (s_set (i := 1) sc_l_leaf.nd rfl (Or.inl rfl) (e_lst (a_cons e_str (a_cons e_str (a_cons e_str (a_cons e_str (a_cons e_str (a_cons e_str (a_cons e_str (a_cons e_str (a_cons e_str (a_cons e_str (a_cons e_str (a_cons e_str (a_cons e_str a_nil)))))))))))))))
    (ss_cons (s_expr (e_meth (.inl rfl) PySem.F.plainAttrs_list PySem.F.slot_list_append PySem.F.type_list_append mt_append append_ok (e_var 1) (a_cons e_str a_nil)))
    (ss_cons (s_par3 (i := 5) (j := 6) (k := 7) rfl sc_l_leaf.nd rfl rfl rfl (by decide) (by decide) (by decide) rfl rfl rfl (e_ca C_l_pick bd_l_pick hg (hr.mono (by decide)) tk (by rfl) (a_cons (e_var 0) (a_cons (e_var 1) a_nil))) (e_ca C_l_label bd_l_label hg (hr.mono (by decide)) tk (by rfl) (a_cons (e_var 0) a_nil)) (e_ca C_l_label bd_l_label hg (hr.mono (by decide)) tk (by rfl) (a_cons (e_var 0) a_nil)) rfl)
    (ss_cons (s_set (i := 2) sc_l_leaf.nd rfl (Or.inl rfl) (e_lst (a_cons e_non (a_cons e_bl (a_cons e_bl (a_cons (e_var 4) (a_cons (e_bin op_subM opSub_ok e_int (e_var 4)) (a_cons (e_var 5) (a_cons (e_tup (a_cons e_str (a_cons (e_var 4) a_nil))) a_nil)))))))))
    (ss_one (s_ret (e_ix (e_bin op_addM opAdd_ok (e_var 2) (e_lst (a_cons (e_tup (a_cons (e_ix (e_lst (a_cons e_str (a_cons e_str a_nil))) (e_ca C_l_dealt bd_l_dealt hg (hr.mono (by decide)) tk (by rfl) (a_cons (e_var 0) (a_cons e_int a_nil)))) (a_cons (e_var 6) (a_cons (e_var 7) a_nil)))) a_nil))) (e_var 3)))))))))⟩
theorem ok_l_drawn (T : Txt K mg) (C_l_dealt : Ca P w K mg base cls ts 1 ("_law_dealt" : Str) st_l_dealt ps_l_dealt f_l_dealt) (C_l_leaf : Ca P w K mg base cls ts 4 ("_law_leaf" : Str) st_l_leaf ps_l_leaf f_l_leaf) (C_l_pick : Ca P w K mg base cls ts 2 ("_law_pick" : Str) st_l_pick ps_l_pick f_l_pick) (C_l_alike_looks : Ca P w K mg base cls ts 1 ("_law_alike_looks" : Str) st_l_alike_looks ps_l_alike_looks f_l_alike_looks) {f : Addr} {cdv : Value} {fd : FuncData} (D : Kd K mg ("_law_drawn" : Str) st_l_drawn f cdv fd) : ∀ n : Nat, Ca P w K mg base cls ts (4 + n) ("_law_drawn" : Str) st_l_drawn ps_l_drawn (f_l_drawn n)
  | 0 => ⟨f, cdv, fd, D, FnG.zero⟩
  | n + 1 => by
    have C_l_drawn := ok_l_drawn T C_l_dealt C_l_leaf C_l_pick C_l_alike_looks D n
    exact ⟨f, cdv, fd, D, D.fn sc_l_drawn fun A outer s H E hg hr tk =>
      (ss_cons (s_set (i := 2) sc_l_drawn.nd rfl (Or.inl rfl) (e_ca C_l_dealt bd_l_dealt hg (hr.mono (Nat.le_trans (by decide : 1 ≤ 4) (Nat.le_add_right _ _))) tk (by rfl) (a_cons (e_var 0) (a_cons e_int a_nil))))
    (ss_cons (s_if (t_pw (w_or (t_cmp (op_eq2 hr.units) opEq2_ok (e_var 1) e_int (by rfl)) (w_or1 (t_cmp op_ltM opLt_ok (e_var 2) e_int (by rfl)))))
      (ss_one (s_ret (e_ca C_l_leaf bd_l_leaf hg (hr.mono (Nat.le_trans (by decide : 4 ≤ 4) (Nat.le_add_right _ _))) tk (by rfl) (a_cons (e_var 0) a_nil))))
      ss_nil)
    (ss_cons (s_if (t_cmp (op_eq2 hr.units) opEq2_ok (e_var 2) e_int (by rfl))
      (ss_one (s_ret (e_ca C_l_pick bd_l_pick hg (hr.mono (Nat.le_trans (by decide : 2 ≤ 4) (Nat.le_add_right _ _))) tk (by rfl) (a_cons (e_var 0) (a_cons (e_ca0 C_l_alike_looks bd_l_alike_looks hg (hr.mono (Nat.le_trans (by decide : 1 ≤ 4) (Nat.le_add_right _ _))) tk (by rfl)) a_nil)))))
      ss_nil)
    (ss_one (s_ret (e_tup (a_cons e_str (a_cons (e_callTy call_tuple_of tuple_ok (by rfl) T.b_tuple boot_tuple (a_cons (e_comp (own := [(("_law_turn" : Str), 3)]) rfl sc_l_drawn.nd (i_range1 (by rfl) T.b_range (e_ca C_l_dealt bd_l_dealt hg (hr.mono (Nat.le_trans (by decide : 1 ≤ 4) (Nat.le_add_right _ _))) tk (by rfl) (a_cons (e_var 0) (a_cons e_int a_nil)))) (blkOk_by (N := N_l_drawn) (sc := defScope st_l_drawn) (by decide +kernel)) (by decide) (fun _ _ _ _ _ => (g_name (i := 3) sc_l_drawn.nd rfl (Or.inl rfl))) (fun _ _ _ _ _ => ts_nil) (fun _ _ _ _ _ => (e_ca C_l_drawn bd_l_drawn hg hr L2.takes0 (by rfl) (a_cons (e_var 0) (a_cons (e_bin op_subM opSub_ok (e_var 1) e_int) a_nil))))) a_nil)) a_nil))))))))⟩
theorem ok_l_chain (T : Txt K mg) {f : Addr} {cdv : Value} {fd : FuncData} (D : Kd K mg ("_law_chain" : Str) st_l_chain f cdv fd) : Ca P w K mg base cls ts 1 ("_law_chain" : Str) st_l_chain ps_l_chain f_l_chain :=
  ⟨f, cdv, fd, D, D.fn sc_l_chain fun A outer s H E hg hr tk =>
    (ss_cons (s_for (passes_of rfl) rfl (i_range1 (by rfl) T.b_range (e_var 1)) (g_name (i := 2) sc_l_chain.nd rfl (Or.inl rfl)) (ss_one (s_set (i := 0) sc_l_chain.nd rfl (Or.inl rfl) (e_tup (a_cons e_str (a_cons (e_tup (a_cons (e_var 0) a_nil)) a_nil))))))
    (ss_one (s_ret (e_var 0))))⟩
theorem ok_l_wide (T : Txt K mg) {f : Addr} {cdv : Value} {fd : FuncData} (D : Kd K mg ("_law_wide" : Str) st_l_wide f cdv fd) : Ca P w K mg base cls ts 1 ("_law_wide" : Str) st_l_wide ps_l_wide f_l_wide :=
  ⟨f, cdv, fd, D, D.fn sc_l_wide fun A outer s H E hg hr tk =>
    (ss_one (s_ret (e_tup (a_cons e_str (a_cons (e_bin op_mulM opMul_ok (e_tup (a_cons (e_var 0) a_nil)) (e_var 1)) a_nil)))))⟩
theorem ok_l_greatest (T : Txt K mg) (C_l_leaf : Ca P w K mg base cls ts 4 ("_law_leaf" : Str) st_l_leaf ps_l_leaf f_l_leaf) (C_l_chain : Ca P w K mg base cls ts 1 ("_law_chain" : Str) st_l_chain ps_l_chain f_l_chain) (C_l_wide : Ca P w K mg base cls ts 1 ("_law_wide" : Str) st_l_wide ps_l_wide f_l_wide) {f : Addr} {cdv : Value} {fd : FuncData} (D : Kd K mg ("_law_greatest" : Str) st_l_greatest f cdv fd) : Ca P w K mg base cls ts 5 ("_law_greatest" : Str) st_l_greatest ps_l_greatest f_l_greatest :=
  ⟨f, cdv, fd, D, D.fn sc_l_greatest fun A outer s H E hg hr tk =>
    (ss_cons (s_par2 (i := 2) (j := 3) rfl sc_l_greatest.nd rfl rfl (by decide) rfl rfl (e_ca C_l_leaf bd_l_leaf hg (hr.mono (by decide)) tk (by rfl) (a_cons (e_var 0) a_nil)) (e_ca C_l_leaf bd_l_leaf hg (hr.mono (by decide)) tk (by rfl) (a_cons (e_var 0) a_nil)) rfl)
    (ss_cons (s_set (i := 1) sc_l_greatest.nd rfl (Or.inl rfl) (e_lst (a_cons (e_ca C_l_chain bd_l_chain hg (hr.mono (by decide)) tk (by rfl) (a_cons (e_var 2) (a_cons e_int a_nil))) (a_cons (e_ca C_l_wide bd_l_wide hg (hr.mono (by decide)) tk (by rfl) (a_cons (e_var 2) (a_cons e_int a_nil))) (a_cons (e_ca C_l_chain bd_l_chain hg (hr.mono (by decide)) tk (by rfl) (a_cons (e_ca C_l_wide bd_l_wide hg (hr.mono (by decide)) tk (by rfl) (a_cons (e_var 2) (a_cons e_int a_nil))) (a_cons e_int a_nil))) a_nil)))))
    (ss_one (s_ret (e_bin op_addM opAdd_ok (e_var 1) (e_lst (a_cons (e_tup (a_cons e_str (a_cons (e_bin op_addM opAdd_ok (e_bin op_mulM opMul_ok (e_tup (a_cons (e_ca C_l_wide bd_l_wide hg (hr.mono (by decide)) tk (by rfl) (a_cons (e_var 2) (a_cons e_int a_nil))) a_nil)) e_int) (e_bin op_mulM opMul_ok (e_tup (a_cons (e_var 3) a_nil)) e_int)) a_nil))) a_nil)))))))⟩
theorem ok_l_beyond (T : Txt K mg) (C_l_leaf : Ca P w K mg base cls ts 4 ("_law_leaf" : Str) st_l_leaf ps_l_leaf f_l_leaf) (C_l_chain : Ca P w K mg base cls ts 1 ("_law_chain" : Str) st_l_chain ps_l_chain f_l_chain) (C_l_wide : Ca P w K mg base cls ts 1 ("_law_wide" : Str) st_l_wide ps_l_wide f_l_wide) {f : Addr} {cdv : Value} {fd : FuncData} (D : Kd K mg ("_law_beyond" : Str) st_l_beyond f cdv fd) : Ca P w K mg base cls ts 5 ("_law_beyond" : Str) st_l_beyond ps_l_beyond f_l_beyond :=
  ⟨f, cdv, fd, D, D.fn sc_l_beyond fun A outer s H E hg hr tk =>
    (ss_cons (s_par2 (i := 2) (j := 3) rfl sc_l_beyond.nd rfl rfl (by decide) rfl rfl (e_ca C_l_leaf bd_l_leaf hg (hr.mono (by decide)) tk (by rfl) (a_cons (e_var 0) a_nil)) (e_ca C_l_leaf bd_l_leaf hg (hr.mono (by decide)) tk (by rfl) (a_cons (e_var 0) a_nil)) rfl)
    (ss_cons (s_set (i := 1) sc_l_beyond.nd rfl (Or.inl rfl) (e_lst (a_cons (e_ca C_l_chain bd_l_chain hg (hr.mono (by decide)) tk (by rfl) (a_cons (e_var 2) (a_cons e_int a_nil))) (a_cons (e_ca C_l_wide bd_l_wide hg (hr.mono (by decide)) tk (by rfl) (a_cons (e_var 2) (a_cons e_int a_nil))) (a_cons (e_ca C_l_chain bd_l_chain hg (hr.mono (by decide)) tk (by rfl) (a_cons (e_ca C_l_wide bd_l_wide hg (hr.mono (by decide)) tk (by rfl) (a_cons (e_var 2) (a_cons e_int a_nil))) (a_cons e_int a_nil))) a_nil)))))
    (ss_one (s_ret (e_bin op_addM opAdd_ok (e_var 1) (e_lst (a_cons (e_tup (a_cons e_str (a_cons (e_bin op_addM opAdd_ok (e_bin op_mulM opMul_ok (e_tup (a_cons (e_ca C_l_wide bd_l_wide hg (hr.mono (by decide)) tk (by rfl) (a_cons (e_var 2) (a_cons e_int a_nil))) a_nil)) e_int) (e_bin op_mulM opMul_ok (e_tup (a_cons (e_var 3) a_nil)) e_int)) a_nil))) (a_cons (e_tup (a_cons e_str (a_cons (e_bin op_mulM opMul_ok (e_tup (a_cons (e_ca C_l_wide bd_l_wide hg (hr.mono (by decide)) tk (by rfl) (a_cons (e_var 2) (a_cons e_int a_nil))) a_nil)) e_int) a_nil))) a_nil))))))))⟩
theorem ok_l_odd (T : Txt K mg) (C_l_pick : Ca P w K mg base cls ts 2 ("_law_pick" : Str) st_l_pick ps_l_pick f_l_pick) {f : Addr} {cdv : Value} {fd : FuncData} (D : Kd K mg ("_law_odd" : Str) st_l_odd f cdv fd) : Ca P w K mg base cls ts 3 ("_law_odd" : Str) st_l_odd ps_l_odd f_l_odd :=
  ⟨f, cdv, fd, D, D.fn sc_l_odd fun A outer s H E hg hr tk =>
    (ss_cons (s_set (i := 2) sc_l_odd.nd rfl (Or.inl rfl) (e_lst (a_cons e_non (a_cons e_bl (a_cons e_int (a_cons (e_neg e_int) (a_cons (e_bin op_addM opAdd_ok (e_bin op_pow opPow_ok e_int e_int) e_int) (a_cons (e_bin op_subM opSub_ok (e_bin op_subM opSub_ok e_int (e_bin op_pow opPow_ok e_int e_int)) e_int) (a_cons (e_bin op_pow opPow_ok e_int e_int) (a_cons e_str (a_cons e_str (a_cons e_str (a_cons (e_lst a_nil) (a_cons e_d0 a_nil))))))))))))))
    (ss_cons (s_set (i := 2) sc_l_odd.nd rfl (Or.inl rfl) (e_bin op_addM opAdd_ok (e_var 2) (e_lst (a_cons (e_tup a_nil) (a_cons (e_tup (a_cons e_str a_nil)) (a_cons (e_tup (a_cons e_str (a_cons (e_lst a_nil) a_nil))) (a_cons (e_tup (a_cons e_str (a_cons (e_tup a_nil) (a_cons (e_tup a_nil) a_nil)))) (a_cons (e_tup (a_cons e_str (a_cons (e_neg e_int) a_nil))) (a_cons (e_tup (a_cons e_str (a_cons e_bl a_nil))) (a_cons (e_tup (a_cons e_str (a_cons (e_bin op_addM opAdd_ok (e_bin op_pow opPow_ok e_int e_int) e_int) a_nil))) a_nil))))))))))
    (ss_cons (s_set (i := 2) sc_l_odd.nd rfl (Or.inl rfl) (e_bin op_addM opAdd_ok (e_var 2) (e_lst (a_cons (e_tup (a_cons e_str (a_cons e_int (a_cons e_int a_nil)))) (a_cons (e_tup (a_cons e_str (a_cons e_str a_nil))) (a_cons (e_tup (a_cons e_str (a_cons e_str (a_cons e_str a_nil)))) (a_cons (e_tup (a_cons e_str (a_cons e_str (a_cons e_str a_nil)))) (a_cons (e_tup (a_cons e_str (a_cons e_str (a_cons e_non a_nil)))) a_nil))))))))
    (ss_cons (s_set (i := 2) sc_l_odd.nd rfl (Or.inl rfl) (e_bin op_addM opAdd_ok (e_var 2) (e_lst (a_cons (e_tup (a_cons e_str (a_cons e_str (a_cons e_str a_nil)))) (a_cons (e_tup (a_cons (e_var 1) a_nil)) (a_cons (e_lst (a_cons (e_var 1) a_nil)) (a_cons (e_tup (a_cons e_str (a_cons (e_tup (a_cons (e_var 1) a_nil)) a_nil))) (a_cons (e_tup (a_cons e_str (a_cons (e_var 1) a_nil))) (a_cons (e_tup (a_cons e_str (a_cons (e_tup (a_cons (e_var 1) a_nil)) a_nil))) a_nil)))))))))
    (ss_cons (s_set (i := 2) sc_l_odd.nd rfl (Or.inl rfl) (e_bin op_addM opAdd_ok (e_var 2) (e_lst (a_cons (e_tup (a_cons e_str (a_cons (e_tup (a_cons (e_var 1) (a_cons (e_var 1) a_nil))) a_nil))) (a_cons (e_tup (a_cons e_non (a_cons (e_var 1) a_nil))) a_nil)))))
    (ss_one (s_ret (e_ca C_l_pick bd_l_pick hg (hr.mono (by decide)) tk (by rfl) (a_cons (e_var 0) (a_cons (e_var 2) a_nil))))))))))⟩
theorem ok_l_spoilt (T : Txt K mg) (C_l_dealt : Ca P w K mg base cls ts 1 ("_law_dealt" : Str) st_l_dealt ps_l_dealt f_l_dealt) (C_l_odd : Ca P w K mg base cls ts 3 ("_law_odd" : Str) st_l_odd ps_l_odd f_l_odd) {f : Addr} {cdv : Value} {fd : FuncData} (D : Kd K mg ("_law_spoilt" : Str) st_l_spoilt f cdv fd) : ∀ n : Nat, Ca P w K mg base cls ts (3 + n) ("_law_spoilt" : Str) st_l_spoilt ps_l_spoilt (f_l_spoilt n)
  | 0 => ⟨f, cdv, fd, D, FnG.zero⟩
  | n + 1 => by
    have C_l_spoilt := ok_l_spoilt T C_l_dealt C_l_odd D n
    exact ⟨f, cdv, fd, D, D.fn sc_l_spoilt fun A outer s H E hg hr tk =>
      (ss_cons (s_if (t_pw (w_or (t_not (t_val (e_callB call_isi isi_ok (by rfl) T.b_isinstance (by decide +kernel) (a_cons (e_var 1) (a_cons (e_bty (by rfl) T.b_tuple boot_tuple) a_nil))))) (w_or (t_cmp (op_eq2 hr.units) opEq2_ok (e_var 1) (e_tup a_nil) (by rfl)) (w_or1 (t_cmp (op_eq2 hr.units) opEq2_ok (e_ca C_l_dealt bd_l_dealt hg (hr.mono (Nat.le_trans (by decide : 1 ≤ 3) (Nat.le_add_right _ _))) tk (by rfl) (a_cons (e_var 0) (a_cons e_int a_nil))) e_int (by rfl))))))
      (ss_one (s_ret (e_ca C_l_odd bd_l_odd hg (hr.mono (Nat.le_trans (by decide : 3 ≤ 3) (Nat.le_add_right _ _))) tk (by rfl) (a_cons (e_var 0) (a_cons (e_var 1) a_nil)))))
      ss_nil)
    (ss_cons (s_set (i := 2) sc_l_spoilt.nd rfl (Or.inl rfl) (e_ca C_l_dealt bd_l_dealt hg (hr.mono (Nat.le_trans (by decide : 1 ≤ 3) (Nat.le_add_right _ _))) tk (by rfl) (a_cons (e_var 0) (a_cons (e_callB call_lenM len_ok (by rfl) T.b_len PySem.boot_len (a_cons (e_var 1) a_nil)) a_nil))))
    (ss_one (s_ret (e_bin op_addM opAdd_ok (e_bin op_addM opAdd_ok (e_cut (e_var 1) o_none (o_some (e_var 2))) (e_tup (a_cons (e_ca C_l_spoilt bd_l_spoilt hg hr tk (by rfl) (a_cons (e_var 0) (a_cons (e_ix (e_var 1) (e_var 2)) a_nil))) a_nil))) (e_cut (e_var 1) (o_some (e_bin op_addM opAdd_ok (e_var 2) e_int)) o_none))))))⟩
theorem ok_is_short_row (T : Txt K mg) {f : Addr} {cdv : Value} {fd : FuncData} (D : Kd K mg ("is_short_row" : Str) st_is_short_row f cdv fd) : Ca P w K mg base cls ts 1 ("is_short_row" : Str) st_is_short_row ps_is_short_row f_is_short_row :=
  ⟨f, cdv, fd, D, D.fn sc_is_short_row fun A outer s H E hg hr tk =>
    (ss_cons (s_if (t_pw (w_or (t_not (t_val (e_callB call_isi isi_ok (by rfl) T.b_isinstance (by decide +kernel) (a_cons (e_var 0) (a_cons (e_bty (by rfl) T.b_tuple boot_tuple) a_nil))))) (w_or1 (t_cmp (op_neM hr.units) opNe_ok (e_callB call_lenM len_ok (by rfl) T.b_len PySem.boot_len (a_cons (e_var 0) a_nil)) e_int (by rfl)))))
      (ss_one (s_ret e_bl))
      ss_nil)
    (ss_cons (s_asg (e_var 0) (g_tup rfl (gs_cons (g_name (i := 1) sc_is_short_row.nd rfl (Or.inl rfl)) (gs_cons (g_name (i := 2) sc_is_short_row.nd rfl (Or.inl rfl)) gs_nil))))
    (ss_one (s_ret (e_and (e_cmp (op_eq2 hr.units) opEq2_ok (e_var 1) e_str (by rfl)) (e_and (e_callB call_isi isi_ok (by rfl) T.b_isinstance (by decide +kernel) (a_cons (e_var 2) (a_cons (e_bty (by rfl) T.b_tuple boot_tuple) a_nil))) (e_one (e_cmp op_leM opLe_ok (e_callB call_lenM len_ok (by rfl) T.b_len PySem.boot_len (a_cons (e_var 2) a_nil)) (e_globE (by rfl) T.g_ROW_PARTS) (by rfl)))))))))⟩
theorem ok_is_whole (T : Txt K mg) {f : Addr} {cdv : Value} {fd : FuncData} (D : Kd K mg ("is_whole" : Str) st_is_whole f cdv fd) : Ca P w K mg base cls ts 1 ("is_whole" : Str) st_is_whole ps_is_whole f_is_whole :=
  ⟨f, cdv, fd, D, D.fn sc_is_whole fun A outer s H E hg hr tk =>
    (ss_one (s_ret (e_and (e_callB call_isi isi_ok (by rfl) T.b_isinstance (by decide +kernel) (a_cons (e_var 0) (a_cons (e_bty (by rfl) T.b_int boot_int) a_nil))) (e_one (e_not (e_callB call_isi isi_ok (by rfl) T.b_isinstance (by decide +kernel) (a_cons (e_var 0) (a_cons (e_bty (by rfl) T.b_bool boot_bool) a_nil))))))))⟩
theorem ok_is_short_text (T : Txt K mg) {c Pt : Addr} (TB : GxR.TabB base mg c Pt) (hP : Pt ∈ ts) {f : Addr} {fd : FuncData} (D : Kd K mg ("is_short_text" : Str) st_is_short_text f (.ref c) fd) : Ca P w K mg base cls ts 1 ("is_short_text" : Str) st_is_short_text ps_is_short_text f_is_short_text :=
  ⟨f, (.ref c), fd, D, D.fn sc_is_short_text fun A outer s H E hg hr tk =>
    (ss_cons (s_if (t_pw (w_or (t_not (t_val (e_callB call_isi isi_ok (by rfl) T.b_isinstance (by decide +kernel) (a_cons (e_var 0) (a_cons (e_bty (by rfl) T.b_str boot_str) a_nil))))) (w_or1 (t_cmp op_gtM opGt_ok (e_callB call_lenM len_ok (by rfl) T.b_len PySem.boot_len (a_cons (e_var 0) a_nil)) (e_globE (by rfl) T.g_TEXT_SIGNS) (by rfl)))))
      (ss_one (s_ret e_bl))
      ss_nil)
    (ss_one (s_ret (e_allQ hr (by rfl) T.b_all TB rfl hP (genS_by2 (by decide +kernel)) (e_var 0) (elt_of (q_and (q_between rfl rfl) (q_one (q_notin2 (q_ord rfl rfl T.b_ord (q_sign rfl rfl)) (q_glob rfl rfl T.g_PERCENT) (q_glob rfl rfl T.g_QUOTE))))) (by intro _; rfl)))))⟩
theorem ok_is_plain_single (T : Txt K mg) (C_is_whole : Ca P w K mg base cls ts 1 ("is_whole" : Str) st_is_whole ps_is_whole f_is_whole) (C_is_short_text : Ca P w K mg base cls ts 1 ("is_short_text" : Str) st_is_short_text ps_is_short_text f_is_short_text) {f : Addr} {cdv : Value} {fd : FuncData} (D : Kd K mg ("is_plain_single" : Str) st_is_plain_single f cdv fd) : Ca P w K mg base cls ts 2 ("is_plain_single" : Str) st_is_plain_single ps_is_plain_single f_is_plain_single :=
  ⟨f, cdv, fd, D, D.fn sc_is_plain_single fun A outer s H E hg hr tk =>
    (ss_cons (s_if (t_pw (w_or (t_cmp op_isM opIs_ok (e_var 0) e_non (by rfl)) (w_or1 (t_val (e_callB call_isi isi_ok (by rfl) T.b_isinstance (by decide +kernel) (a_cons (e_var 0) (a_cons (e_bty (by rfl) T.b_bool boot_bool) a_nil)))))))
      (ss_one (s_ret e_bl))
      ss_nil)
    (ss_cons (s_if (t_val (e_ca C_is_whole bd_is_whole hg (hr.mono (by decide)) tk (by rfl) (a_cons (e_var 0) a_nil)))
      (ss_one (s_ret (e_chain op_leM opLe_ok op_leM opLe_ok (e_neg (e_globE (by rfl) T.g_GREATEST)) (e_var 0) (e_globE (by rfl) T.g_GREATEST))))
      ss_nil)
    (ss_one (s_ret (e_ca C_is_short_text bd_is_short_text hg (hr.mono (by decide)) tk (by rfl) (a_cons (e_var 0) a_nil))))))⟩
theorem ok_is_thing (T : Txt K mg) (C_is_whole : Ca P w K mg base cls ts 1 ("is_whole" : Str) st_is_whole ps_is_whole f_is_whole) {f : Addr} {cdv : Value} {fd : FuncData} (D : Kd K mg ("is_thing" : Str) st_is_thing f cdv fd) : Ca P w K mg base cls ts 2 ("is_thing" : Str) st_is_thing ps_is_thing f_is_thing :=
  ⟨f, cdv, fd, D, D.fn sc_is_thing fun A outer s H E hg hr tk =>
    (ss_cons (s_if (t_pw (w_or (t_not (t_val (e_callB call_isi isi_ok (by rfl) T.b_isinstance (by decide +kernel) (a_cons (e_var 0) (a_cons (e_bty (by rfl) T.b_tuple boot_tuple) a_nil))))) (w_or1 (t_cmp (op_neM hr.units) opNe_ok (e_callB call_lenM len_ok (by rfl) T.b_len PySem.boot_len (a_cons (e_var 0) a_nil)) e_int (by rfl)))))
      (ss_one (s_ret e_bl))
      ss_nil)
    (ss_cons (s_asg (e_var 0) (g_tup rfl (gs_cons (g_name (i := 1) sc_is_thing.nd rfl (Or.inl rfl)) (gs_cons (g_name (i := 2) sc_is_thing.nd rfl (Or.inl rfl)) gs_nil))))
    (ss_one (s_ret (e_and (e_cmp (op_eq2 hr.units) opEq2_ok (e_var 1) e_str (by rfl)) (e_and (e_ca C_is_whole bd_is_whole hg (hr.mono (by decide)) tk (by rfl) (a_cons (e_var 2) a_nil)) (e_one (e_chain op_leM opLe_ok op_leM opLe_ok e_int (e_var 2) (e_globE (by rfl) T.g_GREATEST)))))))))⟩
theorem ok_is_name (T : Txt K mg) {c Pt : Addr} (TB : GxR.TabB base mg c Pt) (hP : Pt ∈ ts) {f : Addr} {fd : FuncData} (D : Kd K mg ("is_name" : Str) st_is_name f (.ref c) fd) : Ca P w K mg base cls ts 1 ("is_name" : Str) st_is_name ps_is_name f_is_name :=
  ⟨f, (.ref c), fd, D, D.fn sc_is_name fun A outer s H E hg hr tk =>
    (ss_cons (s_if (t_pw (w_or (t_not (t_val (e_callB call_isi isi_ok (by rfl) T.b_isinstance (by decide +kernel) (a_cons (e_var 0) (a_cons (e_bty (by rfl) T.b_str boot_str) a_nil))))) (w_or1 (t_not (t_chain op_leM opLe_ok op_leM opLe_ok e_int (e_callB call_lenM len_ok (by rfl) T.b_len PySem.boot_len (a_cons (e_var 0) a_nil)) (e_globE (by rfl) T.g_NAME_SIGNS))))))
      (ss_one (s_ret e_bl))
      ss_nil)
    (ss_one (s_ret (e_allS hr (by rfl) T.b_all TB rfl hP (genS_by (by decide +kernel)) (e_var 0) (elt_between rfl rfl) (by intro _; rfl)))))⟩
theorem ok_is_deed_or_kind (T : Txt K mg) (C_is_name : Ca P w K mg base cls ts 1 ("is_name" : Str) st_is_name ps_is_name f_is_name) {f : Addr} {cdv : Value} {fd : FuncData} (D : Kd K mg ("is_deed_or_kind" : Str) st_is_deed_or_kind f cdv fd) : Ca P w K mg base cls ts 2 ("is_deed_or_kind" : Str) st_is_deed_or_kind ps_is_deed_or_kind f_is_deed_or_kind :=
  ⟨f, cdv, fd, D, D.fn sc_is_deed_or_kind fun A outer s H E hg hr tk =>
    (ss_cons (s_if (t_pw (w_or (t_not (t_val (e_callB call_isi isi_ok (by rfl) T.b_isinstance (by decide +kernel) (a_cons (e_var 0) (a_cons (e_bty (by rfl) T.b_tuple boot_tuple) a_nil))))) (w_or1 (t_cmp (op_neM hr.units) opNe_ok (e_callB call_lenM len_ok (by rfl) T.b_len PySem.boot_len (a_cons (e_var 0) a_nil)) e_int (by rfl)))))
      (ss_one (s_ret e_bl))
      ss_nil)
    (ss_cons (s_asg (e_var 0) (g_tup rfl (gs_cons (g_name (i := 1) sc_is_deed_or_kind.nd rfl (Or.inl rfl)) (gs_cons (g_name (i := 2) sc_is_deed_or_kind.nd rfl (Or.inl rfl)) (gs_cons (g_name (i := 3) sc_is_deed_or_kind.nd rfl (Or.inl rfl)) gs_nil)))))
    (ss_one (s_ret (e_and (e_cmp (op_in2 (hu65 hr)) opIn2_ok (e_var 1) (e_tup (a_cons e_str (a_cons e_str a_nil))) (by rfl)) (e_and (e_ca C_is_name bd_is_name hg (hr.mono (by decide)) tk (by rfl) (a_cons (e_var 2) a_nil)) (e_one (e_ca C_is_name bd_is_name hg (hr.mono (by decide)) tk (by rfl) (a_cons (e_var 3) a_nil)))))))))⟩
theorem ok_is_single (T : Txt K mg) (C_is_plain_single : Ca P w K mg base cls ts 2 ("is_plain_single" : Str) st_is_plain_single ps_is_plain_single f_is_plain_single) (C_is_thing : Ca P w K mg base cls ts 2 ("is_thing" : Str) st_is_thing ps_is_thing f_is_thing) (C_is_deed_or_kind : Ca P w K mg base cls ts 2 ("is_deed_or_kind" : Str) st_is_deed_or_kind ps_is_deed_or_kind f_is_deed_or_kind) {f : Addr} {cdv : Value} {fd : FuncData} (D : Kd K mg ("is_single" : Str) st_is_single f cdv fd) : Ca P w K mg base cls ts 3 ("is_single" : Str) st_is_single ps_is_single f_is_single :=
  ⟨f, cdv, fd, D, D.fn sc_is_single fun A outer s H E hg hr tk =>
    (ss_one (s_ret (e_or (e_ca C_is_plain_single bd_is_plain_single hg (hr.mono (by decide)) tk (by rfl) (a_cons (e_var 0) a_nil)) (e_or (e_ca C_is_thing bd_is_thing hg (hr.mono (by decide)) tk (by rfl) (a_cons (e_var 0) a_nil)) (e_one (e_ca C_is_deed_or_kind bd_is_deed_or_kind hg (hr.mono (by decide)) tk (by rfl) (a_cons (e_var 0) a_nil)))))))⟩
theorem ok_is_built_of (T : Txt K mg) {V : FV} (hV : HV V mg) (C_is_short_row : Ca P w K mg base cls ts 1 ("is_short_row" : Str) st_is_short_row ps_is_short_row f_is_short_row) (C_is_single : Ca P w K mg base cls ts 3 ("is_single" : Str) st_is_single ps_is_single f_is_single) (C_is_plain_single : Ca P w K mg base cls ts 2 ("is_plain_single" : Str) st_is_plain_single ps_is_plain_single f_is_plain_single) {f : Addr} {cdv : Value} {fd : FuncData} (D : Kd K mg ("is_built_of" : Str) st_is_built_of f cdv fd) : Ca P w K mg base cls ts 4 ("is_built_of" : Str) st_is_built_of ps_is_built_of (f_is_built_of V) :=
  ⟨f, cdv, fd, D, D.fn sc_is_built_of fun A outer s H E hg hr tk =>
    (ss_cons (s_set (i := 2) sc_is_built_of.nd rfl (Or.inl rfl) (e_lst (a_cons (e_tup (a_cons (e_var 0) (a_cons e_int a_nil))) a_nil)))
    (ss_cons (s_set (i := 3) sc_is_built_of.nd rfl (Or.inl rfl) e_int)
    (ss_cons (s_while (passes_of rfl) (t_pw (w_and (t_tru (e_var 2)) (w_and1 (t_cmp op_leM opLe_ok (e_var 3) (e_globE (by rfl) T.g_WORTHS_IN_ALL) (by rfl))))) (ss_cons (s_asg (e_meth0 (.inl rfl) PySem.F.plainAttrs_list PySem.F.slot_list_pop PySem.F.type_list_pop mt_pop pop_ok (e_var 2)) (g_tup rfl (gs_cons (g_name (i := 4) sc_is_built_of.nd rfl (Or.inl rfl)) (gs_cons (g_name (i := 5) sc_is_built_of.nd rfl (Or.inr rfl)) gs_nil))))
    (ss_cons (s_aug (i := 3) sc_is_built_of.nd rfl (Or.inl rfl) iop_addM opIAdd_ok e_int)
    (ss_one (s_if (t_pw (w_and (t_val (e_ca C_is_short_row bd_is_short_row hg (hr.mono (by decide)) tk (by rfl) (a_cons (e_var 4) a_nil))) (w_and1 (t_cmp op_leM opLe_ok (e_var 5) (e_globE (by rfl) T.g_ROWS_DEEP) (by rfl)))))
      (ss_one (s_expr (e_meth (.inl rfl) PySem.F.plainAttrs_list PySem.F.slot_list_extend PySem.F.type_list_extend mt_extend extend_ok (e_var 2) (a_cons (e_comp (own := [(("inner" : Str), 6)]) rfl sc_is_built_of.nd (i_any (e_ix (e_var 4) e_int)) (blkOk_by (N := N_is_built_of) (sc := defScope st_is_built_of) (by decide +kernel)) (by decide) (fun _ _ _ _ _ => (g_name (i := 6) sc_is_built_of.nd rfl (Or.inl rfl))) (fun _ _ _ _ _ => ts_nil) (fun _ _ _ _ _ => (e_tup (a_cons (e_var 6) (a_cons (e_bin op_addM opAdd_ok (e_var 5) e_int) a_nil))))) a_nil))))
      (ss_one (s_if (t_not (t_val (e_callV (k := 3) (fun f c q => held_of C_is_single bd_is_single hV.m_is_single C_is_plain_single bd_is_plain_single hV.m_is_plain_single (by decide) (by decide) f c q) hg (hr.mono (by decide)) tk rfl (a_cons (e_var 4) a_nil))))
      (ss_one (s_ret e_bl))
      ss_nil)))))))
    (ss_one (s_ret (e_cmp op_leM opLe_ok (e_var 3) (e_globE (by rfl) T.g_WORTHS_IN_ALL) (by rfl)))))))⟩
theorem ok_is_worth (T : Txt K mg) {V : FV} (hV : HV V mg) (C_is_built_of : Ca P w K mg base cls ts 4 ("is_built_of" : Str) st_is_built_of ps_is_built_of (f_is_built_of V)) {f : Addr} {cdv : Value} {fd : FuncData} (D : Kd K mg ("is_worth" : Str) st_is_worth f cdv fd) : Ca P w K mg base cls ts 5 ("is_worth" : Str) st_is_worth ps_is_worth (f_is_worth V) :=
  ⟨f, cdv, fd, D, D.fn sc_is_worth fun A outer s H E hg hr tk =>
    (ss_one (s_ret (e_ca C_is_built_of bd_is_built_of hg (hr.mono (by decide)) tk (by rfl) (a_cons (e_var 0) (a_cons (e_fun (by rfl) hV.m_is_single) a_nil)))))⟩
theorem ok_is_plain (T : Txt K mg) {V : FV} (hV : HV V mg) (C_is_built_of : Ca P w K mg base cls ts 4 ("is_built_of" : Str) st_is_built_of ps_is_built_of (f_is_built_of V)) {f : Addr} {cdv : Value} {fd : FuncData} (D : Kd K mg ("is_plain" : Str) st_is_plain f cdv fd) : Ca P w K mg base cls ts 5 ("is_plain" : Str) st_is_plain ps_is_plain (f_is_plain V) :=
  ⟨f, cdv, fd, D, D.fn sc_is_plain fun A outer s H E hg hr tk =>
    (ss_one (s_ret (e_ca C_is_built_of bd_is_built_of hg (hr.mono (by decide)) tk (by rfl) (a_cons (e_var 0) (a_cons (e_fun (by rfl) hV.m_is_plain_single) a_nil)))))⟩
theorem ok_l_is_label (T : Txt K mg) {f : Addr} {cdv : Value} {fd : FuncData} (D : Kd K mg ("_law_is_label" : Str) st_l_is_label f cdv fd) : Ca P w K mg base cls ts 1 ("_law_is_label" : Str) st_l_is_label ps_l_is_label f_l_is_label :=
  ⟨f, cdv, fd, D, D.fn sc_l_is_label fun A outer s H E hg hr tk =>
    (ss_cons (s_if (t_pw (w_or (t_not (t_val (e_callB call_isi isi_ok (by rfl) T.b_isinstance (by decide +kernel) (a_cons (e_var 0) (a_cons (e_bty (by rfl) T.b_str boot_str) a_nil))))) (w_or1 (t_cmp (op_notIn2 (hu65 hr)) opNotIn2_ok (e_callB call_lenM len_ok (by rfl) T.b_len PySem.boot_len (a_cons (e_var 0) a_nil)) (e_tup (a_cons e_int (a_cons e_int (a_cons e_int (a_cons e_int (a_cons e_int (a_cons e_int (a_cons e_int (a_cons e_int a_nil))))))))) (by rfl)))))
      (ss_one (s_ret e_bl))
      ss_nil)
    (ss_one (s_ret (e_cmp (op_eq2 hr.units) opEq2_ok (e_comp (own := [(("_law_sign" : Str), 1)]) rfl sc_l_is_label.nd (i_any (e_var 0)) (blkOk_by (N := N_l_is_label) (sc := defScope st_l_is_label) (by decide +kernel)) (by decide) (fun _ _ _ _ _ => (g_name (i := 1) sc_l_is_label.nd rfl (Or.inl rfl))) (fun _ _ _ _ _ => (ts_one (t_cmp op_ltM opLt_ok (e_meth (.inr (.inl rfl)) PySem.F.plainAttrs_str PySem.F.slot_str_find PySem.F.type_str_find mt_find find_ok e_str (a_cons (e_var 1) a_nil)) e_int (by rfl)))) (fun _ _ _ _ _ => (e_var 1))) (e_lst a_nil) (by rfl)))))⟩
theorem ok_l_leaf_looked (T : Txt K mg) (C_l_is_label : Ca P w K mg base cls ts 1 ("_law_is_label" : Str) st_l_is_label ps_l_is_label f_l_is_label) {f : Addr} {cdv : Value} {fd : FuncData} (D : Kd K mg ("_law_leaf_looked" : Str) st_l_leaf_looked f cdv fd) : Ca P w K mg base cls ts 2 ("_law_leaf_looked" : Str) st_l_leaf_looked ps_l_leaf_looked f_l_leaf_looked :=
  ⟨f, cdv, fd, D, D.fn sc_l_leaf_looked fun A outer s H E hg hr tk =>
    (ss_cons (s_if (t_pw (w_or (t_cmp op_isM opIs_ok (e_var 0) e_non (by rfl)) (w_or1 (t_val (e_callB call_isi isi_ok (by rfl) T.b_isinstance (by decide +kernel) (a_cons (e_var 0) (a_cons (e_bty (by rfl) T.b_bool boot_bool) a_nil)))))))
      (ss_one (s_ret (e_tup (a_cons e_bl (a_cons e_bl a_nil)))))
      ss_nil)
    (ss_cons (s_if (t_val (e_callB call_isi isi_ok (by rfl) T.b_isinstance (by decide +kernel) (a_cons (e_var 0) (a_cons (e_bty (by rfl) T.b_int boot_int) a_nil))))
      (ss_one (s_ret (e_tup (a_cons (e_cmp op_leM opLe_ok (e_callB call_abs abs_ok (by rfl) T.b_abs (by decide +kernel) (a_cons (e_var 0) a_nil)) (e_bin op_pow opPow_ok e_int e_int) (by rfl)) (a_cons e_bl a_nil)))))
      ss_nil)
    (ss_cons (s_if (t_val (e_callB call_isi isi_ok (by rfl) T.b_isinstance (by decide +kernel) (a_cons (e_var 0) (a_cons (e_bty (by rfl) T.b_str boot_str) a_nil))))
      (ss_one (s_ret (e_tup (a_cons (e_and (e_cmp op_ltM opLt_ok (e_callB call_lenM len_ok (by rfl) T.b_len PySem.boot_len (a_cons (e_var 0) a_nil)) e_int (by rfl)) (e_one (e_cmp (op_eq2 hr.units) opEq2_ok (e_comp (own := [(("_law_sign" : Str), 3)]) rfl sc_l_leaf_looked.nd (i_any (e_var 0)) (blkOk_by (N := N_l_leaf_looked) (sc := defScope st_l_leaf_looked) (by decide +kernel)) (by decide) (fun _ _ _ _ _ => (g_name (i := 3) sc_l_leaf_looked.nd rfl (Or.inl rfl))) (fun _ _ _ _ _ => (ts_one (t_pw (w_or (t_not (t_chain op_ltM opLt_ok op_ltM opLt_ok e_int (e_callB call_ord ord_ok1 (by rfl) T.b_ord boot_ord (a_cons (e_var 3) a_nil)) e_int)) (w_or1 (t_cmp (op_in2 (hu65 hr)) opIn2_ok (e_callB call_ord ord_ok1 (by rfl) T.b_ord boot_ord (a_cons (e_var 3) a_nil)) (e_tup (a_cons e_int (a_cons e_int a_nil))) (by rfl))))))) (fun _ _ _ _ _ => (e_var 3))) (e_lst a_nil) (by rfl)))) (a_cons e_bl a_nil)))))
      ss_nil)
    (ss_cons (s_if (t_pw (w_or (t_not (t_val (e_callB call_isi isi_ok (by rfl) T.b_isinstance (by decide +kernel) (a_cons (e_var 0) (a_cons (e_bty (by rfl) T.b_tuple boot_tuple) a_nil))))) (w_or (t_cmp (op_eq2 hr.units) opEq2_ok (e_var 0) (e_tup a_nil) (by rfl)) (w_or1 (t_not (t_val (e_callB call_isi isi_ok (by rfl) T.b_isinstance (by decide +kernel) (a_cons (e_ix (e_var 0) e_int) (a_cons (e_bty (by rfl) T.b_str boot_str) a_nil)))))))))
      (ss_one (s_ret (e_tup (a_cons e_bl (a_cons e_bl a_nil)))))
      ss_nil)
    (ss_cons (s_if (t_pw (w_and (t_cmp (op_eq2 hr.units) opEq2_ok (e_ix (e_var 0) e_int) e_str (by rfl)) (w_and1 (t_cmp (op_eq2 hr.units) opEq2_ok (e_callB call_lenM len_ok (by rfl) T.b_len PySem.boot_len (a_cons (e_var 0) a_nil)) e_int (by rfl)))))
      (ss_cons (s_set (i := 1) sc_l_leaf_looked.nd rfl (Or.inl rfl) (e_and (e_callB call_isi isi_ok (by rfl) T.b_isinstance (by decide +kernel) (a_cons (e_ix (e_var 0) e_int) (a_cons (e_bty (by rfl) T.b_int boot_int) a_nil))) (e_and (e_not (e_callB call_isi isi_ok (by rfl) T.b_isinstance (by decide +kernel) (a_cons (e_ix (e_var 0) e_int) (a_cons (e_bty (by rfl) T.b_bool boot_bool) a_nil)))) (e_one (e_chain op_leM opLe_ok op_leM opLe_ok e_int (e_ix (e_var 0) e_int) (e_bin op_pow opPow_ok e_int e_int))))))
    (ss_one (s_ret (e_tup (a_cons (e_var 1) (a_cons e_bl a_nil))))))
      ss_nil)
    (ss_cons (s_set (i := 1) sc_l_leaf_looked.nd rfl (Or.inl rfl) (e_and (e_cmp (op_in2 (hu65 hr)) opIn2_ok (e_ix (e_var 0) e_int) (e_tup (a_cons e_str (a_cons e_str a_nil))) (by rfl)) (e_one (e_cmp (op_eq2 hr.units) opEq2_ok (e_callB call_lenM len_ok (by rfl) T.b_len PySem.boot_len (a_cons (e_var 0) a_nil)) e_int (by rfl)))))
    (ss_one (s_ret (e_tup (a_cons (e_and (e_var 1) (e_one (e_cmp (op_eq2 hr.units) opEq2_ok (e_comp (own := [(("_law_part" : Str), 2)]) rfl sc_l_leaf_looked.nd (i_any (e_cut (e_var 0) (o_some e_int) o_none)) (blkOk_by (N := N_l_leaf_looked) (sc := defScope st_l_leaf_looked) (by decide +kernel)) (by decide) (fun _ _ _ _ _ => (g_name (i := 2) sc_l_leaf_looked.nd rfl (Or.inl rfl))) (fun _ _ _ _ _ => (ts_one (t_not (t_val (e_ca C_l_is_label bd_l_is_label hg (hr.mono (by decide)) L2.takes0 (by rfl) (a_cons (e_var 2) a_nil)))))) (fun _ _ _ _ _ => (e_var 2))) (e_lst a_nil) (by rfl)))) (a_cons e_bl a_nil)))))))))))⟩
theorem ok_l_looked (T : Txt K mg) (C_l_leaf_looked : Ca P w K mg base cls ts 2 ("_law_leaf_looked" : Str) st_l_leaf_looked ps_l_leaf_looked f_l_leaf_looked) {f : Addr} {cdv : Value} {fd : FuncData} (D : Kd K mg ("_law_looked" : Str) st_l_looked f cdv fd) : ∀ n : Nat, Ca P w K mg base cls ts (2 + n) ("_law_looked" : Str) st_l_looked ps_l_looked (f_l_looked n)
  | 0 => ⟨f, cdv, fd, D, FnG.zero⟩
  | n + 1 => by
    have C_l_looked := ok_l_looked T C_l_leaf_looked D n
    exact ⟨f, cdv, fd, D, D.fn sc_l_looked fun A outer s H E hg hr tk =>
      (ss_cons (s_if (t_pw (w_or (t_not (t_val (e_callB call_isi isi_ok (by rfl) T.b_isinstance (by decide +kernel) (a_cons (e_var 0) (a_cons (e_bty (by rfl) T.b_tuple boot_tuple) a_nil))))) (w_or (t_cmp (op_neM hr.units) opNe_ok (e_callB call_lenM len_ok (by rfl) T.b_len PySem.boot_len (a_cons (e_var 0) a_nil)) e_int (by rfl)) (w_or (t_cmp (op_neM hr.units) opNe_ok (e_callB (call_reprX hg hr.units) repr_ok2 (by rfl) T.b_repr (by decide +kernel) (a_cons (e_ix (e_var 0) e_int) a_nil)) (e_callB (call_reprX hg hr.units) repr_ok2 (by rfl) T.b_repr (by decide +kernel) (a_cons e_str a_nil)) (by rfl)) (w_or1 (t_not (t_val (e_callB call_isi isi_ok (by rfl) T.b_isinstance (by decide +kernel) (a_cons (e_ix (e_var 0) e_int) (a_cons (e_bty (by rfl) T.b_tuple boot_tuple) a_nil))))))))))
      (ss_cons (s_asg (e_ca C_l_leaf_looked bd_l_leaf_looked hg (hr.mono (Nat.le_trans (by decide : 2 ≤ 2) (Nat.le_add_right _ _))) tk (by rfl) (a_cons (e_var 0) a_nil)) (g_tup rfl (gs_cons (g_name (i := 3) sc_l_looked.nd rfl (Or.inl rfl)) (gs_cons (g_name (i := 4) sc_l_looked.nd rfl (Or.inl rfl)) gs_nil))))
    (ss_one (s_ret (e_ifExp (t_tru (e_var 3)) (e_tup (a_cons e_int (a_cons e_int (a_cons (e_var 4) a_nil)))) e_non))))
      ss_nil)
    (ss_cons (s_setLc (i := 1) (own := [(("_law_part" : Str), 5)]) rfl sc_l_looked.nd rfl rfl rfl (i_any (e_ix (e_var 0) e_int)) (blkOk_by (N := N_l_looked) (sc := defScope st_l_looked) (by decide +kernel)) (by decide) (fun _ _ _ _ _ => (g_name (i := 5) sc_l_looked.nd rfl (Or.inl rfl))) (fun _ _ _ _ _ => ts_nil) (fun _ _ _ _ _ => (e_ca C_l_looked bd_l_looked hg hr L2.takes0 (by rfl) (a_cons (e_var 5) a_nil))))
    (ss_cons (s_if (t_pw (w_or (t_cmp op_gtM opGt_ok (e_callB call_lenM len_ok (by rfl) T.b_len PySem.boot_len (a_cons (e_var 1) a_nil)) e_int (by rfl)) (w_or1 (t_cmp (op_in2 (hu65 hr)) opIn2_ok e_non (e_var 1) (by rfl)))))
      (ss_one (s_ret e_non))
      ss_nil)
    (ss_cons (s_set (i := 2) sc_l_looked.nd rfl (Or.inl rfl) (e_bin op_addM opAdd_ok e_int (e_callB (cr_sum rfl) sum_ok (by rfl) T.b_sum (by decide +kernel) (a_cons (e_comp (own := [(("_law_row" : Str), 6)]) rfl sc_l_looked.nd (i_any (e_var 1)) (blkOk_by (N := N_l_looked) (sc := defScope st_l_looked) (by decide +kernel)) (by decide) (fun _ _ _ _ _ => (g_name (i := 6) sc_l_looked.nd rfl (Or.inl rfl))) (fun _ _ _ _ _ => ts_nil) (fun _ _ _ _ _ => (e_ix (e_var 6) e_int))) a_nil))))
    (ss_one (s_ret (e_tup (a_cons (e_var 2) (a_cons (e_bin op_addM opAdd_ok e_int (e_maxD rfl (by rfl) T.b_max (e_comp (own := [(("_law_row" : Str), 6)]) rfl sc_l_looked.nd (i_any (e_var 1)) (blkOk_by (N := N_l_looked) (sc := defScope st_l_looked) (by decide +kernel)) (by decide) (fun _ _ _ _ _ => (g_name (i := 6) sc_l_looked.nd rfl (Or.inl rfl))) (fun _ _ _ _ _ => ts_nil) (fun _ _ _ _ _ => (e_ix (e_var 6) e_int))) e_int)) (a_cons (e_cmp (op_eq2 hr.units) opEq2_ok (e_comp (own := [(("_law_row" : Str), 6)]) rfl sc_l_looked.nd (i_any (e_var 1)) (blkOk_by (N := N_l_looked) (sc := defScope st_l_looked) (by decide +kernel)) (by decide) (fun _ _ _ _ _ => (g_name (i := 6) sc_l_looked.nd rfl (Or.inl rfl))) (fun _ _ _ _ _ => (ts_one (t_not (t_tru (e_ix (e_var 6) e_int))))) (fun _ _ _ _ _ => (e_var 6))) (e_lst a_nil) (by rfl)) a_nil))))))))))⟩
theorem ok_l_deemed (T : Txt K mg) (C_l_looked : Ca P w K mg base cls ts 32 ("_law_looked" : Str) st_l_looked ps_l_looked (f_l_looked 30)) {f : Addr} {cdv : Value} {fd : FuncData} (D : Kd K mg ("_law_deemed" : Str) st_l_deemed f cdv fd) : Ca P w K mg base cls ts 33 ("_law_deemed" : Str) st_l_deemed ps_l_deemed f_l_deemed :=
  ⟨f, cdv, fd, D, D.fn sc_l_deemed fun A outer s H E hg hr tk =>
    (ss_cons (s_set (i := 1) sc_l_deemed.nd rfl (Or.inl rfl) (e_ca C_l_looked bd_l_looked hg (hr.mono (by decide)) tk (by rfl) (a_cons (e_var 0) a_nil)))
    (ss_cons (s_if (t_pw (w_or (t_cmp op_isM opIs_ok (e_var 1) e_non (by rfl)) (w_or (t_cmp op_gtM opGt_ok (e_ix (e_var 1) e_int) e_int (by rfl)) (w_or1 (t_cmp op_gtM opGt_ok (e_ix (e_var 1) e_int) e_int (by rfl))))))
      (ss_one (s_ret (e_lst (a_cons e_bl (a_cons e_bl a_nil)))))
      ss_nil)
    (ss_one (s_ret (e_lst (a_cons e_bl (a_cons (e_ix (e_var 1) e_int) a_nil)))))))⟩
theorem ok_l_right (T : Txt K mg) {V : FV} (hV : HV V mg) (C_is_plain : Ca P w K mg base cls ts 5 ("is_plain" : Str) st_is_plain ps_is_plain (f_is_plain V)) (C_is_worth : Ca P w K mg base cls ts 5 ("is_worth" : Str) st_is_worth ps_is_worth (f_is_worth V)) (C_l_deemed : Ca P w K mg base cls ts 33 ("_law_deemed" : Str) st_l_deemed ps_l_deemed f_l_deemed) {f : Addr} {cdv : Value} {fd : FuncData} (D : Kd K mg ("_law_right" : Str) st_l_right f cdv fd) : Ca P w K mg base cls ts 34 ("_law_right" : Str) st_l_right ps_l_right (f_l_right V) :=
  ⟨f, cdv, fd, D, D.fn sc_l_right fun A outer s H E hg hr tk =>
    (ss_cons (s_set (i := 1) sc_l_right.nd rfl (Or.inl rfl) (e_callB (call_reprX hg hr.units) repr_ok2 (by rfl) T.b_repr (by decide +kernel) (a_cons (e_var 0) a_nil)))
    (ss_cons (s_set (i := 2) sc_l_right.nd rfl (Or.inl rfl) (e_lst (a_cons (e_ca C_is_worth bd_is_worth hg (hr.mono (by decide)) tk (by rfl) (a_cons (e_var 0) a_nil)) (a_cons (e_ca C_is_plain bd_is_plain hg (hr.mono (by decide)) tk (by rfl) (a_cons (e_var 0) a_nil)) (a_cons (e_caK (gv := pm0) (gV := pm0) (gD := pm0) C_is_worth bk_is_worth_0 hg (hr.mono (by decide)) tk (by rfl) pmV0 (fun _ _ => pmD0) (k_cons (e_var 0) k_nil) (aLenS aLen0)) (a_cons (e_caK (gv := pm0) (gV := pm0) (gD := pm0) C_is_plain bk_is_plain_0 hg (hr.mono (by decide)) tk (by rfl) pmV0 (fun _ _ => pmD0) (k_cons (e_var 0) k_nil) (aLenS aLen0)) a_nil))))))
    (ss_one (s_ret (e_and (e_cmp (op_eq2 hr.units) opEq2_ok (e_callB (call_reprX hg hr.units) repr_ok2 (by rfl) T.b_repr (by decide +kernel) (a_cons (e_var 2) a_nil)) (e_callB (call_reprX hg hr.units) repr_ok2 (by rfl) T.b_repr (by decide +kernel) (a_cons (e_bin op_mulM opMul_ok (e_ca C_l_deemed bd_l_deemed hg (hr.mono (by decide)) tk (by rfl) (a_cons (e_var 0) a_nil)) e_int) a_nil)) (by rfl)) (e_one (e_cmp (op_eq2 hr.units) opEq2_ok (e_callB (call_reprX hg hr.units) repr_ok2 (by rfl) T.b_repr (by decide +kernel) (a_cons (e_var 0) a_nil)) (e_var 1) (by rfl))))))))⟩
theorem fn_law (T : Txt K mg) {V : FV} (hV : HV V mg) (C_l_begun : Ca P w K mg base cls ts 1 ("_law_begun" : Str) st_l_begun ps_l_begun f_l_begun) (C_l_dealt : Ca P w K mg base cls ts 1 ("_law_dealt" : Str) st_l_dealt ps_l_dealt f_l_dealt) (C_l_drawn : Ca P w K mg base cls ts 34 ("_law_drawn" : Str) st_l_drawn ps_l_drawn (f_l_drawn 30)) (C_l_greatest : Ca P w K mg base cls ts 5 ("_law_greatest" : Str) st_l_greatest ps_l_greatest f_l_greatest) (C_l_beyond : Ca P w K mg base cls ts 5 ("_law_beyond" : Str) st_l_beyond ps_l_beyond f_l_beyond) (C_l_spoilt : Ca P w K mg base cls ts 33 ("_law_spoilt" : Str) st_l_spoilt ps_l_spoilt (f_l_spoilt 30)) (C_l_pick : Ca P w K mg base cls ts 2 ("_law_pick" : Str) st_l_pick ps_l_pick f_l_pick) (C_l_alike_looks : Ca P w K mg base cls ts 1 ("_law_alike_looks" : Str) st_l_alike_looks ps_l_alike_looks f_l_alike_looks) (C_l_chain : Ca P w K mg base cls ts 1 ("_law_chain" : Str) st_l_chain ps_l_chain f_l_chain) (C_l_right : Ca P w K mg base cls ts 34 ("_law_right" : Str) st_l_right ps_l_right (f_l_right V)) {f : Addr} {cdv : Value} {fd : FuncData} (D : Kd K mg ("law" : Str) st_law f cdv fd) : FnG P w K mg base cls ts 35 f fd ps_law (f_law V) :=
  D.fn sc_law fun A outer s H E hg hr tk =>
    (ss_cons (s_set (i := 1) sc_law.nd rfl (Or.inr rfl) (e_ca C_l_begun bd_l_begun hg (hr.mono (by decide)) tk (by rfl) (a_cons (e_var 0) a_nil)))
    (ss_cons (s_setLc (i := 2) (own := [(("_law_turn" : Str), 6)]) rfl sc_law.nd rfl rfl rfl (i_range1 (by rfl) T.b_range e_int) (blkOk_by (N := N_law) (sc := defScope st_law) (by decide +kernel)) (by decide) (fun _ _ _ _ _ => (g_name (i := 6) sc_law.nd rfl (Or.inl rfl))) (fun _ _ _ _ _ => ts_nil) (fun _ _ _ _ _ => (e_cmp (op_eq2 hr.units) opEq2_ok (e_ca C_l_dealt bd_l_dealt hg (hr.mono (by decide)) L2.takes0 (by rfl) (a_cons (e_var 1) (a_cons e_int a_nil))) e_int (by rfl))))
    (ss_cons (s_set (i := 3) sc_law.nd rfl (Or.inl rfl) (e_bin op_addM opAdd_ok (e_bin op_addM opAdd_ok (e_comp (own := [(("_law_turn" : Str), 6)]) rfl sc_law.nd (i_range1 (by rfl) T.b_range e_int) (blkOk_by (N := N_law) (sc := defScope st_law) (by decide +kernel)) (by decide) (fun _ _ _ _ _ => (g_name (i := 6) sc_law.nd rfl (Or.inl rfl))) (fun _ _ _ _ _ => ts_nil) (fun _ _ _ _ _ => (e_ca C_l_drawn bd_l_drawn hg (hr.mono (by decide)) L2.takes0 (by rfl) (a_cons (e_var 1) (a_cons e_int a_nil))))) (e_ca C_l_greatest bd_l_greatest hg (hr.mono (by decide)) tk (by rfl) (a_cons (e_var 1) a_nil))) (e_ca C_l_beyond bd_l_beyond hg (hr.mono (by decide)) tk (by rfl) (a_cons (e_var 1) a_nil))))
    (ss_cons (s_for (passes_of rfl) rfl (i_any (e_var 2)) (g_name (i := 4) sc_law.nd rfl (Or.inl rfl)) (ss_cons (s_set (i := 5) sc_law.nd rfl (Or.inl rfl) (e_ca C_l_spoilt bd_l_spoilt hg (hr.mono (by decide)) tk (by rfl) (a_cons (e_var 1) (a_cons (e_ca C_l_pick bd_l_pick hg (hr.mono (by decide)) tk (by rfl) (a_cons (e_var 1) (a_cons (e_cut (e_var 3) o_none (o_some e_int)) a_nil))) a_nil))))
    (ss_one (s_expr (e_meth (.inl rfl) PySem.F.plainAttrs_list PySem.F.slot_list_append PySem.F.type_list_append mt_append append_ok (e_var 3) (a_cons (e_ifExp (t_tru (e_var 4)) (e_ca C_l_spoilt bd_l_spoilt hg (hr.mono (by decide)) tk (by rfl) (a_cons (e_var 1) (a_cons (e_var 5) a_nil))) (e_var 5)) a_nil))))))
    (ss_cons (s_set (i := 3) sc_law.nd rfl (Or.inl rfl) (e_bin op_addM opAdd_ok (e_bin op_addM opAdd_ok (e_var 3) (e_ca0 C_l_alike_looks bd_l_alike_looks hg (hr.mono (by decide)) tk (by rfl))) (e_lst (a_cons (e_lst a_nil) (a_cons e_d0 (a_cons (e_tup a_nil) (a_cons (e_tup (a_cons e_str a_nil)) (a_cons (e_tup (a_cons e_str (a_cons (e_lst (a_cons e_str a_nil)) a_nil))) (a_cons (e_lst (a_cons e_str (a_cons (e_tup (a_cons e_str a_nil)) a_nil))) (a_cons (e_d1 (e_tup a_nil)) (a_cons (e_tup (a_cons (e_tup a_nil) a_nil)) a_nil)))))))))))
    (ss_cons (s_set (i := 3) sc_law.nd rfl (Or.inl rfl) (e_bin op_addM opAdd_ok (e_var 3) (e_lst (a_cons e_str (a_cons (e_bin op_mulM opMul_ok e_str e_int) (a_cons (e_bin op_mulM opMul_ok e_str e_int) (a_cons (e_tup (a_cons e_str (a_cons (e_bin op_pow opPow_ok e_int e_int) a_nil))) (a_cons (e_tup (a_cons e_bl a_nil)) (a_cons (e_tup (a_cons e_str (a_cons (e_tup a_nil) a_nil))) (a_cons (e_tup (a_cons e_str (a_cons (e_tup (a_cons (e_tup a_nil) a_nil)) a_nil))) a_nil))))))))))
    (ss_cons (s_set (i := 3) sc_law.nd rfl (Or.inl rfl) (e_bin op_addM opAdd_ok (e_var 3) (e_lst (a_cons (e_ca C_l_chain bd_l_chain hg (hr.mono (by decide)) tk (by rfl) (a_cons (e_tup (a_cons e_str (a_cons (e_tup a_nil) a_nil))) (a_cons e_int a_nil))) (a_cons (e_ca C_l_chain bd_l_chain hg (hr.mono (by decide)) tk (by rfl) (a_cons (e_tup (a_cons e_str (a_cons (e_tup a_nil) a_nil))) (a_cons e_int a_nil))) a_nil)))))
    (ss_one (s_ret (e_cmp (op_eq2 hr.units) opEq2_ok (e_comp (own := [(("_law_it" : Str), 5)]) rfl sc_law.nd (i_any (e_bin op_addM opAdd_ok (e_var 3) (e_rev (e_var 3)))) (blkOk_by (N := N_law) (sc := defScope st_law) (by decide +kernel)) (by decide) (fun _ _ _ _ _ => (g_name (i := 5) sc_law.nd rfl (Or.inl rfl))) (fun _ _ _ _ _ => (ts_one (t_not (t_val (e_ca C_l_right bd_l_right hg (hr.mono (by decide)) L2.takes0 (by rfl) (a_cons (e_var 5) a_nil)))))) (fun _ _ _ _ _ => (e_var 5))) (e_lst a_nil) (by rfl)))))))))))
end
end K02

namespace K02
open Mi L2 PySem PySem.Spec PyProof.Rows
theorem dealt_eq : f_l_dealt = fDealt := rfl
theorem begun_eq : f_l_begun = fBegun := rfl
theorem pick_eq : f_l_pick = fPick := rfl

/-! ### what may be asked for -/
inductive Fair (h : AH) : D → Prop
  | non : Fair h .non
  | bl (b : Bool) : Fair h (.bl b)
  | int (i : Int) : Fair h (.int i)
  | str (x : Str) : x.length ≤ 100000 → PyData.strOk x = true → Fair h (.str x)
  | tup (ds : List D) : ds.length ≤ 1000 → (∀ d ∈ ds, Fair h d) → Fair h (.tup ds)
  | lst (n : Nat) (ds : List D) : h[n]? = some (.lst ds) → Fair h (.ref n)
  | dic (n : Nat) (kvs : List (Key × D)) : h[n]? = some (.dic kvs) → Fair h (.ref n)
theorem Fair.pre {h h' : AH} (p : h <+: h') : ∀ {d : D}, Fair h d → Fair h' d
  | _, .non => .non
  | _, .bl b => .bl b
  | _, .int i => .int i
  | _, .str x a b => .str x a b
  | _, .tup ds a b => .tup ds a fun d hd => Fair.pre p (b d hd)
  | _, .lst n ds e => .lst n ds (getElem_pre p e)
  | _, .dic n kvs e => .dic n kvs (getElem_pre p e)
def kinds : List String := ["NoneType", "bool", "int", "str", "tuple", "list", "dict"]
theorem Fair.kind {h : AH} {d : D} (f : Fair h d) : ∃ t ∈ kinds, tyD d h = some t := by
  cases f with
  | non => exact ⟨"NoneType", by simp [kinds], rfl⟩
  | bl b => exact ⟨"bool", by simp [kinds], rfl⟩
  | int i => exact ⟨"int", by simp [kinds], rfl⟩
  | str x a b => exact ⟨"str", by simp [kinds], rfl⟩
  | tup ds a b => exact ⟨"tuple", by simp [kinds], rfl⟩
  | lst n ds e => exact ⟨"list", by simp [kinds], by simp only [tyD, e]⟩
  | dic n kvs e => exact ⟨"dict", by simp [kinds], by simp only [tyD, e]⟩
def kt (t T : String) : Bool := t == T || (t == "bool" && T == "int")
theorem kit_all : (kinds.all fun t => ["int", "bool", "str", "tuple"].all fun T => kitB t T == some (kt t T)) = true := by decide +kernel
theorem kit_kt {t T : String} (h1 : t ∈ kinds) (h2 : T ∈ ["int", "bool", "str", "tuple"]) : kitB t T = some (kt t T) :=
  eq_of_beq (List.all_eq_true.mp (List.all_eq_true.mp kit_all t h1) T h2)
/-- isinstance(x, T) -/
def isT (T : String) : D → Bool
  | .non => false
  | .bl _ => T == "bool" || T == "int"
  | .int _ => T == "int"
  | .str _ => T == "str"
  | .tup _ => T == "tuple"
  | _ => false
theorem isi_ev {ε : AEnv} {h h1 : AH} {F : EF} {d : D} {T : String} (e : F ε h = .ok d h1) (f : Fair h1 d) (hT : T ∈ ["int", "bool", "str", "tuple"]) : cCall fIsi (aCons F (aCons (cC (.ty T)) aNil)) ε h = .ok (.bl (isT T d)) h1 := by
  obtain ⟨t, ht, et⟩ := f.kind
  refine (cCall_eq (aCons_eq e (aCons_eq rfl aNil_eq))).trans ?_
  have key : kt t T = isT T d := by
    simp only [List.mem_cons, List.not_mem_nil, or_false] at hT
    cases f with
    | lst n ds e1 =>
      simp only [tyD, e1] at et
      cases et
      rcases hT with rfl | rfl | rfl | rfl <;> rfl
    | dic n ds e1 =>
      simp only [tyD, e1] at et
      cases et
      rcases hT with rfl | rfl | rfl | rfl <;> rfl
    | _ => cases et; rcases hT with rfl | rfl | rfl | rfl <;> rfl
  simp only [fIsi, et, kit_kt ht hT, key]
theorem isi_t {ε : AEnv} {h h1 : AH} {F : EF} {d : D} {T : String} (e : F ε h = .ok d h1) (f : Fair h1 d) (hT : T ∈ ["int", "bool", "str", "tuple"]) : tVal (cCall fIsi (aCons F (aCons (cC (.ty T)) aNil))) ε h = .ok (isT T d) h1 := tVal_eq (isi_ev e f hT)
theorem cNot_bl {F : EF} {ε : AEnv} {h h1 : AH} {b : Bool} (e : F ε h = .ok (.bl b) h1) : cNot F ε h = .ok (.bl (!b)) h1 := by
  unfold cNot
  rw [e, Res.bind_ok]
  rfl
theorem cAnd_bl {F G : EF} {ε : AEnv} {h h1 h2 : AH} {a b : Bool} (e1 : F ε h = .ok (.bl a) h1) (e2 : a = true → G ε h1 = .ok (.bl b) h2) (e3 : a = false → h2 = h1) : cAnd F G ε h = .ok (.bl (a && b)) h2 := by
  cases a with
  | true => exact (cAnd_t e1).trans (e2 rfl)
  | false => rw [e3 rfl]; exact cAnd_f e1
theorem cOr_bl {F G : EF} {ε : AEnv} {h h1 h2 : AH} {a b : Bool} (e1 : F ε h = .ok (.bl a) h1) (e2 : a = false → G ε h1 = .ok (.bl b) h2) (e3 : a = true → h2 = h1) : cOr F G ε h = .ok (.bl (a || b)) h2 := by
  unfold cOr
  rw [e1, Res.bind_ok]
  cases a with
  | false => exact e2 rfl
  | true => rw [e3 rfl]; rfl
/-! ### is_whole, is_name -/
def wholeD : D → Bool
  | .int _ => true
  | _ => false
theorem whole_ok {h : AH} {d : D} (f : Fair h d) : f_is_whole [d] h = .ok (.bl (wholeD d)) h := by
  have e1 := isi_ev (ε := [some d]) (F := cVar 0) (T := "int") rfl f (by simp)
  have e2 := isi_ev (ε := [some d]) (F := cVar 0) (T := "bool") rfl f (by simp)
  have q := cAnd_bl e1 (b := !isT "bool" d) (fun _ => cNot_bl e2) (fun _ => rfl)
  refine runB_ret rfl (sRet_eq (q.trans ?_))
  cases d <;> rfl
def nameB (x : Str) : Bool := decide (1 ≤ x.length) && decide (x.length ≤ 8) && x.cps.toList.all (between "a" "z")
def nameD : D → Bool
  | .str x => nameB x
  | _ => false
theorem len_strE {ε : AEnv} {h h1 : AH} {F : EF} {x : Str} (e : F ε h = .ok (.str x) h1) (hx : x.length ≤ 100000) : cCall fLen (aCons F aNil) ε h = .ok (.int x.length) h1 := by
  have hx2 : x.length ≤ sizeLine := by rw [sizeLine_eq]; omega
  refine (cCall_eq (aCons_eq e aNil_eq)).trans ?_
  simp only [fLen, if_pos hx2]
theorem chain_le {ε : AEnv} {h : AH} {F G I : EF} {a b c : Int} (e1 : F ε h = .ok (.int a) h) (e2 : G ε h = .ok (.int b) h) (e3 : I ε h = .ok (.int c) h) : cChain opLe opLe F G I ε h = .ok (.bl (decide (a ≤ b) && decide (b ≤ c))) h := by
  unfold cChain
  rw [e1, Res.bind_ok, e2, Res.bind_ok]
  have q : opLe (.int a) (.int b) h = .ok (.bl (decide (a ≤ b))) h := rfl
  rw [q, Res.bind_ok]
  cases c1 : decide (a ≤ b) with
  | false => rfl
  | true =>
    show (I ε h).bind _ = _
    rw [e3, Res.bind_ok]
    rfl
theorem isName_ok {h : AH} {d : D} (f : Fair h d) : f_is_name [d] h = .ok (.bl (nameD d)) h := by
  have q := isi_t (ε := [some d]) (F := cVar 0) (T := "str") rfl f (by simp)
  have no : isT "str" d = false → f_is_name [d] h = .ok (.bl false) h := fun e => by
    rw [e] at q
    exact runB_ret rfl (sSeq_ret ((sIf_t (tOr_t (tNot_eq q))).trans (sRet_eq rfl)))
  cases f with
  | str x hx ho =>
    have ch := tVal_eq (chain_le (ε := [some (.str x)]) (h := h) (F := cC (.int 1)) (I := cC (.int 8)) rfl (len_strE (F := cVar 0) rfl hx) rfl)
    have t2 := (tOr_f (tNot_eq q)).trans (tNot_eq ch)
    have e0 : (decide ((1 : Int) ≤ x.length) && decide ((x.length : Int) ≤ 8)) = (decide (1 ≤ x.length) && decide (x.length ≤ 8)) := by
      rw [Bool.eq_iff_iff]
      simp only [Bool.and_eq_true, decide_eq_true_eq]
      omega
    rw [e0] at t2
    cases c : (decide (1 ≤ x.length) && decide (x.length ≤ 8)) with
    | false =>
      rw [c] at t2
      have e : nameD (.str x) = false := by show nameB x = false; unfold nameB; rw [c, Bool.false_and]
      rw [e]
      exact runB_ret rfl (sSeq_ret ((sIf_t t2).trans (sRet_eq rfl)))
    | true =>
      rw [c] at t2
      have e : nameD (.str x) = x.cps.toList.all (between "a" "z") := by show nameB x = _; unfold nameB; rw [c, Bool.true_and]
      rw [e]
      exact runB_ret rfl ((sSeq_nx ((sIf_f t2).trans rfl)).trans (sRet_eq rfl))
  | _ => exact no rfl
/-! ### texts, plain ones, things, deeds and kinds -/
def plainSign (c : Nat) : Bool := between " " "~" c && !([(37 : Int), 39].any (· == ((c : Nat) : Int)))
def shortText : D → Bool
  | .str x => decide (x.length ≤ 20) && x.cps.toList.all plainSign
  | _ => false
theorem shortText_ok {h : AH} {d : D} (f : Fair h d) : f_is_short_text [d] h = .ok (.bl (shortText d)) h := by
  have q := isi_t (ε := [some d]) (F := cVar 0) (T := "str") rfl f (by simp)
  have no : isT "str" d = false → f_is_short_text [d] h = .ok (.bl false) h := fun e => by
    rw [e] at q
    exact runB_ret rfl (sSeq_ret ((sIf_t (tOr_t (tNot_eq q))).trans (sRet_eq rfl)))
  cases f with
  | str x hx ho =>
    have g : tVal (cBin opGt (cCall fLen (aCons (cVar 0) aNil)) (cC (.int 20))) [some (.str x)] h = .ok (decide ((20 : Int) < x.length)) h := tVal_eq ((cBin_eq (len_strE (F := cVar 0) rfl hx) rfl).trans rfl)
    have t2 := (tOr_f (tNot_eq q)).trans g
    by_cases c : x.length ≤ 20
    · rw [decide_eq_false (show ¬ (20 : Int) < x.length by omega)] at t2
      have e : shortText (.str x) = x.cps.toList.all plainSign := by show (decide (x.length ≤ 20) && _) = _; rw [decide_eq_true c, Bool.true_and]
      rw [e]
      exact runB_ret rfl ((sSeq_nx ((sIf_f t2).trans rfl)).trans (sRet_eq rfl))
    · rw [decide_eq_true (show (20 : Int) < x.length by omega)] at t2
      have e : shortText (.str x) = false := by show (decide (x.length ≤ 20) && _) = _; rw [decide_eq_false c, Bool.false_and]
      rw [e]
      exact runB_ret rfl (sSeq_ret ((sIf_t t2).trans (sRet_eq rfl)))
  | _ => exact no rfl
def plainSingle : D → Bool
  | .non => true
  | .bl _ => true
  | .int i => decide (-1000000000000000 ≤ i) && decide (i ≤ 1000000000000000)
  | d => shortText d
theorem is_non {h : AH} {d : D} (f : Fair h d) {ε : AEnv} {F : EF} (e : F ε h = .ok d h) : tVal (cBin opIs F (cC .non)) ε h = .ok (match d with | .non => true | _ => false) h := by
  refine tVal_eq ((cBin_eq e rfl).trans ?_)
  cases f <;> rfl
theorem plainSingle_ok {h : AH} {d : D} (f : Fair h d) : f_is_plain_single [d] h = .ok (.bl (plainSingle d)) h := by
  have q1 := is_non f (ε := [some d]) (F := cVar 0) rfl
  have q2 := isi_t (ε := [some d]) (F := cVar 0) (T := "bool") rfl f (by simp)
  have q3 : tVal (cFn f_is_whole (aCons (cVar 0) aNil)) [some d] h = .ok (wholeD d) h := tVal_eq ((cFn_eq (aCons_eq rfl aNil_eq)).trans (whole_ok f))
  have rest : (tOr' (tVal (cBin opIs (cVar 0) (cC .non))) (tVal (cCall fIsi (aCons (cVar 0) (aCons (cC (.ty "bool")) aNil))))) [some d] h = .ok false h → wholeD d = false → plainSingle d = shortText d → f_is_plain_single [d] h = .ok (.bl (plainSingle d)) h := fun e1 e2 e3 => by
    rw [e2] at q3
    rw [e3]
    exact runB_ret rfl ((sSeq_nx ((sIf_f e1).trans rfl)).trans ((sSeq_nx ((sIf_f q3).trans rfl)).trans (sRet_eq ((cFn_eq (aCons_eq rfl aNil_eq)).trans (shortText_ok f)))))
  cases f with
  | non => exact runB_ret rfl (sSeq_ret ((sIf_t (tOr_t q1)).trans (sRet_eq rfl)))
  | bl b => exact runB_ret rfl (sSeq_ret ((sIf_t ((tOr_f q1).trans q2)).trans (sRet_eq rfl)))
  | int i => exact runB_ret rfl ((sSeq_nx ((sIf_f ((tOr_f q1).trans q2)).trans rfl)).trans (sSeq_ret ((sIf_t q3).trans (sRet_eq (chain_le (F := cNeg (cC (.int 1000000000000000))) (G := cVar 0) (I := cC (.int 1000000000000000)) rfl rfl rfl)))))
  | str x a b => exact rest ((tOr_f q1).trans q2) rfl rfl
  | tup ds a b => exact rest ((tOr_f q1).trans q2) rfl rfl
  | lst n ds e => exact rest ((tOr_f q1).trans q2) rfl rfl
  | dic n ds e => exact rest ((tOr_f q1).trans q2) rfl rfl
/-- x == 'z' -/
def isStr (z : Str) : D → Bool
  | .str x => decide (x = z)
  | _ => false
theorem eq_str {h h1 : AH} {d : D} (f : Fair h1 d) {ε : AEnv} {F : EF} {z : Str} (e : F ε h = .ok d h1) : cBin opEq2 F (cC (.str z)) ε h = .ok (.bl (isStr z d)) h1 := by
  refine (cBin_eq e rfl).trans ?_
  cases f with
  | lst n ds e1 => simp [opEq2, eqX, isBox, e1, isStr]
  | dic n ds e1 => simp [opEq2, eqX, isBox, e1, isStr]
  | _ => simp [opEq2, eqX, isBox, isStr, opEq, scalEq]
theorem len_tupE {ε : AEnv} {h h1 : AH} {F : EF} {ds : List D} (e : F ε h = .ok (.tup ds) h1) : cCall fLen (aCons F aNil) ε h = .ok (.int ds.length) h1 := (cCall_eq (aCons_eq e aNil_eq)).trans rfl
/-- the head of the defs that part a tuple of n: not so -/
theorem part_no {h : AH} {d : D} {n : Nat} {ε : AEnv} {F : EF} (f : Fair h d) (e : F ε h = .ok d h) (k : ∀ ds, d = .tup ds → ds.length ≠ n) :
    (tOr' (tNot' (tVal (cCall fIsi (aCons F (aCons (cC (.ty "tuple")) aNil))))) (tVal (cBin opNe (cCall fLen (aCons F aNil)) (cC (.int n))))) ε h = .ok true h := by
  have q := isi_t (T := "tuple") e f (by simp)
  cases f with
  | tup ds a b =>
    refine (tOr_f (tNot_eq q)).trans (tVal_eq ((cBin_eq (len_tupE e) rfl).trans ?_))
    have : ((ds.length : Int)) ≠ n := fun z => k ds rfl (by omega)
    simp [opNe, scalEq, this]
  | _ => exact tOr_t (tNot_eq q)
theorem part_yes {h : AH} {ds : List D} {ε : AEnv} {F : EF} (f : Fair h (.tup ds)) (e : F ε h = .ok (.tup ds) h) {n : Nat} (hn : ds.length = n) :
    (tOr' (tNot' (tVal (cCall fIsi (aCons F (aCons (cC (.ty "tuple")) aNil))))) (tVal (cBin opNe (cCall fLen (aCons F aNil)) (cC (.int n))))) ε h = .ok false h := by
  have q := isi_t (T := "tuple") e f (by simp)
  refine (tOr_f (tNot_eq q)).trans (tVal_eq ((cBin_eq (len_tupE e) rfl).trans ?_))
  subst hn
  simp [opNe, scalEq]
def numB : D → Bool
  | .int i => decide (0 ≤ i) && decide (i ≤ 1000000000000000)
  | _ => false
def thingB : D → Bool
  | .tup [w, k] => isStr "thing" w && numB k
  | _ => false
theorem thing_ok {h : AH} {d : D} (f : Fair h d) : f_is_thing [d] h = .ok (.bl (thingB d)) h := by
  have no : thingB d = false → (∀ ds, d = .tup ds → ds.length ≠ 2) → f_is_thing [d] h = .ok (.bl (thingB d)) h := fun e k => by
    rw [e]
    exact runB_ret rfl (sSeq_ret ((sIf_t (part_no f (ε := [some d, none, none]) (F := cVar 0) rfl k)).trans (sRet_eq rfl)))
  cases d with
  | tup ds =>
    match ds, f with
    | [w, k], f =>
      obtain ⟨fw, fk⟩ : Fair h w ∧ Fair h k := by
        cases f with
        | tup _ _ g => exact ⟨g w (by simp), g k (by simp)⟩
      have t := part_yes f (ε := [some (.tup [w, k]), none, none]) (F := cVar 0) rfl (n := 2) rfl
      have q1 := eq_str fw (ε := [some (.tup [w, k]), some w, some k]) (F := cVar 1) (z := "thing") rfl
      have q2 : cFn f_is_whole (aCons (cVar 2) aNil) [some (.tup [w, k]), some w, some k] h = .ok (.bl (wholeD k)) h := (cFn_eq (aCons_eq rfl aNil_eq)).trans (whole_ok fk)
      refine runB_ret rfl ((sSeq_nx ((sIf_f t).trans rfl)).trans ((sSeq_nx (h1 := h) (ε1 := [some (.tup [w, k]), some w, some k]) rfl).trans (sRet_eq ?_)))
      have q3 : cAnd (cFn f_is_whole (aCons (cVar 2) aNil)) (cChain opLe opLe (cC (.int 0)) (cVar 2) (cC (.int 1000000000000000))) [some (.tup [w, k]), some w, some k] h = .ok (.bl (numB k)) h := by
        cases k with
        | int i => exact cAnd_bl (a := true) (b := decide (0 ≤ i) && decide (i ≤ 1000000000000000)) q2 (fun _ => chain_le (F := cC (.int 0)) (G := cVar 2) (I := cC (.int 1000000000000000)) rfl rfl rfl) fun _ => rfl
        | _ => exact cAnd_f q2
      exact cAnd_bl q1 (fun _ => q3) fun _ => rfl
    | [], f => exact no rfl fun ds e => by cases e; simp
    | [_], f => exact no rfl fun ds e => by cases e; simp
    | _ :: _ :: _ :: _, f => exact no rfl fun ds e => by cases e; simp
  | _ => exact no rfl fun ds e => by cases e
def deedB : D → Bool
  | .tup [w, a, b] => (isStr "deed" w || isStr "kind" w) && (nameD a && nameD b)
  | _ => false
theorem in_flat {h : AH} {d : D} {v : V} {z1 z2 : Str} (e1 : flat d = some v) (e2 : isBox d h = false) : opIn2 d (.tup [.str z1, .str z2]) h = .ok (.bl (inV v [.str z1, .str z2])) h := by
  have e3 : inX d (.tup [.str z1, .str z2]) h = false := by
    show (isBox d h && _) = false
    rw [e2, Bool.false_and]
  have e4 : inD d (.tup [.str z1, .str z2]) h = some (inV v [.str z1, .str z2]) := by
    unfold inD
    simp only [seqD, e1]
    rfl
  unfold opIn2
  rw [if_neg (by rw [e3]; exact Bool.false_ne_true)]
  unfold opIn
  rw [e4]
theorem in_two {h h1 : AH} {d : D} (f : Fair h1 d) {ε : AEnv} {F : EF} {z1 z2 : Str} (e : F ε h = .ok d h1) : cBin opIn2 F (cTup (aCons (cC (.str z1)) (aCons (cC (.str z2)) aNil))) ε h = .ok (.bl (isStr z1 d || isStr z2 d)) h1 := by
  have t : cTup (aCons (cC (.str z1)) (aCons (cC (.str z2)) aNil)) ε h1 = .ok (.tup [.str z1, .str z2]) h1 := cTup_eq rfl (by rw [sizeLine_eq]; exact Nat.le_of_ble_eq_true rfl)
  refine (cBin_eq e t).trans ?_
  have fl : (omap asStr [.str z1, .str z2]).isSome = true := rfl
  have bx : isBox d h1 = true → isStr z1 d = false → isStr z2 d = false → opIn2 d (.tup [.str z1, .str z2]) h1 = .ok (.bl (isStr z1 d || isStr z2 d)) h1 := fun k1 k2 k3 => by
    have e3 : inX d (.tup [.str z1, .str z2]) h1 = true := by
      show (isBox d h1 && _) = true
      rw [k1, fl]; rfl
    unfold opIn2
    rw [if_pos e3, k2, k3]
    rfl
  cases f with
  | lst n ds e1 => exact bx (by simp [isBox, e1]) rfl rfl
  | dic n ds e1 => exact bx (by simp [isBox, e1]) rfl rfl
  | tup ds a b => exact bx rfl rfl rfl
  | str x a b =>
    refine (in_flat (v := .str x) rfl rfl).trans ?_
    congr 2
    have e2 : ∀ z : Str, (z == x) = isStr z (.str x) := fun z => by
      show _ = decide (x = z)
      rw [Bool.eq_iff_iff, beq_iff_eq, decide_eq_true_eq]
      exact eq_comm
    rw [← e2, ← e2]
    simp [inV, eqV]
  | non => exact (in_flat (v := .non) rfl rfl).trans (by congr 2)
  | bl b => exact (in_flat (v := .bl b) rfl rfl).trans (by congr 2)
  | int i => exact (in_flat (v := .int i) rfl rfl).trans (by congr 2)
theorem deed_ok {h : AH} {d : D} (f : Fair h d) : f_is_deed_or_kind [d] h = .ok (.bl (deedB d)) h := by
  have no : deedB d = false → (∀ ds, d = .tup ds → ds.length ≠ 3) → f_is_deed_or_kind [d] h = .ok (.bl (deedB d)) h := fun e k => by
    rw [e]
    exact runB_ret rfl (sSeq_ret ((sIf_t (part_no f (ε := [some d, none, none, none]) (F := cVar 0) rfl k)).trans (sRet_eq rfl)))
  cases d with
  | tup ds =>
    match ds, f with
    | [w, a, b], f =>
      obtain ⟨fw, fa, fb⟩ : Fair h w ∧ Fair h a ∧ Fair h b := by
        cases f with
        | tup _ _ g => exact ⟨g w (by simp), g a (by simp), g b (by simp)⟩
      have t := part_yes f (ε := [some (.tup [w, a, b]), none, none, none]) (F := cVar 0) rfl (n := 3) rfl
      have q1 := in_two fw (ε := [some (.tup [w, a, b]), some w, some a, some b]) (F := cVar 1) (z1 := "deed") (z2 := "kind") rfl
      have q2 : cFn f_is_name (aCons (cVar 2) aNil) [some (.tup [w, a, b]), some w, some a, some b] h = .ok (.bl (nameD a)) h := (cFn_eq (aCons_eq rfl aNil_eq)).trans (isName_ok fa)
      have q3 : cFn f_is_name (aCons (cVar 3) aNil) [some (.tup [w, a, b]), some w, some a, some b] h = .ok (.bl (nameD b)) h := (cFn_eq (aCons_eq rfl aNil_eq)).trans (isName_ok fb)
      refine runB_ret rfl ((sSeq_nx ((sIf_f t).trans rfl)).trans ((sSeq_nx (h1 := h) (ε1 := [some (.tup [w, a, b]), some w, some a, some b]) rfl).trans (sRet_eq ?_)))
      exact cAnd_bl q1 (fun _ => cAnd_bl q2 (fun _ => q3) fun _ => rfl) fun _ => rfl
    | [], f => exact no rfl fun ds e => by cases e; simp
    | [_], f => exact no rfl fun ds e => by cases e; simp
    | [_, _], f => exact no rfl fun ds e => by cases e; simp
    | _ :: _ :: _ :: _ :: _, f => exact no rfl fun ds e => by cases e; simp
  | _ => exact no rfl fun ds e => by cases e
def singleB (d : D) : Bool := plainSingle d || (thingB d || deedB d)
theorem single_ok {h : AH} {d : D} (f : Fair h d) : f_is_single [d] h = .ok (.bl (singleB d)) h := by
  have q1 : cFn f_is_plain_single (aCons (cVar 0) aNil) [some d] h = .ok (.bl (plainSingle d)) h := (cFn_eq (aCons_eq rfl aNil_eq)).trans (plainSingle_ok f)
  have q2 : cFn f_is_thing (aCons (cVar 0) aNil) [some d] h = .ok (.bl (thingB d)) h := (cFn_eq (aCons_eq rfl aNil_eq)).trans (thing_ok f)
  have q3 : cFn f_is_deed_or_kind (aCons (cVar 0) aNil) [some d] h = .ok (.bl (deedB d)) h := (cFn_eq (aCons_eq rfl aNil_eq)).trans (deed_ok f)
  exact runB_ret rfl (sRet_eq (cOr_bl q1 (fun _ => cOr_bl q2 (fun _ => q3) fun _ => rfl) fun _ => rfl))
/-- the parts of a row of at most forty -/
def rowD : D → Option (List D)
  | .tup [w, .tup ps] => if isStr "row" w && decide (ps.length ≤ 40) then some ps else none
  | _ => none
theorem shortRow_ok {h : AH} {d : D} (f : Fair h d) : f_is_short_row [d] h = .ok (.bl (rowD d).isSome) h := by
  have no : rowD d = none → (∀ ds, d = .tup ds → ds.length ≠ 2) → f_is_short_row [d] h = .ok (.bl (rowD d).isSome) h := fun e k => by
    rw [e]
    exact runB_ret rfl (sSeq_ret ((sIf_t (part_no f (ε := [some d, none, none]) (F := cVar 0) rfl k)).trans (sRet_eq rfl)))
  cases d with
  | tup ds =>
    match ds, f with
    | [w, p], f =>
      obtain ⟨fw, fp⟩ : Fair h w ∧ Fair h p := by
        cases f with
        | tup _ _ g => exact ⟨g w (by simp), g p (by simp)⟩
      have t := part_yes f (ε := [some (.tup [w, p]), none, none]) (F := cVar 0) rfl (n := 2) rfl
      have q1 := eq_str fw (ε := [some (.tup [w, p]), some w, some p]) (F := cVar 1) (z := "row") rfl
      have q2 := isi_ev (ε := [some (.tup [w, p]), some w, some p]) (F := cVar 2) (T := "tuple") rfl fp (by simp)
      refine runB_ret rfl ((sSeq_nx ((sIf_f t).trans rfl)).trans ((sSeq_nx (h1 := h) (ε1 := [some (.tup [w, p]), some w, some p]) rfl).trans (sRet_eq ?_)))
      have fin : ∀ b : Bool, cAnd (cCall fIsi (aCons (cVar 2) (aCons (cC (.ty "tuple")) aNil))) (cBin opLe (cCall fLen (aCons (cVar 2) aNil)) (cC (.int 40))) [some (.tup [w, p]), some w, some p] h = .ok (.bl b) h → (isStr "row" w && b) = (rowD (.tup [w, p])).isSome →
          cAnd (cBin opEq2 (cVar 1) (cC (.str ("row" : Str)))) (cAnd (cCall fIsi (aCons (cVar 2) (aCons (cC (.ty "tuple")) aNil))) (cBin opLe (cCall fLen (aCons (cVar 2) aNil)) (cC (.int 40)))) [some (.tup [w, p]), some w, some p] h = .ok (.bl (rowD (.tup [w, p])).isSome) h := fun b e1 e2 => by
        rw [← e2]
        exact cAnd_bl q1 (fun _ => e1) fun _ => rfl
      cases p with
      | tup ps =>
        refine fin (decide (ps.length ≤ 40)) ((cAnd_t q2).trans ((cBin_eq (len_tupE (F := cVar 2) rfl) rfl).trans ?_)) ?_
        · show Res.ok (D.bl (decide ((ps.length : Int) ≤ 40))) h = _
          congr 2
          exact decide_eq_decide.mpr (by omega)
        · simp only [rowD]
          cases (isStr "row" w && decide (ps.length ≤ 40)) <;> rfl
      | _ => exact fin false (cAnd_f q2) (by rw [Bool.and_false]; rfl)
    | [], f => exact no rfl fun ds e => by cases e; simp
    | [_], f => exact no rfl fun ds e => by cases e; simp
    | _ :: _ :: _ :: _, f => exact no (by simp [rowD]) fun ds e => by cases e; simp
  | _ => exact no rfl fun ds e => by cases e
end K02

namespace K02
open Mi L2 PySem PySem.Spec PyProof.Rows
/-! ### how many worths a thing has, in r rows' depth -/
def cnt (fit : D → Bool) : Nat → D → Option Nat
  | 0, d => if fit d = true then some 1 else none
  | r + 1, d => match rowD d with
    | some ps => (omap (cnt fit r) ps).map fun ns => 1 + ns.sum
    | none => if fit d = true then some 1 else none
def cnts (fit : D → Bool) : List (D × Nat) → Option Nat
  | [] => some 0
  | q :: S => match cnt fit q.2 q.1, cnts fit S with
    | some a, some b => some (a + b)
    | _, _ => none
theorem cnts_app (fit : D → Bool) (T : List (D × Nat)) : ∀ S, cnts fit (S ++ T) = match cnts fit S, cnts fit T with | some a, some b => some (a + b) | _, _ => none
  | [] => by
    show cnts fit T = _
    cases cnts fit T <;> simp [cnts]
  | q :: S => by
    show (match cnt fit q.2 q.1, cnts fit (S ++ T) with | some a, some b => some (a + b) | _, _ => none) = _
    rw [cnts_app fit T S]
    show _ = match (match cnt fit q.2 q.1, cnts fit S with | some a, some b => some (a + b) | _, _ => none), cnts fit T with | some a, some b => some (a + b) | _, _ => none
    cases cnt fit q.2 q.1 <;> cases cnts fit S <;> cases cnts fit T <;> simp [Nat.add_assoc]
theorem cnts_map (fit : D → Bool) (r : Nat) : ∀ ps : List D, cnts fit (ps.map fun d => (d, r)) = (omap (cnt fit r) ps).map List.sum
  | [] => rfl
  | p :: ps => by
    show (match cnt fit r p, cnts fit (ps.map fun d => (d, r)) with | some a, some b => some (a + b) | _, _ => none) = _
    rw [cnts_map fit r ps]
    simp only [omap]
    cases cnt fit r p <;> cases omap (cnt fit r) ps <;> simp
theorem cnt_pos {fit : D → Bool} {r : Nat} {d : D} {n : Nat} (e : cnt fit r d = some n) : 1 ≤ n := by
  cases r with
  | zero =>
    simp only [cnt] at e
    split at e <;> cases e
    exact Nat.le_refl _
  | succ r =>
    simp only [cnt] at e
    split at e
    · obtain ⟨ns, _, rfl⟩ := Option.map_eq_some_iff.mp e
      omega
    · split at e <;> cases e
      exact Nat.le_refl _
def okB (fit : D → Bool) (m : Nat) (S : List (D × Nat)) : Bool := match cnts fit S with
  | some n => decide (m + n ≤ 200)
  | none => false
def pr (q : D × Nat) : D := .tup [q.1, .int (9 - q.2)]
theorem rowD_parts {h : AH} {d : D} {ps : List D} (f : Fair h d) (e : rowD d = some ps) : ps.length ≤ 40 ∧ (∀ p ∈ ps, Fair h p) ∧ ∃ w, d = .tup [w, .tup ps] := by
  unfold rowD at e
  split at e <;> first | (cases e; done) | skip
  split at e <;> cases e
  rename_i c
  rw [Bool.and_eq_true, decide_eq_true_eq] at c
  refine ⟨c.2, ?_, _, rfl⟩
  cases f with
  | tup _ _ g =>
    have := g (.tup ps) (by simp)
    cases this with
    | tup _ _ g2 => exact g2
/-- the part of a stack on top -/
theorem okB_top {fit : D → Bool} {m : Nat} {S : List (D × Nat)} {d : D} {r : Nat} (hm : m ≤ 200) :
    okB fit m (S ++ [(d, r)]) = match r, rowD d with
      | r + 1, some ps => okB fit (m + 1) (S ++ ps.map fun p => (p, r))
      | _, _ => if fit d = true then okB fit (m + 1) S else false := by
  have one : ∀ o : Option Nat, cnt fit r d = o → okB fit m (S ++ [(d, r)]) = match cnts fit S, o with | some a, some b => decide (m + (a + b) ≤ 200) | _, _ => false := fun o e => by
    unfold okB
    rw [cnts_app]
    simp only [cnts, e]
    cases cnts fit S <;> cases o <;> simp
  have leaf : cnt fit r d = (if fit d = true then some 1 else none) → okB fit m (S ++ [(d, r)]) = if fit d = true then okB fit (m + 1) S else false := fun e => by
    rw [one _ e]
    cases fit d with
    | false => cases cnts fit S <;> simp
    | true =>
      unfold okB
      cases cnts fit S with
      | none => simp
      | some a => simp only [if_true]; exact decide_eq_decide.mpr (by omega)
  cases r with
  | zero => exact leaf rfl
  | succ r =>
    cases e : rowD d with
    | none => exact leaf (by simp only [cnt, e])
    | some ps =>
      rw [one ((omap (cnt fit r) ps).map fun ns => 1 + ns.sum) (by simp only [cnt, e])]
      show _ = okB fit (m + 1) (S ++ ps.map fun p => (p, r))
      unfold okB
      rw [cnts_app, cnts_map]
      cases cnts fit S with
      | none => rfl
      | some a =>
        cases omap (cnt fit r) ps with
        | none => rfl
        | some ns =>
          refine decide_eq_decide.mpr ?_
          show m + (a + (1 + ns.sum)) ≤ 200 ↔ m + 1 + (a + ns.sum) ≤ 200
          omega
theorem okB_over {fit : D → Bool} {m : Nat} {S : List (D × Nat)} (hm : 200 < m) : okB fit m S = false := by
  unfold okB
  split
  · exact decide_eq_false (by omega)
  · rfl
theorem okB_nil {fit : D → Bool} {m : Nat} : okB fit m [] = decide (m ≤ 200) := rfl

/-! ### the while of is_built_of -/
def envB (d0 : D) (a : Addr) (n m : Nat) (p4 p5 : Option D) : AEnv := [some d0, some (.own a), some (.ref n), some (.int m), p4, p5, none]
def tB : TF := tAnd' (tTru (cVar 2)) (tVal (cBin opLe (cVar 3) (cC (.int 200))))
def bB (V : FV) : SF := (sSeq (sAsg (cMeth "list" mPop (cVar 2) aNil) (gT 2 (gCons' (gN 4) (gCons' (gN 5) gNil'))))
    (sSeq (sAug 3 opIAdd (cC (.int 1)))
    (sIf (tAnd' (tVal (cFn f_is_short_row (aCons (cVar 4) aNil))) (tVal (cBin opLe (cVar 5) (cC (.int 8)))))
      (sExpr (cMeth "list" mExtend (cVar 2) (aCons (cComp (iAny (cBin opIx (cVar 4) (cC (.int 1)))) (gN 6) tYes' (cTup (aCons (cVar 6) (aCons (cBin opAdd (cVar 5) (cC (.int 1))) aNil))) [6]) aNil)))
      (sIf (tNot' (tVal (cCallV 1 [(V.a_is_single, f_is_single), (V.a_is_plain_single, f_is_plain_single)] (aCons (cVar 4) aNil))))
      (sRet (cC (.bl false)))
      sPass))))
theorem built_b (V : FV) : b_is_built_of V = (sSeq (sSet 2 (cLst (aCons (cTup (aCons (cVar 0) (aCons (cC (.int 1)) aNil))) aNil)))
    (sSeq (sSet 3 (cC (.int 0)))
    (sSeq (sWhile 300 tB (bB V)) (sRet (cBin opLe (cVar 3) (cC (.int 200))))))) := rfl
theorem tB_ok {d0 : D} {a : Addr} {n m : Nat} {p4 p5 : Option D} {h : AH} {xs : List D} (e : h[n]? = some (.lst xs)) : tB (envB d0 a n m p4 p5) h = .ok (!xs.isEmpty && decide (m ≤ 200)) h := by
  have q1 : tTru (cVar 2) (envB d0 a n m p4 p5) h = .ok (!xs.isEmpty) h := by
    have q : truD (.ref n) h = some (!xs.isEmpty) := by simp only [truD, e]
    show (Res.ok (D.ref n) h).bind _ = _
    rw [Res.bind_ok, q]
  have q2 : tVal (cBin opLe (cVar 3) (cC (.int 200))) (envB d0 a n m p4 p5) h = .ok (decide (m ≤ 200)) h := by
    refine tVal_eq ((cBin_eq rfl rfl).trans ?_)
    show Res.ok (D.bl (decide ((m : Int) ≤ 200))) h = _
    congr 2
    exact decide_eq_decide.mpr (by omega)
  cases c : (!xs.isEmpty) with
  | false => rw [c] at q1; exact tAnd_f q1
  | true => rw [c] at q1; exact (tAnd_t q1).trans q2
/-- what pop tells and leaves -/
theorem pop_ok {d0 : D} {a : Addr} {n m : Nat} {p4 p5 : Option D} {h : AH} {xs : List D} {d : D} {k : Int} (e : h[n]? = some (.lst (xs ++ [.tup [d, .int k]]))) :
    sAsg (cMeth "list" mPop (cVar 2) aNil) (gT 2 (gCons' (gN 4) (gCons' (gN 5) gNil'))) (envB d0 a n m p4 p5) h = .nx (envB d0 a n m (some d) (some (.int k))) (h.set n (.lst xs)) := by
  have q : cMeth "list" mPop (cVar 2) aNil (envB d0 a n m p4 p5) h = .ok (.tup [d, .int k]) (h.set n (.lst xs)) := by
    refine (cMeth_eq (d := .ref n) (ds := []) rfl (by simp [isTy, tyD, e]) rfl).trans ?_
    simp [mPop, e]
  unfold sAsg
  rw [q, Res.st_ok]
  rfl
theorem aug_ok {d0 : D} {a : Addr} {n m : Nat} {p4 p5 : Option D} {h : AH} : sAug 3 opIAdd (cC (.int 1)) (envB d0 a n m p4 p5) h = .nx (envB d0 a n (m + 1) p4 p5) h := rfl

/-- what extend does -/
theorem ext_ok {d0 : D} {a : Addr} {n m : Nat} {h : AH} {xs ps : List D} {w : D} {k : Int} (e : h[n]? = some (.lst xs)) (hs : xs.length + ps.length ≤ 50000) :
    sExpr (cMeth "list" mExtend (cVar 2) (aCons (cComp (iAny (cBin opIx (cVar 4) (cC (.int 1)))) (gN 6) tYes' (cTup (aCons (cVar 6) (aCons (cBin opAdd (cVar 5) (cC (.int 1))) aNil))) [6]) aNil)) (envB d0 a n m (some (.tup [w, .tup ps])) (some (.int k))) h
      = .nx (envB d0 a n m (some (.tup [w, .tup ps])) (some (.int k))) ((h ++ [O.lst (ps.map fun p => D.tup [p, .int (k + 1)])]).set n (.lst (xs ++ ps.map fun p => D.tup [p, .int (k + 1)]))) := by
  have hn : n < h.length := (List.getElem?_eq_some_iff.mp e).1
  have hit : iAny (cBin opIx (cVar 4) (cC (.int 1))) (envB d0 a n m (some (.tup [w, .tup ps])) (some (.int k))) h = .ok (.fix ps) h := rfl
  have c := cComp_filter (t := tYes') (F := cTup (aCons (cVar 6) (aCons (cBin opAdd (cVar 5) (cC (.int 1))) aNil))) (g := gN 6) (own := [6]) hit (by rw [sizeLine_eq]; omega)
    (fun p => [some d0, some (.own a), some (.ref n), some (.int m), some (.tup [w, .tup ps]), some (.int k), some p]) (fun _ => true) (fun p => .tup [p, .int (k + 1)]) (fun _ _ _ => rfl) (fun _ _ _ => rfl)
    (fun p _ h => cTup_eq (ds := [p, .int (k + 1)]) rfl (by rw [sizeLine_eq]; exact Nat.le_of_ble_eq_true rfl))
  rw [List.filter_eq_self.mpr fun _ _ => rfl] at c
  have ty : isTy "list" (.ref n) h = true := by simp [isTy, tyD, e]
  have q := cMeth_eq (f := mExtend) (F := cVar 2) (d := .ref n) (h1 := h) (ε := envB d0 a n m (some (.tup [w, .tup ps])) (some (.int k))) rfl ty (aCons_eq c aNil_eq)
  refine sExpr_eq (d := .non) (q.trans ?_)
  have e2 : (h ++ [O.lst (ps.map fun p => D.tup [p, .int (k + 1)])])[n]? = some (.lst xs) := by rw [List.getElem?_append_left hn]; exact e
  have e3 : (h ++ [O.lst (ps.map fun p => D.tup [p, .int (k + 1)])])[h.length]? = some (.lst (ps.map fun p => D.tup [p, .int (k + 1)])) := by simp
  simp only [mExtend, e2, e3, List.length_map]
  rw [if_pos (by rw [sizeLine_eq]; omega)]

/-- the def that is handed in -/
structure Fit (V : FV) (a : Addr) (fit : D → Bool) : Prop where
  ex : ∃ c : FN, [(V.a_is_single, f_is_single), (V.a_is_plain_single, f_is_plain_single)].lookup a = some c ∧ ∀ d h, Fair h d → c [d] h = .ok (.bl (fit d)) h
theorem fit_single (V : FV) : Fit V V.a_is_single singleB := ⟨_, by simp [List.lookup], fun _ _ f => single_ok f⟩
theorem fit_plain {V : FV} (dV : V.a_is_single ≠ V.a_is_plain_single) : Fit V V.a_is_plain_single plainSingle :=
  ⟨_, by
    have : (V.a_is_plain_single == V.a_is_single) = false := beq_eq_false_iff_ne.mpr fun e => dV e.symm
    simp only [List.lookup, this, BEq.rfl], fun _ _ f => plainSingle_ok f⟩
/-- a turn of the while -/
theorem bB_ok {V : FV} {a : Addr} {fit : D → Bool} (hF : Fit V a fit) {d0 : D} {n m : Nat} {p4 p5 : Option D} {h h0 : AH} {S : List (D × Nat)} {d : D} {r : Nat} (hr : r ≤ 8) (hn : n = h0.length) (p : h0 <+: h) (fd : Fair h0 d) (e : h[n]? = some (.lst ((S ++ [(d, r)]).map pr))) (hs : S.length ≤ 40000) :
    match r, rowD d with
    | r + 1, some ps => ∃ h', h0 <+: h' ∧ h'[n]? = some (.lst ((S ++ ps.map fun p => (p, r)).map pr)) ∧ ∃ q4 q5, bB V (envB d0 a n m p4 p5) h = .nx (envB d0 a n (m + 1) q4 q5) h'
    | _, _ => if fit d = true then ∃ h', h0 <+: h' ∧ h'[n]? = some (.lst (S.map pr)) ∧ ∃ q4 q5, bB V (envB d0 a n m p4 p5) h = .nx (envB d0 a n (m + 1) q4 q5) h' else ∃ h', h0 <+: h' ∧ bB V (envB d0 a n m p4 p5) h = .ret (.bl false) h' := by
  subst hn
  have hn : h0.length < h.length := (List.getElem?_eq_some_iff.mp e).1
  have e0 : h[h0.length]? = some (.lst (S.map pr ++ [.tup [d, .int (9 - r)]])) := by rw [e, List.map_append]; rfl
  have p1 : h0 <+: h.set h0.length (.lst (S.map pr)) := by
    obtain ⟨t, rfl⟩ := p
    rw [List.set_append_right (h := Nat.le_refl _)]
    exact List.prefix_append _ _
  have e1 : (h.set h0.length (.lst (S.map pr)))[h0.length]? = some (O.lst (S.map pr)) := by simp [hn]
  have run := (sSeq_nx (b := sSeq (sAug 3 opIAdd (cC (.int 1)))
    (sIf (tAnd' (tVal (cFn f_is_short_row (aCons (cVar 4) aNil))) (tVal (cBin opLe (cVar 5) (cC (.int 8)))))
      (sExpr (cMeth "list" mExtend (cVar 2) (aCons (cComp (iAny (cBin opIx (cVar 4) (cC (.int 1)))) (gN 6) tYes' (cTup (aCons (cVar 6) (aCons (cBin opAdd (cVar 5) (cC (.int 1))) aNil))) [6]) aNil)))
      (sIf (tNot' (tVal (cCallV 1 [(V.a_is_single, f_is_single), (V.a_is_plain_single, f_is_plain_single)] (aCons (cVar 4) aNil))))
      (sRet (cC (.bl false)))
      sPass))) (pop_ok (d0 := d0) (a := a) (m := m) (p4 := p4) (p5 := p5) e0)).trans (sSeq_nx aug_ok)
  generalize h.set h0.length (.lst (S.map pr)) = h1 at p1 e1 run
  have f1 : Fair h1 d := fd.pre p1
  have t1 : tVal (cFn f_is_short_row (aCons (cVar 4) aNil)) (envB d0 a h0.length (m + 1) (some d) (some (.int (9 - r)))) h1 = .ok (rowD d).isSome h1 := tVal_eq ((cFn_eq (aCons_eq rfl aNil_eq)).trans (shortRow_ok f1))
  have t2 : tVal (cBin opLe (cVar 5) (cC (.int 8))) (envB d0 a h0.length (m + 1) (some d) (some (.int (9 - r)))) h1 = .ok (decide (9 - (r : Int) ≤ 8)) h1 := tVal_eq ((cBin_eq rfl rfl).trans rfl)
  have leaf : (tAnd' (tVal (cFn f_is_short_row (aCons (cVar 4) aNil))) (tVal (cBin opLe (cVar 5) (cC (.int 8))))) (envB d0 a h0.length (m + 1) (some d) (some (.int (9 - r)))) h1 = .ok false h1 →
      if fit d = true then ∃ h', h0 <+: h' ∧ h'[h0.length]? = some (.lst (S.map pr)) ∧ ∃ q4 q5, bB V (envB d0 a h0.length m p4 p5) h = .nx (envB d0 a h0.length (m + 1) q4 q5) h' else ∃ h', h0 <+: h' ∧ bB V (envB d0 a h0.length m p4 p5) h = .ret (.bl false) h' := fun t => by
    obtain ⟨c, ec, hc⟩ := hF.ex
    have q : tVal (cCallV 1 [(V.a_is_single, f_is_single), (V.a_is_plain_single, f_is_plain_single)] (aCons (cVar 4) aNil)) (envB d0 a h0.length (m + 1) (some d) (some (.int (9 - r)))) h1 = .ok (fit d) h1 := by
      refine tVal_eq ?_
      show (match ([(V.a_is_single, f_is_single), (V.a_is_plain_single, f_is_plain_single)] : List (Addr × FN)).lookup a with | some c => ((aCons (cVar 4) aNil) (envB d0 a h0.length (m + 1) (some d) (some (.int (9 - r)))) h1).bind c | none => .stuck) = _
      rw [ec]
      exact hc d h1 f1
    have run := run.trans (sIf_f t)
    cases c : fit d with
    | true =>
      rw [c] at q
      rw [if_pos rfl]
      exact ⟨h1, p1, e1, some d, some (.int (9 - r)), run.trans ((sIf_f (tNot_eq q)).trans rfl)⟩
    | false =>
      rw [c] at q
      rw [if_neg Bool.false_ne_true]
      exact ⟨h1, p1, run.trans ((sIf_t (tNot_eq q)).trans (sRet_eq rfl))⟩
  cases r with
  | zero =>
    refine leaf ?_
    cases c : (rowD d).isSome with
    | false => rw [c] at t1; exact tAnd_f t1
    | true => rw [c] at t1; exact (tAnd_t t1).trans t2
  | succ r =>
    cases c : rowD d with
    | none =>
      rw [c] at t1
      exact leaf (tAnd_f t1)
    | some ps =>
      rw [c] at t1
      obtain ⟨hp, fp, w, rfl⟩ := rowD_parts f1 c
      rw [decide_eq_true (show 9 - ((r + 1 : Nat) : Int) ≤ 8 by omega)] at t2
      have ek : (9 - ((r + 1 : Nat) : Int)) + 1 = 9 - (r : Int) := by omega
      have x := ext_ok (d0 := d0) (a := a) (m := m + 1) (w := w) (ps := ps) (k := 9 - ((r + 1 : Nat) : Int)) e1 (by rw [List.length_map]; omega)
      rw [ek] at x
      have l1 : h0.length < h1.length := (List.getElem?_eq_some_iff.mp e1).1
      refine ⟨_, ?_, ?_, _, _, run.trans ((sIf_t ((tAnd_t t1).trans t2)).trans x)⟩
      · obtain ⟨t, rfl⟩ := p1
        rw [List.append_assoc, List.set_append_right (h := Nat.le_refl _)]
        exact List.prefix_append _ _
      · rw [List.getElem?_set_self (by rw [List.length_append]; omega), List.map_append, List.map_map]
        rfl
/-- the whole of the while and what is told behind it -/
theorem loopB {V : FV} {a : Addr} {fit : D → Bool} (hF : Fit V a fit) {d0 : D} {h0 : AH} : ∀ (fuel : Nat) (S : List (D × Nat)) (m : Nat) (h : AH) (p4 p5 : Option D), 202 ≤ fuel + m → m ≤ 201 → S.length ≤ 40 * m + 1 → (∀ q ∈ S, Fair h0 q.1 ∧ q.2 ≤ 8) → h0 <+: h → h[h0.length]? = some (.lst (S.map pr)) →
    ∃ h', h0 <+: h' ∧ ((∃ m' q4 q5, whileGo tB (bB V) fuel (envB d0 a h0.length m p4 p5) h = .nx (envB d0 a h0.length m' q4 q5) h' ∧ decide (m' ≤ 200) = okB fit m S) ∨ (whileGo tB (bB V) fuel (envB d0 a h0.length m p4 p5) h = .ret (.bl false) h' ∧ okB fit m S = false)) := by
  intro fuel
  induction fuel with
  | zero => intro S m h p4 p5 h1 h2; omega
  | succ fuel ih =>
    intro S m h p4 p5 h1 h2 hs hq p e
    have t := tB_ok (d0 := d0) (a := a) (m := m) (p4 := p4) (p5 := p5) e
    have go : whileGo tB (bB V) (fuel + 1) (envB d0 a h0.length m p4 p5) h = if (!(S.map pr).isEmpty && decide (m ≤ 200)) = true then match bB V (envB d0 a h0.length m p4 p5) h with
      | .nx ε2 h2 => whileGo tB (bB V) fuel ε2 h2
      | .cnt ε2 h2 => whileGo tB (bB V) fuel ε2 h2
      | .brk ε2 h2 => .nx ε2 h2
      | r => r
      else .nx (envB d0 a h0.length m p4 p5) h := by
      rw [whileGo, t, Res.st_ok]
      try (generalize bB V (envB d0 a h0.length m p4 p5) h = R; cases R <;> rfl)
    rcases List.eq_nil_or_concat S with rfl | ⟨T, x, rfl⟩
    · refine ⟨h, p, .inl ⟨m, p4, p5, ?_, okB_nil.symm⟩⟩
      rw [go]
      rfl
    · by_cases hm : m ≤ 200
      · obtain ⟨d, r⟩ := x
        rw [List.concat_eq_append] at e hs hq go ⊢
        have ne : (!((T ++ [(d, r)]).map pr).isEmpty && decide (m ≤ 200)) = true := by
          rw [decide_eq_true hm]
          simp
        rw [if_pos ne] at go
        obtain ⟨fd, hr⟩ := hq (d, r) (by simp)
        rw [List.length_append] at hs
        have hT : T.length ≤ 40 * m := by simpa using hs
        have b := bB_ok (V := V) hF (d0 := d0) (m := m) (p4 := p4) (p5 := p5) hr rfl p fd e (by omega)
        rw [okB_top hm]
        have leaf : (if fit d = true then ∃ h', h0 <+: h' ∧ h'[h0.length]? = some (.lst (T.map pr)) ∧ ∃ q4 q5, bB V (envB d0 a h0.length m p4 p5) h = .nx (envB d0 a h0.length (m + 1) q4 q5) h' else ∃ h', h0 <+: h' ∧ bB V (envB d0 a h0.length m p4 p5) h = .ret (.bl false) h') →
            ∃ h', h0 <+: h' ∧ ((∃ m' q4 q5, whileGo tB (bB V) (fuel + 1) (envB d0 a h0.length m p4 p5) h = .nx (envB d0 a h0.length m' q4 q5) h' ∧ decide (m' ≤ 200) = if fit d = true then okB fit (m + 1) T else false) ∨ (whileGo tB (bB V) (fuel + 1) (envB d0 a h0.length m p4 p5) h = .ret (.bl false) h' ∧ (if fit d = true then okB fit (m + 1) T else false) = false)) := fun b => by
          by_cases c : fit d = true
          · rw [if_pos c] at b
            obtain ⟨h', p', e', q4, q5, g⟩ := b
            rw [g] at go
            rw [go, if_pos c]
            exact ih T (m + 1) h' q4 q5 (by omega) (by omega) (by omega) (fun q hq' => hq q (List.mem_append_left _ hq')) p' e'
          · rw [if_neg c] at b
            obtain ⟨h', p', g⟩ := b
            rw [g] at go
            rw [go, if_neg c]
            exact ⟨h', p', .inr ⟨rfl, rfl⟩⟩
        cases r with
        | zero => exact leaf b
        | succ r =>
          cases c : rowD d with
          | none =>
            simp only [c] at b
            exact leaf b
          | some ps =>
            simp only [c] at b
            obtain ⟨hp, fp, w, _⟩ := rowD_parts fd c
            obtain ⟨h', p', e', q4, q5, g⟩ := b
            rw [g] at go
            rw [go]
            refine ih (T ++ ps.map fun p => (p, r)) (m + 1) h' q4 q5 (by omega) (by omega) (by rw [List.length_append, List.length_map]; omega) (fun q hq' => ?_) p' e'
            rcases List.mem_append.mp hq' with i | i
            · exact hq q (List.mem_append_left _ i)
            · obtain ⟨y, hy, rfl⟩ := List.mem_map.mp i
              exact ⟨fp y hy, by show r ≤ 8; omega⟩
      · refine ⟨h, p, .inl ⟨m, p4, p5, ?_, ?_⟩⟩
        · rw [go, if_neg (by rw [decide_eq_false hm, Bool.and_false]; exact Bool.false_ne_true)]
        · rw [okB_over (by omega), decide_eq_false hm]
theorem built_ok {V : FV} {a : Addr} {fit : D → Bool} (hF : Fit V a fit) {d : D} {h : AH} (f : Fair h d) : ∃ h', h <+: h' ∧ f_is_built_of V [d, .own a] h = .ok (.bl (okB fit 0 [(d, 8)])) h' := by
  obtain ⟨h', p, q⟩ := loopB (V := V) hF (d0 := d) (h0 := h) 300 [(d, 8)] 0 (h ++ [.lst [pr (d, 8)]]) none none (by omega) (by omega) (by simp) (by simpa using f) (List.prefix_append _ _) (by simp)
  refine ⟨h', p, runB_ret rfl ?_⟩
  rw [built_b]
  have s1 := sSet_eq (i := 2) (ε := [some d, some (.own a), none, none, none, none, none]) (h := h) (cLst_eq (ds := [pr (d, 8)]) (A := aCons (cTup (aCons (cVar 0) (aCons (cC (.int 1)) aNil))) aNil) (h1 := h) (aCons_eq (cTup_eq (ds := [d, .int 1]) rfl (by rw [sizeLine_eq]; exact Nat.le_of_ble_eq_true rfl)) aNil_eq) (by rw [sizeLine_eq]; exact Nat.le_of_ble_eq_true rfl))
  refine (sSeq_nx s1).trans ((sSeq_nx (sSet_eq rfl)).trans ?_)
  rcases q with ⟨m', q4, q5, e, c⟩ | ⟨e, c⟩
  · refine (sSeq_nx (a := sWhile 300 tB (bB V)) e).trans (sRet_eq ((cBin_eq rfl rfl).trans ?_))
    show Res.ok (D.bl (decide ((m' : Int) ≤ 200))) h' = _
    rw [← c]
    congr 2
    exact decide_eq_decide.mpr (by omega)
  · rw [c]
    exact sSeq_ret (a := sWhile 300 tB (bB V)) e
theorem isWorth_ok {V : FV} {d : D} {h : AH} (f : Fair h d) : ∃ h', h <+: h' ∧ f_is_worth V [d] h = .ok (.bl (okB singleB 0 [(d, 8)])) h' := by
  obtain ⟨h', p, e⟩ := built_ok (fit_single V) f
  exact ⟨h', p, runB_ret rfl (sRet_eq ((cFn_eq (aCons_eq rfl (aCons_eq rfl aNil_eq))).trans e))⟩
theorem isPlain_ok {V : FV} (dV : V.a_is_single ≠ V.a_is_plain_single) {d : D} {h : AH} (f : Fair h d) : ∃ h', h <+: h' ∧ f_is_plain V [d] h = .ok (.bl (okB plainSingle 0 [(d, 8)])) h' := by
  obtain ⟨h', p, e⟩ := built_ok (fit_plain dV) f
  exact ⟨h', p, runB_ret rfl (sRet_eq ((cFn_eq (aCons_eq rfl (aCons_eq rfl aNil_eq))).trans e))⟩
end K02

namespace K02
open Mi L2 PySem PySem.Spec PyProof.Rows
/-! ### the text 'row' with its signs is of the text row alone -/
theorem signs_app (a b : Str) : (a ++ b).cps.toList = a.cps.toList ++ b.cps.toList := Array.toList_append
theorem repr_signs (x : Str) : (reprText x).cps.toList = reprQuote x :: (x.cps.toList.flatMap (Builtin.Str.reprChar (reprQuote x)) ++ [reprQuote x]) := by
  have go : ∀ (l : List Nat) (acc : Array Nat) (q : Nat), (l.foldl (fun out c => out ++ (Builtin.Str.reprChar q c).toArray) acc).toList = acc.toList ++ l.flatMap (Builtin.Str.reprChar q) := fun l => by
    induction l with
    | nil => intro acc q; simp
    | cons c r ih =>
      intro acc q
      rw [List.foldl_cons, ih, List.flatMap_cons]
      simp
  unfold reprText
  rw [Array.toList_push, ← Array.foldl_toList, go]
  simp
theorem char_one (q c : Nat) : Builtin.Str.reprChar q c = [c] ∨ ∃ t, Builtin.Str.reprChar q c = 92 :: t := by
  unfold Builtin.Str.reprChar
  repeat' split
  all_goals first | exact .inl rfl | exact .inr ⟨_, rfl⟩
theorem flat_back {q : Nat} : ∀ {l w : List Nat}, 92 ∉ w → l.flatMap (Builtin.Str.reprChar q) = w → l = w
  | [], w, _, e => e
  | c :: r, w, hw, e => by
    rw [List.flatMap_cons] at e
    rcases char_one q c with k | ⟨t, k⟩
    · rw [k] at e
      subst e
      congr 1
      exact flat_back (fun m => hw (List.mem_append_right _ m)) rfl
    · rw [k] at e
      subst e
      exact absurd (List.mem_append_left _ List.mem_cons_self) hw
theorem str_row {x : Str} : reprText x = "'row'" ↔ x = "row" := by
  constructor
  · intro e
    have h := congrArg (fun y : Str => y.cps.toList) e
    simp only [repr_signs] at h
    have r : (Str.ofString "'row'").cps.toList = 39 :: ([114, 111, 119] ++ [39]) := by decide +kernel
    rw [show (("'row'" : String) : Str).cps.toList = 39 :: ([114, 111, 119] ++ [39]) from r] at h
    obtain ⟨h1, h2⟩ := List.cons.inj h
    rw [h1] at h2
    have h3 := flat_back (by decide) (List.append_cancel_right h2)
    have h4 : x.cps = (Str.ofString "row").cps := Array.toList_inj.mp (h3.trans (by decide +kernel))
    cases x
    exact congrArg Str.mk h4
  · rintro rfl
    decide +kernel
def head (x : Str) : Option Nat := x.cps.toList.head?
theorem head_app {a b : Str} {c : Nat} (e : head a = some c) : head (a ++ b) = some c := by
  unfold head at *
  rw [signs_app, List.head?_append, e]
  rfl
theorem head_row : head "'row'" = some 39 := by decide +kernel
theorem ne_row {x : Str} {c : Nat} (e : head x = some c) (h : c ≠ 39) : x ≠ "'row'" := by
  rintro rfl
  rw [head_row] at e
  cases e
  exact h rfl
theorem head_int (i : Int) : ∃ c, head (Str.ofString (toString i)) = some c ∧ c ≠ 39 := by
  cases i with
  | ofNat m =>
    have s := PySem.W.KIN.signs_num m
    cases t : Nat.toDigits 10 m with
    | nil =>
      have h := Nat.toDigits_ne_nil (b := 10) (n := m)
      exact absurd t h
    | cons c r =>
      have d : c.isDigit = true := Nat.isDigit_of_mem_toDigits (b := 10) (n := m) (by decide) (by decide) (by rw [t]; exact List.mem_cons_self)
      refine ⟨c.toNat, ?_, ?_⟩
      · show (Str.ofString (toString ((m : Nat) : Int))).cps.toList.head? = _
        rw [s, t]
        rfl
      · intro z
        have : c = '\'' := Char.ext (UInt32.toNat_inj.mp z)
        subst this
        exact absurd d (by decide)
  | negSucc m =>
    refine ⟨45, ?_, by decide⟩
    show (Str.ofString (toString (Int.negSucc m))).cps.toList.head? = _
    rw [signs_ofString]
    show (List.map Char.toNat (("-" : String) ++ Nat.repr (m + 1)).toList).head? = some 45
    rw [String.toList_append, List.map_append, List.head?_append]
    rfl
theorem head_from {c : Nat} : ∀ (ts : List Str) (k : Nat) (acc : Str), head acc = some c → head (textFrom k acc ts) = some c
  | [], k, acc, e => e
  | t :: r, k, acc, e => by
    unfold textFrom
    exact head_from r (k + 1) _ (head_app (head_app e))
theorem row_text {p : PyData} : p.shown = "'row'" ↔ p = .str "row" := by
  constructor
  · intro e
    cases p with
    | str x => rw [PyData.shown] at e; rw [str_row.mp e]
    | none => rw [PyData.shown] at e; exact absurd e (by decide +kernel)
    | bool b => rw [PyData.shown] at e; cases b <;> exact absurd e (by decide +kernel)
    | int i =>
      rw [PyData.shown] at e
      obtain ⟨c, h1, h2⟩ := head_int i
      exact absurd e (ne_row h1 h2)
    | list xs =>
      rw [PyData.shown] at e
      exact absurd e (ne_row (head_app (head_from _ 0 _ (c := 91) (by decide +kernel))) (by decide))
    | tuple xs =>
      rw [PyData.shown] at e
      exact absurd e (ne_row (head_app (head_app (c := 40) (by decide +kernel))) (by decide))
    | dict xs =>
      rw [PyData.shown] at e
      exact absurd e (ne_row (head_app (head_app (c := 123) (by decide +kernel))) (by decide))
  · rintro rfl
    rw [PyData.shown, str_row]
end K02

namespace K02
open Mi L2 PySem PySem.Spec PyProof.Rows
theorem between_iff (c : Nat) : between "a" "z" c = decide (97 ≤ c ∧ c ≤ 122) := by
  have ea : (("a" : Str).cps.toList : List Nat) = [97] := by decide +kernel
  have ez : (("z" : Str).cps.toList : List Nat) = [122] := by decide +kernel
  unfold between
  have l1 : ([c] : List Nat) < [97] ↔ c < 97 := by rw [List.cons_lt_cons_iff]; simp
  have l2 : ([122] : List Nat) < [c] ↔ 122 < c := by rw [List.cons_lt_cons_iff]; simp
  rw [ea, ez, Bool.eq_iff_iff]
  simp only [Bool.and_eq_true, Bool.not_eq_true', decide_eq_false_iff_not, decide_eq_true_eq, l1, l2]
  omega
theorem find_iff (c : Nat) : decide (Txt.find ("abcdefghijklmnopqrstuvwxyz" : Str) ⟨#[c]⟩ < 0) = !between "a" "z" c := by
  have el : (("abcdefghijklmnopqrstuvwxyz" : Str).cps.toList : List Nat) = List.range' 97 26 := by decide +kernel
  have f1 := StrLaws.found_one ("abcdefghijklmnopqrstuvwxyz" : Str) c
  rw [el] at f1
  have m : decide (c ∈ List.range' 97 26) = between "a" "z" c := by
    rw [between_iff]
    apply decide_eq_decide.mpr
    rw [List.mem_range'_1]
    omega
  rw [m] at f1
  unfold Txt.find
  rw [← f1]
  cases Builtin.Str.occurrences ("abcdefghijklmnopqrstuvwxyz" : Str) ⟨#[c]⟩ 0 ("abcdefghijklmnopqrstuvwxyz" : Str).length 1 with
  | nil => rfl
  | cons i r =>
    show decide (((i : Nat) : Int) < 0) = false
    exact decide_eq_false fun z => by omega
/-! ### xs == [] -/
theorem eq2_nil {h : AH} {n m : Nat} {xs : List D} (hn : h[n]? = some (.lst xs)) (hm : h[m]? = some (.lst [])) : opEq2 (.ref n) (.ref m) h = .ok (.bl xs.isEmpty) h := by
  cases xs with
  | nil =>
    have e : eqX (.ref n) (.ref m) h = none := by simp [eqX, lstD, hn, hm]
    unfold opEq2
    rw [e]
    exact opEq_strs (ys := []) hn hm (by simp)
  | cons x xs =>
    have e : eqX (.ref n) (.ref m) h = some false := by simp [eqX, lstD, hn, hm]
    unfold opEq2
    rw [e]
    rfl
/-- [..] == [] -/
theorem lst_nil {F : EF} {ε : AEnv} {h : AH} {xs : List D} (e : F ε h = .ok (.ref h.length) (h ++ [.lst xs])) : ∃ h', h <+: h' ∧ cBin opEq2 F (cLst aNil) ε h = .ok (.bl xs.isEmpty) h' := by
  refine ⟨_, ?_, (cBin_eq e (cLst_eq aNil_eq (Nat.zero_le _))).trans (eq2_nil (get_old get_last) get_last)⟩
  rw [List.append_assoc]
  exact List.prefix_append _ _
/-! ### is_label -/
theorem inV_ints (i : Int) : ∀ js : List Int, inV (.int i) (js.map V.int) = js.any fun j => j == i
  | [] => rfl
  | j :: js => by
    show (eqV (.int j) (.int i) || inV (.int i) (js.map V.int)) = _
    rw [inV_ints i js]
    rfl
theorem flat_ints : ∀ js : List Int, omap flat (js.map D.int) = some (js.map V.int)
  | [] => rfl
  | j :: js => by
    simp only [List.map_cons, omap, flat, flat_ints js]
theorem in_ints {h : AH} {i : Int} {js : List Int} : inD (.int i) (.tup (js.map D.int)) h = some (js.any fun j => j == i) := by
  unfold inD
  simp only [seqD, flat, flat_ints, inV_ints]
theorem opIn_ints {h : AH} {i : Int} {js : List Int} : opIn2 (.int i) (.tup (js.map D.int)) h = .ok (.bl (js.any fun j => j == i)) h := by
  have e : inX (.int i) (.tup (js.map D.int)) h = false := rfl
  unfold opIn2
  rw [if_neg (by rw [e]; exact Bool.false_ne_true)]
  unfold opIn
  rw [in_ints]
theorem opNotIn_ints {h : AH} {i : Int} {js : List Int} : opNotIn2 (.int i) (.tup (js.map D.int)) h = .ok (.bl (!(js.any fun j => j == i))) h := by
  have e : inX (.int i) (.tup (js.map D.int)) h = false := rfl
  unfold opNotIn2
  rw [if_neg (by rw [e]; exact Bool.false_ne_true)]
  unfold opNotIn
  rw [in_ints]
theorem label_ok {h : AH} {d : D} (f : Fair h d) : ∃ h', h <+: h' ∧ f_l_is_label [d] h = .ok (.bl (nameD d)) h' := by
  have q := isi_t (ε := [some d, none]) (F := cVar 0) (T := "str") rfl f (by simp)
  have no : isT "str" d = false → ∃ h', h <+: h' ∧ f_l_is_label [d] h = .ok (.bl false) h' := fun e => by
    rw [e] at q
    exact ⟨h, List.prefix_refl _, runB_ret rfl (sSeq_ret ((sIf_t (tOr_t (tNot_eq q))).trans (sRet_eq rfl)))⟩
  cases f with
  | str x hx ho =>
    have lx : x.cps.toList.length = x.length := (len_list x).symm
    have n1 : tVal (cBin opNotIn2 (cCall fLen (aCons (cVar 0) aNil)) (cTup (aCons (cC (.int 1)) (aCons (cC (.int 2)) (aCons (cC (.int 3)) (aCons (cC (.int 4)) (aCons (cC (.int 5)) (aCons (cC (.int 6)) (aCons (cC (.int 7)) (aCons (cC (.int 8)) aNil)))))))))) [some (.str x), none] h = .ok (!(([1, 2, 3, 4, 5, 6, 7, 8] : List Int).any fun j => j == x.length)) h :=
      tVal_eq ((cBin_eq (len_strE (F := cVar 0) rfl hx) (cTup_eq (ds := ([1, 2, 3, 4, 5, 6, 7, 8] : List Int).map D.int) rfl (by rw [sizeLine_eq]; exact Nat.le_of_ble_eq_true rfl))).trans opNotIn_ints)
    have e0 : (([1, 2, 3, 4, 5, 6, 7, 8] : List Int).any fun j => j == x.length) = (decide (1 ≤ x.length) && decide (x.length ≤ 8)) := by
      rw [Bool.eq_iff_iff]
      simp only [List.any_cons, List.any_nil, Bool.or_eq_true, beq_iff_eq, Bool.and_eq_true, decide_eq_true_eq, Bool.or_false]
      omega
    rw [e0] at n1
    have t2 := (tOr_f (tNot_eq q)).trans n1
    cases c : (decide (1 ≤ x.length) && decide (x.length ≤ 8)) with
    | false =>
      rw [c] at t2
      have e : nameD (.str x) = false := by show nameB x = false; unfold nameB; rw [c, Bool.false_and]
      rw [e]
      exact ⟨h, List.prefix_refl _, runB_ret rfl (sSeq_ret ((sIf_t t2).trans (sRet_eq rfl)))⟩
    | true =>
      rw [c] at t2
      have e : nameD (.str x) = x.cps.toList.all (between "a" "z") := by show nameB x = _; unfold nameB; rw [c, Bool.true_and]
      rw [e]
      have cmp : cComp (iAny (cVar 0)) (gN 1) (tVal (cBin opLt (cMeth "str" mFind (cC (.str ("abcdefghijklmnopqrstuvwxyz" : Str))) (aCons (cVar 1) aNil)) (cC (.int 0)))) (cVar 1) [1] [some (.str x), none] h =
          .ok (.ref h.length) (h ++ [.lst ((x.cps.toList.filter fun c => !between "a" "z" c).map fun c => D.str ⟨#[c]⟩)]) := by
        refine (cComp_filter (ds := x.cps.toList.map fun c => .str ⟨#[c]⟩) rfl (by rw [List.length_map, lx, sizeLine_eq]; omega) (fun d => [some (.str x), some d]) (fun d => match d with | .str y => decide (Txt.find ("abcdefghijklmnopqrstuvwxyz" : Str) y < 0) | _ => false) id
          (fun d _ h => rfl) (fun d hd h => ?_) (fun d _ h => rfl)).trans ?_
        · obtain ⟨c, _, rfl⟩ := List.mem_map.mp hd
          exact tVal_eq ((cBin_eq ((cMeth_eq (T := "str") (d := .str ("abcdefghijklmnopqrstuvwxyz" : Str)) rfl rfl (aCons_eq rfl aNil_eq)).trans rfl) rfl).trans rfl)
        · rw [List.filter_map, List.map_id]
          congr 4
          refine congrArg (List.map _) ?_
          apply List.filter_congr
          intro c _
          exact find_iff c
      have emp : ((x.cps.toList.filter fun c => !between "a" "z" c).map fun c => D.str ⟨#[c]⟩).isEmpty = x.cps.toList.all (between "a" "z") := by
        rw [List.isEmpty_map, Bool.eq_iff_iff, List.isEmpty_iff, List.filter_eq_nil_iff, List.all_eq_true]
        simp
      obtain ⟨h', p, z⟩ := lst_nil cmp
      rw [emp] at z
      exact ⟨h', p, runB_ret rfl ((sSeq_nx ((sIf_f t2).trans rfl)).trans (sRet_eq z))⟩
  | _ => exact no rfl
end K02

namespace K02
open Mi L2 PySem PySem.Spec PyProof.Rows
/-- [y for d in ds if b]: y, b may make new things -/
theorem cComp_grow {iF : IF} {g : TF'} {t : TF} {F : EF} {own : List Nat} {ε : AEnv} {h h1 : AH} {ds : List D} (hi : iF ε h = .ok (.fix ds) h1) (hs : ds.length < sizeLine) (e : D → AEnv) (b : D → Bool) (y : D → D)
    (hg : ∀ d ∈ ds, ∀ h, g d (wipeA ε own) h = some (e d)) (ht : ∀ d ∈ ds, ∀ h, h1 <+: h → ∃ h', h <+: h' ∧ t (e d) h = .ok (b d) h') (hF : ∀ d ∈ ds, b d = true → ∀ h, h1 <+: h → ∃ h', h <+: h' ∧ F (e d) h = .ok (y d) h') :
    ∃ h', h1 <+: h' ∧ h'[h1.length]? = some (.lst ((ds.filter b).map y)) ∧ cComp iF g t F own ε h = .ok (.ref h1.length) h' := by
  have tk : ∀ i (hi : i < ds.length), ds.take (i + 1) = ds.take i ++ [ds[i]] := fun i hi => by rw [List.take_succ, List.getElem?_eq_getElem hi]; rfl
  obtain ⟨acc, h', e1, rfl, p, k⟩ := cComp_inv (it := .fix ds) (g := g) (t := t) (F := F) (own := own) hi (fun i acc h2 => acc = ((ds.take i).filter b).map y ∧ h1 <+: h2 ∧ h2[h1.length]? = some (.lst acc)) ds.length rfl hs
    (by rintro i acc h2 ⟨_, _, k⟩; exact k)
    (by
      rintro i acc h2 ⟨rfl, _⟩
      rw [List.length_map]
      exact Nat.le_trans (List.length_filter_le _ _) (by rw [List.length_take]; exact Nat.min_le_left _ _))
    ⟨by simp, List.prefix_append _ _, by simp⟩
    (by
      rintro i acc h2 hlt ⟨rfl, p, k⟩
      have hm : ds[i] ∈ ds := List.getElem_mem hlt
      obtain ⟨h3, p3, e3⟩ := ht _ hm h2 p
      refine ⟨ds[i], e ds[i], b ds[i], h3, by simp [AIt.item, hlt], hg _ hm _, e3, ?_⟩
      cases q : b ds[i] with
      | false => exact .inl ⟨rfl, by rw [tk i hlt, List.filter_append]; simp [q], p.trans p3, getElem_pre p3 k⟩
      | true =>
        obtain ⟨h4, p4, e4⟩ := hF _ hm q h3 (p.trans p3)
        have k4 := getElem_pre p4 (getElem_pre p3 k)
        refine .inr ⟨rfl, y ds[i], h4, e4, k4, by rw [tk i hlt, List.filter_append]; simp [q], ?_, ?_⟩
        · obtain ⟨t4, rfl⟩ := (p.trans p3).trans p4
          rw [List.set_append_right (h := Nat.le_refl _)]
          exact List.prefix_append _ _
        · rw [List.getElem?_set_self (List.getElem?_eq_some_iff.mp k4).1])
    (by rintro acc h2 _; rfl)
  rw [List.take_length] at k
  exact ⟨h', p, k, e1⟩
theorem lst_nil2 {F : EF} {ε : AEnv} {h h1 : AH} {n : Nat} {xs : List D} (e : F ε h = .ok (.ref n) h1) (k : h1[n]? = some (.lst xs)) : ∃ h', h1 <+: h' ∧ cBin opEq2 F (cLst aNil) ε h = .ok (.bl xs.isEmpty) h' :=
  ⟨_, List.prefix_append _ _, (cBin_eq e (cLst_eq aNil_eq (Nat.zero_le _))).trans (eq2_nil (get_old k) get_last)⟩
theorem chain_lt {ε : AEnv} {h : AH} {F G I : EF} {a b c : Int} (e1 : F ε h = .ok (.int a) h) (e2 : G ε h = .ok (.int b) h) (e3 : I ε h = .ok (.int c) h) : cChain opLt opLt F G I ε h = .ok (.bl (decide (a < b) && decide (b < c))) h := by
  unfold cChain
  rw [e1, Res.bind_ok, e2, Res.bind_ok]
  have q : opLt (.int a) (.int b) h = .ok (.bl (decide (a < b))) h := rfl
  rw [q, Res.bind_ok]
  cases c1 : decide (a < b) with
  | false => rfl
  | true =>
    show (I ε h).bind _ = _
    rw [e3, Res.bind_ok]
    rfl
theorem between_plain (c : Nat) : between " " "~" c = decide (32 ≤ c ∧ c ≤ 126) := by
  have ea : ((" " : Str).cps.toList : List Nat) = [32] := by decide +kernel
  have ez : (("~" : Str).cps.toList : List Nat) = [126] := by decide +kernel
  unfold between
  have l1 : ([c] : List Nat) < [32] ↔ c < 32 := by rw [List.cons_lt_cons_iff]; simp
  have l2 : ([126] : List Nat) < [c] ↔ 126 < c := by rw [List.cons_lt_cons_iff]; simp
  rw [ea, ez, Bool.eq_iff_iff]
  simp only [Bool.and_eq_true, Bool.not_eq_true', decide_eq_false_iff_not, decide_eq_true_eq, l1, l2]
  omega
theorem plainSign_not (c : Nat) : (!(decide ((31 : Int) < c) && decide ((c : Int) < 127)) || ([37, 39] : List Int).any fun j => j == c) = !plainSign c := by
  unfold plainSign
  rw [between_plain]
  have : (decide ((31 : Int) < c) && decide ((c : Int) < 127)) = decide (32 ≤ c ∧ c ≤ 126) := by
    rw [Bool.eq_iff_iff]
    simp only [Bool.and_eq_true, decide_eq_true_eq]
    omega
  rw [this]
  cases decide (32 ≤ c ∧ c ≤ 126) <;> cases (([37, 39] : List Int).any fun j => j == c) <;> rfl
/-! ### leaf_looked -/
def flatD : D → Bool
  | .tup _ => false
  | .ref _ => false
  | _ => true
abbrev cmpS : EF := cComp (iAny (cVar 0)) (gN 3) (tOr' (tNot' (tVal (cChain opLt opLt (cC (.int 31)) (cCall fOrd (aCons (cVar 3) aNil)) (cC (.int 127))))) (tVal (cBin opIn2 (cCall fOrd (aCons (cVar 3) aNil)) (cTup (aCons (cC (.int 37)) (aCons (cC (.int 39)) aNil)))))) (cVar 3) [3]
theorem cmpS_ok {h : AH} {x : Str} (hx : x.length ≤ 100000) : ∃ h', h <+: h' ∧ cBin opEq2 cmpS (cLst aNil) [some (.str x), none, none, none] h = .ok (.bl (x.cps.toList.all plainSign)) h' := by
  have lx : x.cps.toList.length = x.length := (len_list x).symm
  have cmp : cmpS [some (.str x), none, none, none] h = .ok (.ref h.length) (h ++ [.lst ((x.cps.toList.filter fun c => !plainSign c).map fun c => D.str ⟨#[c]⟩)]) := by
    refine (cComp_filter (ds := x.cps.toList.map fun c => .str ⟨#[c]⟩) rfl (by rw [List.length_map, lx, sizeLine_eq]; omega) (fun d => [some (.str x), none, none, some d]) (fun d => match d with | .str y => !plainSign (y.cps.getD 0 0) | _ => false) id
      (fun d _ h => rfl) (fun d hd h => ?_) (fun d _ h => rfl)).trans ?_
    · obtain ⟨c, _, rfl⟩ := List.mem_map.mp hd
      have eo : cCall fOrd (aCons (cVar 3) aNil) [some (.str x), none, none, some (.str ⟨#[c]⟩)] h = .ok (.int c) h := rfl
      have a1 := tNot_eq (tVal_eq (chain_lt (F := cC (.int 31)) (I := cC (.int 127)) rfl eo rfl))
      have a2 := tVal_eq ((cBin_eq eo (cTup_eq (A := aCons (cC (.int 37)) (aCons (cC (.int 39)) aNil)) (ds := ([37, 39] : List Int).map D.int) rfl (by rw [sizeLine_eq]; exact Nat.le_of_ble_eq_true rfl))).trans (opIn_ints (h := h) (i := c) (js := [37, 39])))
      have z : (!plainSign ((⟨#[c]⟩ : Str).cps.getD 0 0)) = !plainSign c := rfl
      show _ = Res.ok (!plainSign ((⟨#[c]⟩ : Str).cps.getD 0 0)) h
      rw [z, ← plainSign_not]
      cases k : (!(decide ((31 : Int) < c) && decide ((c : Int) < 127))) with
      | true => rw [k] at a1; exact (tOr_t a1).trans rfl
      | false => rw [k] at a1; exact (tOr_f a1).trans a2
    · rw [List.filter_map, List.map_id]
      rfl
  have emp : ((x.cps.toList.filter fun c => !plainSign c).map fun c => D.str ⟨#[c]⟩).isEmpty = x.cps.toList.all plainSign := by
    rw [List.isEmpty_map, Bool.eq_iff_iff, List.isEmpty_iff, List.filter_eq_nil_iff, List.all_eq_true]
    simp
  obtain ⟨h', p, z⟩ := lst_nil cmp
  rw [emp] at z
  exact ⟨h', p, z⟩
end K02

namespace K02
open Mi L2 PySem PySem.Spec PyProof.Rows
theorem eq_len {h h1 : AH} {ds : List D} {ε : AEnv} {F : EF} {n : Nat} (e : F ε h = .ok (.tup ds) h1) : tVal (cBin opEq2 (cCall fLen (aCons F aNil)) (cC (.int n))) ε h = .ok (decide (ds.length = n)) h1 := by
  refine tVal_eq ((cBin_eq (len_tupE e) rfl).trans ?_)
  show Res.ok (D.bl (decide ((ds.length : Int) = n))) h1 = _
  congr 2
  exact decide_eq_decide.mpr (by omega)
theorem eq_lenE {h h1 : AH} {ds : List D} {ε : AEnv} {F : EF} {n : Nat} (e : F ε h = .ok (.tup ds) h1) : cBin opEq2 (cCall fLen (aCons F aNil)) (cC (.int n)) ε h = .ok (.bl (decide (ds.length = n))) h1 := by
  refine (cBin_eq (len_tupE e) rfl).trans ?_
  show Res.ok (D.bl (decide ((ds.length : Int) = n))) h1 = _
  congr 2
  exact decide_eq_decide.mpr (by omega)
theorem at_k {h : AH} {ds : List D} {d : D} {k : Nat} (e : ds[k]? = some d) : opIx (.tup ds) (.int k) h = .ok d h := by
  have l : k < ds.length := (List.getElem?_eq_some_iff.mp e).1
  have q : atI ds (k : Int) = some d := by
    unfold atI ixN
    rw [if_pos (by omega), if_pos (by omega)]
    exact e
  simp only [opIx, seqD, q]
theorem at0 {h : AH} {w : D} {r : List D} : opIx (.tup (w :: r)) (.int 0) h = .ok w h := at_k (k := 0) rfl
theorem at1 {h : AH} {w k : D} {r : List D} : opIx (.tup (w :: k :: r)) (.int 1) h = .ok k h := at_k (k := 1) rfl
theorem at2 {h : AH} {w k l : D} {r : List D} : opIx (.tup (w :: k :: l :: r)) (.int 2) h = .ok l h := at_k (k := 2) rfl
theorem pow15 {ε : AEnv} {h : AH} : cBin opPow (cC (.int 10)) (cC (.int 15)) ε h = .ok (.int 1000000000000000) h := rfl
theorem cut1 {h : AH} {w : D} {r : List D} : cutD (.tup (w :: r)) (some 1) none h = .ok (.tup r) h := by
  have e : cutL (w :: r) (some 1) none = r := by
    simp [cutL, HT.sIx]
  show Res.ok (D.tup (cutL (w :: r) (some 1) none)) h = _
  rw [e]
/-- what leaf_looked says of what is no row -/
def leafR (d : D) : D := .tup [.bl (singleB d), .bl (flatD d)]
abbrev E0 (d : D) : AEnv := [some d, none, none, none]
theorem ret2 {F : EF} {ε : AEnv} {h h1 : AH} {a b : Bool} (e : F ε h = .ok (.bl a) h1) : sRet (cTup (aCons F (aCons (cC (.bl b)) aNil))) ε h = .ret (.tup [.bl a, .bl b]) h1 :=
  sRet_eq (cTup_eq (aCons_eq e (aCons_eq rfl aNil_eq)) (by rw [sizeLine_eq]; exact Nat.le_of_ble_eq_true rfl))
theorem leaf_tup {h : AH} {ds : List D} (hl : ds.length ≤ 1000) (hd : ∀ d ∈ ds, Fair h d) : ∃ h', h <+: h' ∧ f_l_leaf_looked [.tup ds] h = .ok (leafR (.tup ds)) h' := by
  have f : Fair h (.tup ds) := .tup ds hl hd
  have q1 := is_non f (ε := E0 (.tup ds)) (F := cVar 0) rfl
  have q2 := isi_t (ε := E0 (.tup ds)) (F := cVar 0) (T := "bool") rfl f (by simp)
  have q3 := isi_t (ε := E0 (.tup ds)) (F := cVar 0) (T := "int") rfl f (by simp)
  have q4 := isi_t (ε := E0 (.tup ds)) (F := cVar 0) (T := "str") rfl f (by simp)
  have q5 := isi_t (ε := E0 (.tup ds)) (F := cVar 0) (T := "tuple") rfl f (by simp)
  have n5 := tNot_eq q5
  have emp : tVal (cBin opEq2 (cVar 0) (cTup aNil)) (E0 (.tup ds)) h = .ok ds.isEmpty h := tVal_eq ((cBin_eq rfl (cTup_eq aNil_eq (Nat.zero_le _))).trans rfl)
  cases ds with
  | nil => exact ⟨h, List.prefix_refl _, runB_ret rfl ((sSeq_nx ((sIf_f ((tOr_f q1).trans q2)).trans rfl)).trans ((sSeq_nx ((sIf_f q3).trans rfl)).trans ((sSeq_nx ((sIf_f q4).trans rfl)).trans (sSeq_ret ((sIf_t ((tOr_f n5).trans (tOr_t emp))).trans (ret2 rfl))))))⟩
  | cons w r =>
    have fw : Fair h w := hd w List.mem_cons_self
    have w0 : ∀ {ε : AEnv}, ε[0]? = some (some (.tup (w :: r))) → cBin opIx (cVar 0) (cC (.int 0)) ε h = .ok w h := fun {ε} e => (cBin_eq (by unfold cVar; rw [e]) rfl).trans at0
    have q6 := tNot_eq (isi_t (ε := E0 (.tup (w :: r))) (T := "str") (w0 rfl) fw (by simp))
    have t4 := (tOr_f n5).trans ((tOr_f emp).trans q6)
    have go : ∀ {B : SF} {R : SR}, (∀ (e : B (E0 (.tup (w :: r))) h = R), sSeq (sIf (tOr' (tVal (cBin opIs (cVar 0) (cC .non))) (tVal (cCall fIsi (aCons (cVar 0) (aCons (cC (.ty "bool")) aNil))))) (sRet (cTup (aCons (cC (.bl true)) (aCons (cC (.bl true)) aNil)))) sPass) (sSeq (sIf (tVal (cCall fIsi (aCons (cVar 0) (aCons (cC (.ty "int")) aNil)))) (sRet (cTup (aCons (cBin opLe (cCall fAbs (aCons (cVar 0) aNil)) (cBin opPow (cC (.int 10)) (cC (.int 15)))) (aCons (cC (.bl true)) aNil)))) sPass) (sSeq (sIf (tVal (cCall fIsi (aCons (cVar 0) (aCons (cC (.ty "str")) aNil)))) (sRet (cTup (aCons (cAnd (cBin opLt (cCall fLen (aCons (cVar 0) aNil)) (cC (.int 21))) (cBin opEq2 cmpS (cLst aNil))) (aCons (cC (.bl true)) aNil)))) sPass) B)) (E0 (.tup (w :: r))) h = R) := fun {B R} e =>
      (sSeq_nx ((sIf_f ((tOr_f q1).trans q2)).trans rfl)).trans ((sSeq_nx ((sIf_f q3).trans rfl)).trans ((sSeq_nx ((sIf_f q4).trans rfl)).trans e))
    cases cw : isT "str" w with
    | false =>
      rw [cw] at t4
      have e : leafR (.tup (w :: r)) = .tup [.bl false, .bl false] := by
        have z : ∀ z, isStr z w = false := fun z => by cases w <;> first | rfl | cases cw
        have e1 : singleB (.tup (w :: r)) = false := by
          show (false || (thingB (.tup (w :: r)) || deedB (.tup (w :: r)))) = false
          have a : thingB (.tup (w :: r)) = false := by unfold thingB; split <;> first | rfl | (rename_i e; cases e; rw [z]; rfl)
          have b : deedB (.tup (w :: r)) = false := by unfold deedB; split <;> first | rfl | (rename_i e; cases e; rw [z, z]; rfl)
          rw [a, b]; rfl
        unfold leafR
        rw [e1]
        rfl
      rw [e]
      exact ⟨h, List.prefix_refl _, runB_ret rfl (go (sSeq_ret ((sIf_t t4).trans (ret2 rfl))))⟩
    | true =>
      rw [cw] at t4
      have t5a := tVal_eq (eq_str fw (ε := E0 (.tup (w :: r))) (z := "thing") (w0 rfl))
      have t5b := eq_len (h := h) (h1 := h) (ds := w :: r) (ε := E0 (.tup (w :: r))) (F := cVar 0) (n := 2) rfl
      have t5 : tAnd' (tVal (cBin opEq2 (cBin opIx (cVar 0) (cC (.int 0))) (cC (.str ("thing" : Str))))) (tVal (cBin opEq2 (cCall fLen (aCons (cVar 0) aNil)) (cC (.int 2)))) (E0 (.tup (w :: r))) h = .ok (isStr "thing" w && decide ((w :: r).length = 2)) h := by
        cases k : isStr "thing" w with
        | false => rw [k] at t5a; exact tAnd_f t5a
        | true => rw [k] at t5a; exact (tAnd_t t5a).trans t5b
      cases c5 : (isStr "thing" w && decide ((w :: r).length = 2)) with
      | true =>
        rw [c5] at t5
        rw [Bool.and_eq_true, decide_eq_true_eq] at c5
        obtain ⟨c6, c7⟩ := c5
        obtain ⟨k, rfl⟩ : ∃ k, r = [k] := by
          match r, c7 with
          | [k], _ => exact ⟨k, rfl⟩
        · have fk : Fair h k := hd k (by simp)
          have k1 : cBin opIx (cVar 0) (cC (.int 1)) (E0 (.tup [w, k])) h = .ok k h := (cBin_eq rfl rfl).trans at1
          have a1 := isi_ev (ε := E0 (.tup [w, k])) (T := "int") k1 fk (by simp)
          have a2 := cNot_bl (isi_ev (ε := E0 (.tup [w, k])) (T := "bool") k1 fk (by simp))
          have e : cAnd (cCall fIsi (aCons (cBin opIx (cVar 0) (cC (.int 1))) (aCons (cC (.ty "int")) aNil))) (cAnd (cNot (cCall fIsi (aCons (cBin opIx (cVar 0) (cC (.int 1))) (aCons (cC (.ty "bool")) aNil)))) (cChain opLe opLe (cC (.int 0)) (cBin opIx (cVar 0) (cC (.int 1))) (cBin opPow (cC (.int 10)) (cC (.int 15))))) (E0 (.tup [w, k])) h = .ok (.bl (numB k)) h := by
            cases k with
            | int i => exact (cAnd_t a1).trans ((cAnd_t a2).trans (chain_le rfl k1 pow15))
            | bl b => exact (cAnd_t a1).trans (cAnd_f a2)
            | _ => exact cAnd_f a1
          have sg : leafR (.tup [w, k]) = .tup [.bl (numB k), .bl false] := by
            have e1 : singleB (.tup [w, k]) = numB k := by
              show (false || ((isStr "thing" w && numB k) || false)) = _
              rw [c6]
              simp
            unfold leafR
            rw [e1]
            rfl
          rw [sg]
          exact ⟨h, List.prefix_refl _, runB_ret rfl (go ((sSeq_nx ((sIf_f t4).trans rfl)).trans (sSeq_ret ((sIf_t t5).trans ((sSeq_nx (sSet_eq (i := 1) e)).trans (ret2 rfl))))))⟩
      | false =>
        rw [c5] at t5
        have b1 := in_two fw (ε := E0 (.tup (w :: r))) (z1 := "deed") (z2 := "kind") (w0 rfl)
        have b2 := eq_lenE (h := h) (h1 := h) (ds := w :: r) (ε := E0 (.tup (w :: r))) (F := cVar 0) (n := 3) rfl
        have e := cAnd_bl b1 (fun _ => b2) fun _ => rfl
        have thn : thingB (.tup (w :: r)) = false := by
          unfold thingB
          split
          · rename_i w' k' e
            cases e
            have : isStr "thing" w = false := by simpa using c5
            rw [this, Bool.false_and]
          · rfl
        have sg : leafR (.tup (w :: r)) = .tup [.bl (deedB (.tup (w :: r))), .bl false] := by
          have e1 : singleB (.tup (w :: r)) = deedB (.tup (w :: r)) := by
            show (false || (thingB (.tup (w :: r)) || deedB (.tup (w :: r)))) = _
            rw [thn, Bool.false_or, Bool.false_or]
          unfold leafR
          rw [e1]
          rfl
        rw [sg]
        cases c8 : ((isStr "deed" w || isStr "kind" w) && decide ((w :: r).length = 3)) with
        | false =>
          rw [c8] at e
          have de : deedB (.tup (w :: r)) = false := by
            unfold deedB
            split
            · rename_i w' a b e
              cases e
              have : (isStr "deed" w || isStr "kind" w) = false := by simpa using c8
              rw [this, Bool.false_and]
            · rfl
          rw [de]
          exact ⟨h, List.prefix_refl _, runB_ret rfl (go ((sSeq_nx ((sIf_f t4).trans rfl)).trans ((sSeq_nx ((sIf_f t5).trans rfl)).trans ((sSeq_nx (sSet_eq (i := 1) e)).trans (ret2 (cAnd_f rfl))))))⟩
        | true =>
          rw [c8] at e
          rw [Bool.and_eq_true, decide_eq_true_eq] at c8
          obtain ⟨c9, c10⟩ := c8
          obtain ⟨h', p, kk, ec⟩ := cComp_grow (h := h) (h1 := h) (ε := [some (.tup (w :: r)), some (.bl true), none, none]) (iF := iAny (cCut (cVar 0) (oSome (cC (.int 1))) oNone)) (g := gN 2) (t := tNot' (tVal (cFn f_l_is_label (aCons (cVar 2) aNil)))) (F := cVar 2) (own := [2]) (ds := r)
            (by
              have c := (cCut_eq (lo := oSome (cC (.int 1))) (hi := oNone) (F := cVar 0) (ε := [some (.tup (w :: r)), some (.bl true), none, none]) (h := h) (d := .tup (w :: r)) rfl (oSome_eq (j := 1) rfl) rfl).trans cut1
              unfold iAny
              rw [c, Res.bind_ok]
              rfl)
            (by rw [sizeLine_eq]; simp at c10; omega) (fun d => [some (.tup (w :: r)), some (.bl true), some d, none]) (fun d => !nameD d) id (fun _ _ _ => rfl)
            (fun d hm h2 p2 => by
              obtain ⟨h3, p3, e3⟩ := label_ok ((hd d (List.mem_cons_of_mem _ hm)).pre p2)
              exact ⟨h3, p3, tNot_eq (tVal_eq ((cFn_eq (aCons_eq rfl aNil_eq)).trans e3))⟩)
            (fun d hm _ h2 p2 => ⟨h2, List.prefix_refl _, rfl⟩)
          obtain ⟨h3, p3, e3⟩ := lst_nil2 ec kk
          have de : ((r.filter fun d => !nameD d).map id).isEmpty = deedB (.tup (w :: r)) := by
            match r, c10 with
            | [a, b], _ =>
              show _ = ((isStr "deed" w || isStr "kind" w) && (nameD a && nameD b))
              rw [c9, Bool.true_and, List.map_id]
              cases k1 : nameD a <;> cases k2 : nameD b <;> simp [k1, k2]
          rw [de] at e3
          exact ⟨h3, p.trans p3, runB_ret rfl (go ((sSeq_nx ((sIf_f t4).trans rfl)).trans ((sSeq_nx ((sIf_f t5).trans rfl)).trans ((sSeq_nx (sSet_eq (i := 1) e)).trans (ret2 ((cAnd_t rfl).trans e3))))))⟩
theorem leaf_ok {h : AH} {d : D} (f : Fair h d) : ∃ h', h <+: h' ∧ f_l_leaf_looked [d] h = .ok (leafR d) h' := by
  have q1 := is_non f (ε := E0 d) (F := cVar 0) rfl
  have q2 := isi_t (ε := E0 d) (F := cVar 0) (T := "bool") rfl f (by simp)
  have q3 := isi_t (ε := E0 d) (F := cVar 0) (T := "int") rfl f (by simp)
  have q4 := isi_t (ε := E0 d) (F := cVar 0) (T := "str") rfl f (by simp)
  have q5 := isi_t (ε := E0 d) (F := cVar 0) (T := "tuple") rfl f (by simp)
  have boxy : (tNot' (tVal (cCall fIsi (aCons (cVar 0) (aCons (cC (.ty "tuple")) aNil))))) (E0 d) h = .ok true h → (tOr' (tVal (cBin opIs (cVar 0) (cC .non))) (tVal (cCall fIsi (aCons (cVar 0) (aCons (cC (.ty "bool")) aNil))))) (E0 d) h = .ok false h → isT "int" d = false → isT "str" d = false → leafR d = .tup [.bl false, .bl false] → ∃ h', h <+: h' ∧ f_l_leaf_looked [d] h = .ok (leafR d) h' := fun e1 e2 e3 e4 e5 => by
    rw [e3] at q3
    rw [e4] at q4
    rw [e5]
    exact ⟨h, List.prefix_refl _, runB_ret rfl ((sSeq_nx ((sIf_f e2).trans rfl)).trans ((sSeq_nx ((sIf_f q3).trans rfl)).trans ((sSeq_nx ((sIf_f q4).trans rfl)).trans (sSeq_ret ((sIf_t (tOr_t e1)).trans (ret2 rfl))))))⟩
  cases f with
  | non => exact ⟨h, List.prefix_refl _, runB_ret rfl (sSeq_ret ((sIf_t (tOr_t q1)).trans (ret2 rfl)))⟩
  | bl b => exact ⟨h, List.prefix_refl _, runB_ret rfl (sSeq_ret ((sIf_t ((tOr_f q1).trans q2)).trans (ret2 rfl)))⟩
  | int i =>
    have e : cBin opLe (cCall fAbs (aCons (cVar 0) aNil)) (cBin opPow (cC (.int 10)) (cC (.int 15))) (E0 (.int i)) h = .ok (.bl (singleB (.int i))) h := by
      refine (cBin_eq (x := .int (if i < 0 then -i else i)) ((cCall_eq (f := fAbs) (A := aCons (cVar 0) aNil) (ds := [.int i]) rfl).trans rfl) pow15).trans ?_
      show Res.ok (D.bl (decide ((if i < 0 then -i else i) ≤ 1000000000000000))) h = _
      congr 2
      show _ = ((decide (-1000000000000000 ≤ i) && decide (i ≤ 1000000000000000)) || (false || false))
      rw [Bool.eq_iff_iff]
      simp only [Bool.or_false, Bool.and_eq_true, decide_eq_true_eq]
      split <;> omega
    exact ⟨h, List.prefix_refl _, runB_ret rfl ((sSeq_nx ((sIf_f ((tOr_f q1).trans q2)).trans rfl)).trans (sSeq_ret ((sIf_t q3).trans (ret2 e))))⟩
  | str x hx ho =>
    have l : cBin opLt (cCall fLen (aCons (cVar 0) aNil)) (cC (.int 21)) (E0 (.str x)) h = .ok (.bl (decide (x.length ≤ 20))) h := by
      refine (cBin_eq (len_strE (F := cVar 0) rfl hx) rfl).trans ?_
      show Res.ok (D.bl (decide ((x.length : Int) < 21))) h = _
      congr 2
      exact decide_eq_decide.mpr (by omega)
    have sg : singleB (.str x) = (decide (x.length ≤ 20) && x.cps.toList.all plainSign) := by
      show ((decide (x.length ≤ 20) && x.cps.toList.all plainSign) || (false || false)) = _
      rw [Bool.or_false, Bool.or_false]
    have run : ∀ {h'}, cAnd (cBin opLt (cCall fLen (aCons (cVar 0) aNil)) (cC (.int 21))) (cBin opEq2 cmpS (cLst aNil)) (E0 (.str x)) h = .ok (.bl (singleB (.str x))) h' → f_l_leaf_looked [.str x] h = .ok (leafR (.str x)) h' := fun e =>
      runB_ret rfl ((sSeq_nx ((sIf_f ((tOr_f q1).trans q2)).trans rfl)).trans ((sSeq_nx ((sIf_f q3).trans rfl)).trans (sSeq_ret ((sIf_t q4).trans (ret2 e)))))
    rw [sg] at run
    cases c : decide (x.length ≤ 20) with
    | false =>
      rw [c] at l run
      exact ⟨h, List.prefix_refl _, run (cAnd_f l)⟩
    | true =>
      rw [c] at l run
      obtain ⟨h', p, z⟩ := cmpS_ok (h := h) hx
      exact ⟨h', p, run ((cAnd_t l).trans z)⟩
  | lst n ds e => exact boxy (tNot_eq q5) ((tOr_f q1).trans q2) rfl rfl rfl
  | dic n ds e => exact boxy (tNot_eq q5) ((tOr_f q1).trans q2) rfl rfl rfl
  | tup ds hl hd => exact leaf_tup hl hd
end K02

namespace K02
open Mi L2 PySem PySem.Spec PyProof.Rows
/-- the same over any row that stays as it is -/
theorem cComp_any {iF : IF} {it : AIt} {g : TF'} {t : TF} {F : EF} {own : List Nat} {ε : AEnv} {h h1 : AH} {ds : List D} (hi : iF ε h = .ok it h1) (hit : it.len = ds.length) (hat : ∀ h, h1 <+: h → (∀ i, i < ds.length → it.item i h = ds[i]?) ∧ it.fin h = true) (hs : ds.length < sizeLine) (e : D → AEnv) (b : D → Bool) (y : D → D)
    (hg : ∀ d ∈ ds, ∀ h, g d (wipeA ε own) h = some (e d)) (ht : ∀ d ∈ ds, ∀ h, h1 <+: h → ∃ h', h <+: h' ∧ t (e d) h = .ok (b d) h') (hF : ∀ d ∈ ds, b d = true → ∀ h, h1 <+: h → ∃ h', h <+: h' ∧ F (e d) h = .ok (y d) h') :
    ∃ h', h1 <+: h' ∧ h'[h1.length]? = some (.lst ((ds.filter b).map y)) ∧ cComp iF g t F own ε h = .ok (.ref h1.length) h' := by
  have tk : ∀ i (hi : i < ds.length), ds.take (i + 1) = ds.take i ++ [ds[i]] := fun i hi => by rw [List.take_succ, List.getElem?_eq_getElem hi]; rfl
  obtain ⟨acc, h', e1, rfl, p, k⟩ := cComp_inv (it := it) (g := g) (t := t) (F := F) (own := own) hi (fun i acc h2 => acc = ((ds.take i).filter b).map y ∧ h1 <+: h2 ∧ h2[h1.length]? = some (.lst acc)) ds.length hit hs
    (by rintro i acc h2 ⟨_, _, k⟩; exact k)
    (by
      rintro i acc h2 ⟨rfl, _⟩
      rw [List.length_map]
      exact Nat.le_trans (List.length_filter_le _ _) (by rw [List.length_take]; exact Nat.min_le_left _ _))
    ⟨by simp, List.prefix_append _ _, by simp⟩
    (by
      rintro i acc h2 hlt ⟨rfl, p, k⟩
      have hm : ds[i] ∈ ds := List.getElem_mem hlt
      obtain ⟨h3, p3, e3⟩ := ht _ hm h2 p
      refine ⟨ds[i], e ds[i], b ds[i], h3, by rw [(hat h2 p).1 i hlt, List.getElem?_eq_getElem hlt], hg _ hm _, e3, ?_⟩
      cases q : b ds[i] with
      | false => exact .inl ⟨rfl, by rw [tk i hlt, List.filter_append]; simp [q], p.trans p3, getElem_pre p3 k⟩
      | true =>
        obtain ⟨h4, p4, e4⟩ := hF _ hm q h3 (p.trans p3)
        have k4 := getElem_pre p4 (getElem_pre p3 k)
        refine .inr ⟨rfl, y ds[i], h4, e4, k4, by rw [tk i hlt, List.filter_append]; simp [q], ?_, ?_⟩
        · obtain ⟨t4, rfl⟩ := (p.trans p3).trans p4
          rw [List.set_append_right (h := Nat.le_refl _)]
          exact List.prefix_append _ _
        · rw [List.getElem?_set_self (List.getElem?_eq_some_iff.mp k4).1])
    (by rintro acc h2 ⟨_, p, _⟩; exact (hat h2 p).2)
  rw [List.take_length] at k
  exact ⟨h', p, k, e1⟩
theorem live_at {h1 : AH} {n : Nat} {ds : List D} (e : h1[n]? = some (.lst ds)) : ∀ h, h1 <+: h → (∀ i, i < ds.length → (AIt.live n ds.length).item i h = ds[i]?) ∧ (AIt.live n ds.length).fin h = true := fun h p => by
  have k := getElem_pre p e
  exact ⟨fun i _ => by simp [AIt.item, k], by simp [AIt.fin, k]⟩
theorem iAny_live {F : EF} {ε : AEnv} {h h1 : AH} {n : Nat} {ds : List D} (e : F ε h = .ok (.ref n) h1) (k : h1[n]? = some (.lst ds)) : iAny F ε h = .ok (.live n ds.length) h1 := by
  unfold iAny
  rw [e, Res.bind_ok]
  simp only [itOf, k]
/-- what looked tells: none, or worths, depth, plain -/
def encL : Option (Nat × Nat × Bool) → D
  | none => .non
  | some (a, b, c) => .tup [.int a, .int b, .bl c]
def encP : Option (Nat × Nat × Bool) → PyData
  | none => .none
  | some (a, b, c) => .tuple [.int a, .int b, .bool c]
theorem pd_enc (h : AH) (k : Nat) : ∀ rs : List (Option (Nat × Nat × Bool)), omap (pd (k + 1) h) (rs.map encL) = some (rs.map encP)
  | [] => rfl
  | r :: rs => by
    simp only [List.map_cons]
    unfold omap
    rw [pd_enc h k rs]
    cases r with
    | none => rfl
    | some x => cases k <;> rfl
theorem enc_shaped (rs : List (Option (Nat × Nat × Bool))) : SeqAt.shaped (.list (rs.map encP)) = true := by
  have h1 : PyData.canLayAll0 (rs.map encP) = true := by
    induction rs with
    | nil => simp [PyData.canLayAll0]
    | cons r rs ih => cases r <;> simp [PyData.canLayAll0, PyData.canLay0, encP, ih]
  have h2 : PyData.depthAll (rs.map encP) ≤ 1 := by
    induction rs with
    | nil => simp [PyData.depthAll]
    | cons r rs ih => cases r <;> simp [PyData.depthAll, PyData.depth, encP] at ih h1 ⊢ <;> first | exact ih h1 | exact Nat.max_le.mpr ⟨by simp, ih h1⟩ | (simp [PyData.canLayAll0, PyData.canLay0] at h1; exact ih h1)
  have h3 : (PyData.list (rs.map encP)).depth ≤ 64 := by
    have : (PyData.list (rs.map encP)).depth = PyData.depthAll (rs.map encP) + 1 := by simp [PyData.depth, Nat.add_comm]
    omega
  have h4 : (PyData.list (rs.map encP)).canLay0 = true := by simp only [PyData.canLay0, h1]
  show (_ && decide _) = true
  rw [h4, decide_eq_true h3]
  rfl
theorem any_none : ∀ rs : List (Option (Nat × Nat × Bool)), ((rs.map encP).any fun z => PyData.eqv z .none) = rs.any fun r => r.isNone
  | [] => rfl
  | r :: rs => by
    rw [List.map_cons, List.any_cons, List.any_cons, any_none rs]
    cases r <;> simp [encP, PyData.eqv]

/-- None in found -/
theorem none_in {h : AH} {n : Nat} {rs : List (Option (Nat × Nat × Bool))} (e : h[n]? = some (.lst (rs.map encL))) : opIn2 .non (.ref n) h = .ok (.bl (rs.any fun r => r.isNone)) h := by
  have x : inX .non (.ref n) h = false := rfl
  unfold opIn2
  rw [if_neg (by rw [x]; exact Bool.false_ne_true)]
  unfold opIn
  have i : inD .non (.ref n) h = some (rs.any fun r => r.isNone) := by
    unfold inD
    simp only [seqD, e, flat]
    cases k : omap flat (rs.map encL) with
    | some vs =>
      have f : ∀ (rs : List (Option (Nat × Nat × Bool))) (vs : List V), omap flat (rs.map encL) = some vs → inV .non vs = rs.any fun r => r.isNone := fun rs => by
        induction rs with
        | nil => intro vs k; cases k; rfl
        | cons r rs ih =>
          intro vs k
          simp only [List.map_cons] at k
          unfold omap at k
          split at k <;> first | (cases k; done) | skip
          rename_i y ys k1 k2
          cases k
          show (eqV y .non || inV .non ys) = _
          rw [ih ys k2]
          cases r with
          | none => cases k1; rfl
          | some t => cases k1
      simp only [f rs vs k]
    | none =>
      have p1 : pd 66 h (.ref n) = some (.list (rs.map encP)) := pd_lst e (pd_enc h 64 rs)
      have p2 : pd 66 h .non = some .none := rfl
      have s2 : SeqAt.shaped .none = true := by decide +kernel
      simp only [p1, p2, s2, enc_shaped, and_self, if_true, any_none]
  rw [i]
end K02

namespace K02
open Mi L2 PySem PySem.Spec PyProof.Rows
theorem pdx_pre {h h' : AH} (p : h <+: h') : ∀ (n : Nat) (d : D) (q : PyData), pdx n h d = some q → pdx n h' d = some q := by
  intro n
  induction n with
  | zero =>
    intro d q e
    cases d <;> simp only [pdx] at e ⊢ <;> first | exact e | cases e
  | succ n ih =>
    intro d q e
    cases d with
    | tup xs =>
      simp only [pdx, Option.map_eq_some_iff] at e ⊢
      obtain ⟨ps, z, rfl⟩ := e
      exact ⟨ps, omap_imp ih z, rfl⟩
    | ref r =>
      simp only [pdx] at e ⊢
      split at e <;> first | (cases e; done) | skip
      · rename_i xs q1
        rw [getElem_pre p q1]
        obtain ⟨ps, z, rfl⟩ := Option.map_eq_some_iff.mp e
        exact Option.map_eq_some_iff.mpr ⟨ps, omap_imp ih z, rfl⟩
      · rename_i kvs q1
        rw [getElem_pre p q1]
        obtain ⟨ps, z, rfl⟩ := Option.map_eq_some_iff.mp e
        exact Option.map_eq_some_iff.mpr ⟨ps, omap_imp ih z, rfl⟩
    | _ => simp only [pdx] at e ⊢ <;> first | exact e | cases e
theorem reprX_pre {h h' : AH} (p : h <+: h') {d : D} {s : Str} (e : reprX d h = some s) : reprX d h' = some s := by
  unfold reprX at e ⊢
  cases q : pdx 60 h d with
  | none => rw [q] at e; cases e
  | some x =>
    rw [q] at e
    rw [pdx_pre p _ _ _ q]
    exact e
/-- the text of the text row alone -/
theorem reprX_row {h : AH} {d : D} {s : Str} (f : Fair h d) (e : reprX d h = some s) : decide (s = "'row'") = isStr "row" d := by
  unfold reprX at e
  split at e <;> first | (cases e; done) | skip
  rename_i p ep
  split at e <;> cases e
  rw [Bool.eq_iff_iff, decide_eq_true_eq, row_text]
  cases f with
  | str x a b =>
    cases ep
    show PyData.str x = .str "row" ↔ decide (x = "row") = true
    rw [decide_eq_true_eq]
    exact ⟨fun z => by cases z; rfl, fun z => by rw [z]⟩
  | non => cases ep; exact ⟨fun z => (by cases z), fun z => (by cases z)⟩
  | bl b => cases ep; exact ⟨fun z => (by cases z), fun z => (by cases z)⟩
  | int i => cases ep; exact ⟨fun z => (by cases z), fun z => (by cases z)⟩
  | tup ds a b =>
    simp only [pdx, Option.map_eq_some_iff] at ep
    obtain ⟨ps, _, rfl⟩ := ep
    exact ⟨fun z => (by cases z), fun z => (by cases z)⟩
  | lst n ds k =>
    simp only [pdx, k, Option.map_eq_some_iff] at ep
    obtain ⟨ps, _, rfl⟩ := ep
    exact ⟨fun z => (by cases z), fun z => (by cases z)⟩
  | dic n ds k =>
    simp only [pdx, k, Option.map_eq_some_iff] at ep
    obtain ⟨ps, _, rfl⟩ := ep
    exact ⟨fun z => (by cases z), fun z => (by cases z)⟩
/-- of what depth, and its heads have a text -/
inductive Rd (h : AH) : Nat → D → Prop
  | one (n : Nat) (d : D) : (∀ ds, d ≠ .tup ds) → Rd h n d
  | tup (n : Nat) (ds : List D) : (∀ w r, ds = w :: r → ∃ s, reprX w h = some s) → (∀ d ∈ ds, Rd h n d) → Rd h (n + 1) (.tup ds)
theorem Rd.pre {h h' : AH} (p : h <+: h') : ∀ {n : Nat} {d : D}, Rd h n d → Rd h' n d
  | _, _, .one n d a => .one n d a
  | _, _, .tup n ds a b => .tup n ds (fun w r e => by
      obtain ⟨s, z⟩ := a w r e
      exact ⟨s, reprX_pre p z⟩) fun d hd => Rd.pre p (b d hd)
theorem Rd.up {h : AH} : ∀ {n : Nat} {d : D}, Rd h n d → Rd h (n + 1) d
  | _, _, .one n d a => .one (n + 1) d a
  | _, _, .tup n ds a b => .tup (n + 1) ds a fun d hd => (b d hd).up
def rowR : D → Option (List D)
  | .tup [w, .tup ps] => if isStr "row" w = true then some ps else none
  | _ => none
def fst0 : Option (Nat × Nat × Bool) → Nat
  | some (a, _, _) => a
  | none => 0
def snd0 : Option (Nat × Nat × Bool) → Nat
  | some (_, b, _) => b
  | none => 0
def trd0 : Option (Nat × Nat × Bool) → Bool
  | some (_, _, c) => c
  | none => false
def lk : Nat → D → Option (Nat × Nat × Bool)
  | 0, _ => none
  | n + 1, d => match rowR d with
    | some ps => if (decide (40 < ps.length) || (ps.map (lk n)).any fun r => r.isNone) = true then none else some (1 + ((ps.map (lk n)).map fst0).sum, 1 + ((ps.map (lk n)).map snd0).foldl max 0, (ps.map (lk n)).all trd0)
    | none => if singleB d = true then some (1, 0, flatD d) else none
end K02

namespace K02
open Mi L2 PySem PySem.Spec PyProof.Rows
abbrev EL (d : D) : AEnv := [some d, none, none, none, none, none, none]
def tL : TF := tOr' (tNot' (tVal (cCall fIsi (aCons (cVar 0) (aCons (cC (.ty "tuple")) aNil))))) (tOr' (tVal (cBin opNe (cCall fLen (aCons (cVar 0) aNil)) (cC (.int 2)))) (tOr' (tVal (cBin opNe (cCall fRepr2 (aCons (cBin opIx (cVar 0) (cC (.int 0))) aNil)) (cCall fRepr2 (aCons (cC (.str ("row" : Str))) aNil)))) (tNot' (tVal (cCall fIsi (aCons (cBin opIx (cVar 0) (cC (.int 1))) (aCons (cC (.ty "tuple")) aNil)))))))
theorem row_repr {h : AH} : fRepr2 [.str ("row" : Str)] h = .ok (.str ("'row'" : Str)) h := by
  have e : reprX (.str ("row" : Str)) h = some ("'row'" : Str) := by
    have e1 : pdx 60 h (.str ("row" : Str)) = some (.str "row") := rfl
    have e2 : (PyData.str "row").shown = "'row'" := row_text.mpr rfl
    have e3 : (PyData.str "row").showable = true ∧ (PyData.str "row").shown.length ≤ sizeLine := by
      refine ⟨by simp [PyData.showable], ?_⟩
      rw [e2, sizeLine_eq]
      exact Nat.le_of_ble_eq_true (by decide +kernel)
    unfold reprX
    rw [e1]
    simp only
    rw [if_pos e3, e2]
  simp only [fRepr2, e]
theorem tL_ok {n : Nat} {h : AH} {d : D} (f : Fair h d) (r : Rd h n d) : tL (EL d) h = .ok (rowR d).isNone h := by
  have q := isi_t (ε := EL d) (F := cVar 0) (T := "tuple") rfl f (by simp)
  cases d with
  | tup ds =>
    have ne : tVal (cBin opNe (cCall fLen (aCons (cVar 0) aNil)) (cC (.int 2))) (EL (.tup ds)) h = .ok (!decide (ds.length = 2)) h := by
      refine tVal_eq ((cBin_eq (len_tupE (F := cVar 0) rfl) rfl).trans ?_)
      show Res.ok (D.bl (!decide ((ds.length : Int) = 2))) h = _
      congr 3
      exact decide_eq_decide.mpr (by omega)
    by_cases c : ds.length = 2
    · obtain ⟨w, k, rfl⟩ : ∃ w k, ds = [w, k] := by
        match ds, c with
        | [w, k], _ => exact ⟨w, k, rfl⟩
      obtain ⟨fw, fk⟩ : Fair h w ∧ Fair h k := by
        cases f with
        | tup _ _ g => exact ⟨g w (by simp), g k (by simp)⟩
      obtain ⟨s, es⟩ : ∃ s, reprX w h = some s := by
        cases r with
        | one _ _ a => exact absurd rfl (a _)
        | tup _ _ a _ => exact a w [k] rfl
      have k0 : cBin opIx (cVar 0) (cC (.int 0)) (EL (.tup [w, k])) h = .ok w h := (cBin_eq rfl rfl).trans at0
      have k1 : cBin opIx (cVar 0) (cC (.int 1)) (EL (.tup [w, k])) h = .ok k h := (cBin_eq rfl rfl).trans at1
      have r0 : cCall fRepr2 (aCons (cBin opIx (cVar 0) (cC (.int 0))) aNil) (EL (.tup [w, k])) h = .ok (.str s) h := (cCall_eq (aCons_eq k0 aNil_eq)).trans (by simp only [fRepr2, es])
      have r1 : cCall fRepr2 (aCons (cC (.str ("row" : Str))) aNil) (EL (.tup [w, k])) h = .ok (.str ("'row'" : Str)) h := (cCall_eq rfl).trans row_repr
      have t3 : tVal (cBin opNe (cCall fRepr2 (aCons (cBin opIx (cVar 0) (cC (.int 0))) aNil)) (cCall fRepr2 (aCons (cC (.str ("row" : Str))) aNil))) (EL (.tup [w, k])) h = .ok (!isStr "row" w) h := by
        refine tVal_eq ((cBin_eq r0 r1).trans ?_)
        rw [← reprX_row fw es]
        rfl
      have t4 := tNot_eq (isi_t (ε := EL (.tup [w, k])) (T := "tuple") k1 fk (by simp))
      refine (tOr_f (tNot_eq q)).trans ((tOr_f ne).trans ?_)
      cases c1 : isStr "row" w with
      | false =>
        rw [c1] at t3
        refine (tOr_t t3).trans ?_
        have : rowR (.tup [w, k]) = none := by unfold rowR; split <;> first | rfl | (rename_i e; cases e; rw [c1]; rfl)
        rw [this]
        rfl
      | true =>
        rw [c1] at t3
        refine (tOr_f t3).trans (t4.trans ?_)
        cases k with
        | tup ps =>
          have : rowR (.tup [w, .tup ps]) = some ps := by show (if isStr "row" w = true then some ps else none) = _; rw [if_pos c1]
          rw [this]
          rfl
        | _ => rfl
    · rw [decide_eq_false c] at ne
      refine (tOr_f (tNot_eq q)).trans ((tOr_t ne).trans ?_)
      have : rowR (.tup ds) = none := by unfold rowR; split <;> first | rfl | (rename_i e; cases e; exact absurd rfl c)
      rw [this]
      rfl
  | _ => exact tOr_t (tNot_eq q)
abbrev leafB : SF := sSeq (sAsg (cFn f_l_leaf_looked (aCons (cVar 0) aNil)) (gT 2 (gCons' (gN 3) (gCons' (gN 4) gNil'))))
    (sRet (cIf (tTru (cVar 3)) (cTup (aCons (cC (.int 1)) (aCons (cC (.int 0)) (aCons (cVar 4) aNil)))) (cC .non)))
theorem leafB_ok {h : AH} {d : D} (f : Fair h d) : ∃ h', h <+: h' ∧ leafB (EL d) h = .ret (encL (if singleB d = true then some (1, 0, flatD d) else none)) h' := by
  obtain ⟨h', p, e⟩ := leaf_ok f
  refine ⟨h', p, ?_⟩
  have a : sAsg (cFn f_l_leaf_looked (aCons (cVar 0) aNil)) (gT 2 (gCons' (gN 3) (gCons' (gN 4) gNil'))) (EL d) h = .nx [some d, none, none, some (.bl (singleB d)), some (.bl (flatD d)), none, none] h' := by
    unfold sAsg
    rw [(cFn_eq (aCons_eq rfl aNil_eq)).trans e, Res.st_ok]
    rfl
  refine (sSeq_nx a).trans (sRet_eq ?_)
  cases c : singleB d with
  | true =>
    refine (cIf_eq (k := true) rfl).trans ?_
    rw [if_pos rfl]
    exact cTup_eq (ds := [.int 1, .int 0, .bl (flatD d)]) rfl (by rw [sizeLine_eq]; exact Nat.le_of_ble_eq_true rfl)
  | false =>
    exact (cIf_eq (k := false) rfl).trans rfl
end K02

namespace K02
open Mi L2 PySem PySem.Spec PyProof.Rows
abbrev T3 := Nat × Nat × Bool
def encT (t : T3) : D := .tup [.int t.1, .int t.2.1, .bl t.2.2]
abbrev E2 (d : D) (m : Nat) (x : Option D) : AEnv := [some d, some (.ref m), x, none, none, none, none]
theorem compK {h : AH} {d : D} {m : Nat} {x : Option D} {ts : List T3} {F : EF} {t : TF} (e : h[m]? = some (.lst (ts.map encT))) (hs : ts.length < sizeLine) (b : T3 → Bool) (y : T3 → D)
    (ht : ∀ s ∈ ts, ∀ h, t [some d, some (.ref m), x, none, none, none, some (encT s)] h = .ok (b s) h) (hF : ∀ s ∈ ts, ∀ h, F [some d, some (.ref m), x, none, none, none, some (encT s)] h = .ok (y s) h) :
    ∃ h', h <+: h' ∧ h'[h.length]? = some (.lst ((ts.filter b).map y)) ∧ cComp (iAny (cVar 1)) (gN 6) t F [6] (E2 d m x) h = .ok (.ref h.length) h' := by
  let b' : D → Bool := fun v => match v with
    | .tup [.int i, .int j, .bl k] => b (i.toNat, j.toNat, k)
    | _ => false
  let y' : D → D := fun v => match v with
    | .tup [.int i, .int j, .bl k] => y (i.toNat, j.toNat, k)
    | _ => .non
  have eb : ∀ s, b' (encT s) = b s := fun s => by show b (((s.1 : Nat) : Int).toNat, ((s.2.1 : Nat) : Int).toNat, s.2.2) = _; simp
  have ey : ∀ s, y' (encT s) = y s := fun s => by show y (((s.1 : Nat) : Int).toNat, ((s.2.1 : Nat) : Int).toNat, s.2.2) = _; simp
  obtain ⟨h', p, k, c⟩ := cComp_any (g := gN 6) (t := t) (F := F) (own := [6]) (iAny_live (F := cVar 1) (ε := E2 d m x) rfl e) rfl (live_at e) (by rw [List.length_map]; exact hs)
    (fun v => [some d, some (.ref m), x, none, none, none, some v]) b' y' (fun _ _ _ => rfl)
    (fun v hv h2 _ => by
      obtain ⟨s, hs, rfl⟩ := List.mem_map.mp hv
      exact ⟨h2, List.prefix_refl _, by rw [eb]; exact ht s hs h2⟩)
    (fun v hv _ h2 _ => by
      obtain ⟨s, hs, rfl⟩ := List.mem_map.mp hv
      exact ⟨h2, List.prefix_refl _, by rw [ey]; exact hF s hs h2⟩)
  refine ⟨h', p, ?_, c⟩
  rw [k, List.filter_map, List.map_map]
  have q1 : (b' ∘ encT) = b := funext eb
  have q2 : (y' ∘ encT) = y := funext ey
  rw [q1, q2]
theorem sum_ints (f : T3 → Nat) (ts : List T3) : omap asInt (ts.map fun t => D.int (f t)) = some (ts.map fun t => (f t : Int)) := by
  induction ts with
  | nil => rfl
  | cons t ts ih => simp only [List.map_cons, omap, asInt, ih]
theorem sum_cast (f : T3 → Nat) (ts : List T3) : (ts.map fun t => (f t : Int)).sum = (((ts.map f).sum : Nat) : Int) := by
  induction ts with
  | nil => rfl
  | cons t ts ih => simp only [List.map_cons, List.sum_cons, ih, Int.natCast_add]
theorem max_cast (f : T3 → Nat) : ∀ (ts : List T3) (a : Nat), (ts.map fun t => (f t : Int)).foldl max (a : Int) = (((ts.map f).foldl max a : Nat) : Int)
  | [], a => rfl
  | t :: ts, a => by
    simp only [List.map_cons, List.foldl_cons]
    rw [show max (a : Int) (f t : Int) = ((max a (f t) : Nat) : Int) from by omega]
    exact max_cast f ts (max a (f t))
abbrev sumF : EF := cBin opAdd (cC (.int 1)) (cCall fSum (aCons (cComp (iAny (cVar 1)) (gN 6) tYes' (cBin opIx (cVar 6) (cC (.int 0))) [6]) aNil))
abbrev maxF : EF := cBin opAdd (cC (.int 1)) (cMaxD (cComp (iAny (cVar 1)) (gN 6) tYes' (cBin opIx (cVar 6) (cC (.int 1))) [6]) (cC (.int 0)))
abbrev allF : EF := cBin opEq2 (cComp (iAny (cVar 1)) (gN 6) (tNot' (tTru (cBin opIx (cVar 6) (cC (.int 2))))) (cVar 6) [6]) (cLst aNil)
section
variable {h : AH} {d : D} {m : Nat} {x : Option D} {ts : List T3}
theorem sumF_ok (e : h[m]? = some (.lst (ts.map encT))) (hs : ts.length < sizeLine) : ∃ h', h <+: h' ∧ sumF (E2 d m x) h = .ok (.int ((1 + (ts.map (·.1)).sum : Nat) : Int)) h' := by
  obtain ⟨h', p, k, c⟩ := compK (d := d) (x := x) (t := tYes') (F := cBin opIx (cVar 6) (cC (.int 0))) e hs (fun _ => true) (fun t => .int t.1) (fun _ _ _ => rfl) (fun s _ h => (cBin_eq rfl rfl).trans at0)
  rw [List.filter_eq_self.mpr fun _ _ => rfl] at k
  refine ⟨h', p, (cBin_eq rfl ((cCall_eq (aCons_eq c aNil_eq)).trans (by simp only [fSum, k, sum_ints (fun t => t.1)]; rfl))).trans ?_⟩
  rw [sum_cast (fun t => t.1)]
  show Res.ok (D.int (1 + (((ts.map (·.1)).sum : Nat) : Int))) h' = _
  rw [Int.natCast_add]
  rfl
theorem maxF_ok (e : h[m]? = some (.lst (ts.map encT))) (hs : ts.length < sizeLine) : ∃ h', h <+: h' ∧ maxF (E2 d m x) h = .ok (.int ((1 + (ts.map (·.2.1)).foldl max 0 : Nat) : Int)) h' := by
  obtain ⟨h', p, k, c⟩ := compK (d := d) (x := x) (t := tYes') (F := cBin opIx (cVar 6) (cC (.int 1))) e hs (fun _ => true) (fun t => .int t.2.1) (fun _ _ _ => rfl) (fun s _ h => (cBin_eq rfl rfl).trans at1)
  rw [List.filter_eq_self.mpr fun _ _ => rfl] at k
  have mx : cMaxD (cComp (iAny (cVar 1)) (gN 6) tYes' (cBin opIx (cVar 6) (cC (.int 1))) [6]) (cC (.int 0)) (E2 d m x) h = .ok (.int (((ts.map (·.2.1)).foldl max 0 : Nat) : Int)) h' := by
    unfold cMaxD
    rw [c, Res.bind_ok]
    show (Res.ok (D.int 0) h').bind _ = _
    rw [Res.bind_ok]
    simp only [k, sum_ints (fun t => t.2.1)]
    cases ts with
    | nil => rfl
    | cons t ts =>
      simp only [List.map_cons, List.foldl_cons]
      rw [max_cast (fun t => t.2.1), Nat.zero_max]
  refine ⟨h', p, (cBin_eq rfl mx).trans ?_⟩
  show Res.ok (D.int (1 + (((ts.map (·.2.1)).foldl max 0 : Nat) : Int))) h' = _
  rw [Int.natCast_add]
  rfl
theorem allF_ok (e : h[m]? = some (.lst (ts.map encT))) (hs : ts.length < sizeLine) : ∃ h', h <+: h' ∧ allF (E2 d m x) h = .ok (.bl (ts.all (·.2.2))) h' := by
  obtain ⟨h', p, k, c⟩ := compK (d := d) (x := x) (t := tNot' (tTru (cBin opIx (cVar 6) (cC (.int 2))))) (F := cVar 6) e hs (fun t => !t.2.2) encT
    (fun s _ h => by
      refine tNot_eq (k := s.2.2) ?_
      have q : cBin opIx (cVar 6) (cC (.int 2)) [some d, some (.ref m), x, none, none, none, some (encT s)] h = .ok (.bl s.2.2) h := (cBin_eq rfl rfl).trans at2
      unfold tTru
      rw [q, Res.bind_ok]
      rfl) (fun s _ h => rfl)
  obtain ⟨h2, p2, z⟩ := lst_nil2 c k
  refine ⟨h2, p.trans p2, z.trans ?_⟩
  congr 2
  rw [List.isEmpty_map, Bool.eq_iff_iff, List.isEmpty_iff, List.filter_eq_nil_iff, List.all_eq_true]
  simp
end
end K02

namespace K02
open Mi L2 PySem PySem.Spec PyProof.Rows
theorem all_some : ∀ {rs : List (Option T3)}, (rs.any fun r => r.isNone) = false → ∃ ts : List T3, rs = ts.map some
  | [], _ => ⟨[], rfl⟩
  | r :: rs, e => by
    rw [List.any_cons, Bool.or_eq_false_iff] at e
    obtain ⟨ts, rfl⟩ := all_some e.2
    cases r with
    | none => exact absurd e.1 (by simp)
    | some t => exact ⟨t :: ts, rfl⟩
abbrev tN : TF := tOr' (tVal (cBin opGt (cCall fLen (aCons (cVar 1) aNil)) (cC (.int 40)))) (tVal (cBin opIn2 (cC .non) (cVar 1)))
abbrev rowB : SF := sSeq (sIf tN (sRet (cC .non)) sPass) (sSeq (sSet 2 sumF) (sRet (cTup (aCons (cVar 2) (aCons maxF (aCons allF aNil))))))
theorem rowB_ok {h : AH} {d : D} {m : Nat} {rs : List (Option T3)} (e : h[m]? = some (.lst (rs.map encL))) (hs : rs.length < sizeLine) :
    ∃ h', h <+: h' ∧ rowB (E2 d m none) h = .ret (encL (if (decide (40 < rs.length) || rs.any fun r => r.isNone) = true then none else some (1 + (rs.map fst0).sum, 1 + (rs.map snd0).foldl max 0, rs.all trd0))) h' := by
  have t1 : tVal (cBin opGt (cCall fLen (aCons (cVar 1) aNil)) (cC (.int 40))) (E2 d m none) h = .ok (decide (40 < rs.length)) h := by
    have l : cCall fLen (aCons (cVar 1) aNil) (E2 d m none) h = .ok (.int rs.length) h := (cCall_eq (aCons_eq (F := cVar 1) (x := .ref m) rfl aNil_eq)).trans (by simp only [fLen, e, List.length_map])
    refine tVal_eq ((cBin_eq l rfl).trans ?_)
    show Res.ok (D.bl (decide ((40 : Int) < rs.length))) h = _
    congr 2
    exact decide_eq_decide.mpr (by omega)
  have t2 : tVal (cBin opIn2 (cC .non) (cVar 1)) (E2 d m none) h = .ok (rs.any fun r => r.isNone) h := tVal_eq ((cBin_eq rfl rfl).trans (none_in e))
  have t : tN (E2 d m none) h = .ok (decide (40 < rs.length) || rs.any fun r => r.isNone) h := by
    cases c : decide (40 < rs.length) with
    | true => rw [c] at t1; exact tOr_t t1
    | false => rw [c] at t1; exact (tOr_f t1).trans t2
  cases c : (decide (40 < rs.length) || rs.any fun r => r.isNone) with
  | true =>
    rw [c] at t
    rw [if_pos rfl]
    exact ⟨h, List.prefix_refl _, sSeq_ret ((sIf_t t).trans (sRet_eq rfl))⟩
  | false =>
    rw [c] at t
    rw [if_neg Bool.false_ne_true]
    rw [Bool.or_eq_false_iff] at c
    obtain ⟨ts, rfl⟩ := all_some c.2
    rw [List.length_map] at hs
    have e' : h[m]? = some (.lst (ts.map encT)) := by
      rw [e, List.map_map]
      rfl
    obtain ⟨h1, p1, s1⟩ := sumF_ok (d := d) (x := none) e' hs
    have s1' := sSet_eq (i := 2) s1
    obtain ⟨h2, p2, s2⟩ := maxF_ok (d := d) (x := some (.int ((1 + (ts.map (·.1)).sum : Nat) : Int))) (getElem_pre p1 e') hs
    obtain ⟨h3, p3, s3⟩ := allF_ok (d := d) (x := some (.int ((1 + (ts.map (·.1)).sum : Nat) : Int))) (getElem_pre (p1.trans p2) e') hs
    refine ⟨h3, (p1.trans p2).trans p3, (sSeq_nx ((sIf_f t).trans rfl)).trans ((sSeq_nx s1').trans (sRet_eq ((cTup_eq (aCons_eq (F := cVar 2) rfl (aCons_eq s2 (aCons_eq s3 aNil_eq))) (by rw [sizeLine_eq]; exact Nat.le_of_ble_eq_true rfl)).trans ?_)))⟩
    have f1 : ((ts.map some).map fst0) = ts.map (·.1) := by rw [List.map_map]; rfl
    have f2 : ((ts.map some).map snd0) = ts.map (·.2.1) := by rw [List.map_map]; rfl
    have f3 : ((ts.map some).all trd0) = ts.all (·.2.2) := by rw [List.all_map]; rfl
    rw [f1, f2, f3]
    rfl
theorem fair_row {h : AH} {d : D} {ps : List D} {n : Nat} (f : Fair h d) (r : Rd h (n + 1) d) (e : rowR d = some ps) : ps.length ≤ 1000 ∧ (∀ p ∈ ps, Fair h p ∧ Rd h n p) ∧ ∃ w, d = .tup [w, .tup ps] := by
  unfold rowR at e
  split at e <;> first | (cases e; done) | skip
  split at e <;> cases e
  have g : Fair h (.tup ps) := by
    cases f with
    | tup _ _ g => exact g _ (by simp)
  have k : Rd h n (.tup ps) := by
    cases r with
    | one _ _ a => exact absurd rfl (a _)
    | tup _ _ _ b => exact b _ (by simp)
  cases g with
  | tup _ hl g2 =>
    refine ⟨hl, fun p hp => ⟨g2 p hp, ?_⟩, _, rfl⟩
    cases k with
    | one _ _ a => exact absurd rfl (a _)
    | tup _ _ _ b => exact (b p hp).up
theorem looked_ok : ∀ (n : Nat) (d : D) (h : AH), Fair h d → Rd h n d → ∃ h', h <+: h' ∧ f_l_looked (n + 1) [d] h = .ok (encL (lk (n + 1) d)) h' := by
  intro n
  induction n with
  | zero =>
    intro d h f r
    have t := tL_ok f r
    have e : rowR d = none := by
      cases r with
      | one _ _ a => unfold rowR; split <;> first | rfl | exact absurd rfl (a _)
    obtain ⟨h', p, z⟩ := leafB_ok f
    have l : lk 1 d = if singleB d = true then some (1, 0, flatD d) else none := by simp only [lk, e]
    rw [e] at t
    rw [l]
    exact ⟨h', p, runB_ret rfl (sSeq_ret ((sIf_t (T := tL) t).trans z))⟩
  | succ n ih =>
    intro d h f r
    have t := tL_ok f r
    cases e : rowR d with
    | none =>
      obtain ⟨h', p, z⟩ := leafB_ok f
      have l : lk (n + 1 + 1) d = if singleB d = true then some (1, 0, flatD d) else none := by simp only [lk, e]
      rw [e] at t
      rw [l]
      exact ⟨h', p, runB_ret rfl (sSeq_ret ((sIf_t (T := tL) t).trans z))⟩
    | some ps =>
      rw [e] at t
      obtain ⟨hl, hp, w, rfl⟩ := fair_row f r e
      have hi : iAny (cBin opIx (cVar 0) (cC (.int 1))) (EL (.tup [w, .tup ps])) h = .ok (.fix ps) h := by
        have c : cBin opIx (cVar 0) (cC (.int 1)) (EL (.tup [w, .tup ps])) h = .ok (.tup ps) h := (cBin_eq rfl rfl).trans at1
        unfold iAny
        rw [c, Res.bind_ok]
        rfl
      obtain ⟨h1, p1, k1, c1⟩ := cComp_grow (g := gN 5) (t := tYes') (F := cFn (f_l_looked (n + 1)) (aCons (cVar 5) aNil)) (own := [5]) hi (by rw [sizeLine_eq]; omega)
        (fun p => [some (.tup [w, .tup ps]), none, none, none, none, some p, none]) (fun _ => true) (fun p => encL (lk (n + 1) p)) (fun _ _ _ => rfl) (fun _ _ h2 _ => ⟨h2, List.prefix_refl _, rfl⟩)
        (fun p hm _ h2 p2 => by
          obtain ⟨h3, p3, e3⟩ := ih p h2 ((hp p hm).1.pre p2) ((hp p hm).2.pre p2)
          exact ⟨h3, p3, (cFn_eq (aCons_eq rfl aNil_eq)).trans e3⟩)
      rw [List.filter_eq_self.mpr fun _ _ => rfl] at k1
      have k2 : h1[h.length]? = some (.lst ((ps.map (lk (n + 1))).map encL)) := by rw [k1, List.map_map]; rfl
      obtain ⟨h2, p2, z⟩ := rowB_ok (d := .tup [w, .tup ps]) k2 (by rw [List.length_map, sizeLine_eq]; omega)
      have l : lk (n + 1 + 1) (.tup [w, .tup ps]) = if (decide (40 < (ps.map (lk (n + 1))).length) || (ps.map (lk (n + 1))).any fun r => r.isNone) = true then none else some (1 + ((ps.map (lk (n + 1))).map fst0).sum, 1 + ((ps.map (lk (n + 1))).map snd0).foldl max 0, (ps.map (lk (n + 1))).all trd0) := by
        rw [lk, e, List.length_map]
      rw [l]
      exact ⟨h2, p1.trans p2, runB_ret rfl ((sSeq_nx ((sIf_f (T := tL) t).trans rfl)).trans ((sSeq_nx (sSet_eq (i := 1) c1)).trans z))⟩
end K02

namespace K02
open Mi L2 PySem PySem.Spec PyProof.Rows
/-! ### looked and the count agree -/
def fitB (fl : Bool) (d : D) : Bool := singleB d && (!fl || flatD d)
theorem fit_false : fitB false = singleB := funext fun d => by simp [fitB]
theorem fit_true : fitB true = plainSingle := funext fun d => by
  have flat : thingB d = false → deedB d = false → flatD d = true → fitB true d = plainSingle d := fun e1 e2 e3 => by
    unfold fitB singleB
    rw [e1, e2, e3]
    simp
  cases d with
  | tup ds => show (singleB (.tup ds) && (!true || false)) = false; simp
  | ref n => show (singleB (.ref n) && (!true || false)) = false; simp
  | _ => exact flat rfl rfl rfl
def pickG (fl : Bool) (r : Nat) : Option T3 → Option Nat
  | some (a, k, c) => if (decide (k ≤ r) && (!fl || c)) = true then some a else none
  | none => none
theorem omap_none {fl : Bool} {r : Nat} : ∀ {rs : List (Option T3)}, (rs.any fun r => r.isNone) = true → omap (pickG fl r) rs = none
  | [], e => by cases e
  | o :: rs, e => by
    rw [List.any_cons, Bool.or_eq_true] at e
    rcases e with e | e
    · cases o with
      | none => rfl
      | some t => cases e
    · unfold omap
      rw [omap_none e]
      cases pickG fl r o <;> rfl
theorem omap_ts {fl : Bool} {r : Nat} : ∀ (ts : List T3), omap (pickG fl r) (ts.map some) = if (ts.all fun t => decide (t.2.1 ≤ r) && (!fl || t.2.2)) = true then some (ts.map (·.1)) else none
  | [] => rfl
  | t :: ts => by
    have ih := omap_ts (fl := fl) (r := r) ts
    obtain ⟨a, k, c⟩ := t
    simp only [List.map_cons, List.all_cons]
    unfold omap
    rw [ih]
    have pg : pickG fl r (some (a, k, c)) = if (decide (k ≤ r) && (!fl || c)) = true then some a else none := rfl
    rw [pg]
    cases (decide (k ≤ r) && (!fl || c)) <;> cases (ts.all fun t => decide (t.2.1 ≤ r) && (!fl || t.2.2)) <;> simp
theorem max_le : ∀ (l : List Nat) (a r : Nat), l.foldl max a ≤ r ↔ a ≤ r ∧ ∀ x ∈ l, x ≤ r
  | [], a, r => by simp
  | y :: l, a, r => by
    rw [List.foldl_cons, max_le l (max a y) r]
    simp only [List.mem_cons, forall_eq_or_imp, Nat.max_le]
    constructor
    · rintro ⟨⟨h1, h2⟩, h3⟩; exact ⟨h1, h2, h3⟩
    · rintro ⟨h1, h2, h3⟩; exact ⟨⟨h1, h2⟩, h3⟩
theorem ts_cond {fl : Bool} {r : Nat} (ts : List T3) : (ts.all fun t => decide (t.2.1 ≤ r) && (!fl || t.2.2)) = (decide (1 + (ts.map (·.2.1)).foldl max 0 ≤ r + 1) && (!fl || ts.all (·.2.2))) := by
  rw [Bool.eq_iff_iff]
  have m := max_le (ts.map (·.2.1)) 0 r
  cases fl with
  | false =>
    simp only [Bool.not_false, Bool.true_or, Bool.and_true, List.all_eq_true, decide_eq_true_eq]
    constructor
    · intro q
      have : (ts.map (·.2.1)).foldl max 0 ≤ r := m.mpr ⟨Nat.zero_le _, fun x hx => by
        obtain ⟨t, ht, rfl⟩ := List.mem_map.mp hx
        exact q t ht⟩
      omega
    · intro q t ht
      exact (m.mp (by omega)).2 _ (List.mem_map_of_mem ht)
  | true =>
    simp only [Bool.not_true, Bool.false_or, Bool.and_eq_true, List.all_eq_true, decide_eq_true_eq]
    constructor
    · intro q
      have : (ts.map (·.2.1)).foldl max 0 ≤ r := m.mpr ⟨Nat.zero_le _, fun x hx => by
        obtain ⟨t, ht, rfl⟩ := List.mem_map.mp hx
        exact (q t ht).1⟩
      exact ⟨by omega, fun t ht => (q t ht).2⟩
    · intro q t ht
      exact ⟨(m.mp (by omega)).2 _ (List.mem_map_of_mem ht), q.2 t ht⟩
theorem omap_congr {α β : Type} {f g : α → Option β} : ∀ {xs : List α}, (∀ x ∈ xs, f x = g x) → omap f xs = omap g xs
  | [], _ => rfl
  | x :: xs, e => by
    unfold omap
    rw [e x List.mem_cons_self, omap_congr fun y hy => e y (List.mem_cons_of_mem _ hy)]
theorem omap_map {α β γ : Type} {f : β → Option γ} {g : α → β} : ∀ {xs : List α}, omap f (xs.map g) = omap (fun x => f (g x)) xs
  | [] => rfl
  | x :: xs => by
    simp only [List.map_cons, omap]
    rw [omap_map]
/-- a row is no single -/
theorem row_single {w : D} {ps : List D} (c : isStr "row" w = true) : singleB (.tup [w, .tup ps]) = false := by
  have e : w = .str "row" := by
    cases w with
    | str x => have : x = "row" := by simpa [isStr] using c
               rw [this]
    | _ => cases c
  subst e
  show (false || ((isStr "thing" (.str "row") && false) || false)) = false
  simp
theorem agree {h : AH} (fl : Bool) : ∀ (n : Nat) (d : D) (r : Nat), Fair h d → Rd h n d → cnt (fitB fl) r d = pickG fl r (lk (n + 1) d) := by
  have leaf : ∀ (n : Nat) (d : D) (r : Nat), rowR d = none → cnt (fitB fl) r d = pickG fl r (lk (n + 1) d) := fun n d r e => by
    have rd : rowD d = none := by
      unfold rowR at e
      unfold rowD
      split at e
      · split at e <;> first | (cases e; done) | skip
        rename_i c
        simp [c]
      · rename_i k
        first | rfl | (split <;> first | rfl | exact absurd rfl (k _ _))
    have l : lk (n + 1) d = if singleB d = true then some (1, 0, flatD d) else none := by simp only [lk, e]
    have q : cnt (fitB fl) r d = if fitB fl d = true then some 1 else none := by
      cases r with
      | zero => rfl
      | succ r => simp only [cnt, rd]
    rw [q, l]
    unfold fitB
    cases singleB d with
    | false => rfl
    | true => simp [pickG]
  intro n
  induction n with
  | zero =>
    intro d r f k
    refine leaf 0 d r ?_
    cases k with
    | one _ _ a => unfold rowR; split <;> first | rfl | exact absurd rfl (a _)
  | succ n ih =>
    intro d r f k
    cases e : rowR d with
    | none => exact leaf (n + 1) d r e
    | some ps =>
      obtain ⟨_, hp, w, rfl⟩ := fair_row f k e
      have c : isStr "row" w = true := by
        unfold rowR at e
        simp only at e
        split at e <;> first | assumption | cases e
      have l : lk (n + 1 + 1) (.tup [w, .tup ps]) = if (decide (40 < ps.length) || (ps.map (lk (n + 1))).any fun r => r.isNone) = true then none else some (1 + ((ps.map (lk (n + 1))).map fst0).sum, 1 + ((ps.map (lk (n + 1))).map snd0).foldl max 0, (ps.map (lk (n + 1))).all trd0) := by
        rw [lk, e]
      have sg : fitB fl (.tup [w, .tup ps]) = false := by unfold fitB; rw [row_single c, Bool.false_and]
      rw [l]
      cases r with
      | zero =>
        have q : cnt (fitB fl) 0 (.tup [w, .tup ps]) = none := by simp only [cnt, sg]; rfl
        rw [q]
        split
        · rfl
        · show none = if (decide (1 + _ ≤ 0) && _) = true then _ else none
          rw [decide_eq_false (by omega), Bool.false_and, if_neg Bool.false_ne_true]
      | succ r =>
        by_cases c40 : ps.length ≤ 40
        · have rd : rowD (.tup [w, .tup ps]) = some ps := by simp [rowD, c, c40]
          have q : cnt (fitB fl) (r + 1) (.tup [w, .tup ps]) = (omap (cnt (fitB fl) r) ps).map fun ns => 1 + ns.sum := by simp only [cnt, rd]
          rw [q, omap_congr (fun p hm => ih p r (hp p hm).1 (hp p hm).2), ← omap_map (f := pickG fl r), decide_eq_false (show ¬ 40 < ps.length by omega), Bool.false_or]
          cases an : (ps.map (lk (n + 1))).any fun r => r.isNone with
          | true => rw [omap_none an]; rfl
          | false =>
            obtain ⟨ts, ets⟩ := all_some an
            rw [ets, omap_ts, ts_cond]
            have f1 : ((ts.map some).map fst0) = ts.map (·.1) := by rw [List.map_map]; rfl
            have f2 : ((ts.map some).map snd0) = ts.map (·.2.1) := by rw [List.map_map]; rfl
            have f3 : ((ts.map some).all trd0) = ts.all (·.2.2) := by rw [List.all_map]; rfl
            rw [if_neg Bool.false_ne_true, f1, f2, f3]
            show _ = if (decide (1 + (ts.map (·.2.1)).foldl max 0 ≤ r + 1) && (!fl || ts.all (·.2.2))) = true then some (1 + (ts.map (·.1)).sum) else none
            split <;> rfl
        · have rd : rowD (.tup [w, .tup ps]) = none := by simp [rowD, c40]
          have q : cnt (fitB fl) (r + 1) (.tup [w, .tup ps]) = none := by simp only [cnt, rd, sg]; rfl
          rw [q, decide_eq_true (show 40 < ps.length by omega), Bool.true_or, if_pos rfl]
          rfl
end K02

namespace K02
open Mi L2 PySem PySem.Spec PyProof.Rows
def two (d : D) : Bool × Bool := (okB singleB 0 [(d, 8)], okB plainSingle 0 [(d, 8)])
theorem okB_one {fit : D → Bool} {d : D} : okB fit 0 [(d, 8)] = match cnt fit 8 d with | some n => decide (n ≤ 200) | none => false := by
  unfold okB
  show (match (match cnt fit 8 d, some 0 with | some a, some b => some (a + b) | _, _ => none) with | some n => decide (0 + n ≤ 200) | none => false) = _
  cases cnt fit 8 d <;> simp
theorem two_eq {h : AH} {d : D} (f : Fair h d) (r : Rd h 29 d) : two d = match lk 30 d with
    | some (a, k, c) => (decide (k ≤ 8) && decide (a ≤ 200), (decide (k ≤ 8) && c) && decide (a ≤ 200))
    | none => (false, false) := by
  have a1 := agree false 29 d 8 f r
  have a2 := agree true 29 d 8 f r
  rw [fit_false] at a1
  rw [fit_true] at a2
  unfold two
  rw [okB_one, okB_one, a1, a2]
  cases lk (29 + 1) d with
  | none => rfl
  | some t =>
    obtain ⟨a, k, c⟩ := t
    simp only [pickG]
    cases decide (k ≤ 8) <;> cases c <;> simp
theorem gt_ok {h : AH} {ε : AEnv} {F : EF} {a n : Nat} (e : F ε h = .ok (.int a) h) : tVal (cBin opGt F (cC (.int n))) ε h = .ok (decide (n < a)) h := by
  refine tVal_eq ((cBin_eq e rfl).trans ?_)
  show Res.ok (D.bl (decide ((n : Int) < a))) h = _
  congr 2
  exact decide_eq_decide.mpr (by omega)
theorem deemed_ok {h : AH} {d : D} (f : Fair h d) (r : Rd h 29 d) : ∃ h' k, h <+: h' ∧ f_l_deemed [d] h = .ok (.ref k) h' ∧ h'[k]? = some (.lst [.bl (two d).1, .bl (two d).2]) := by
  obtain ⟨h1, p1, e1⟩ := looked_ok 29 d h f r
  have s1 : sSet 1 (cFn (f_l_looked 30) (aCons (cVar 0) aNil)) [some d, none] h = .nx [some d, some (encL (lk 30 d))] h1 := sSet_eq (i := 1) ((cFn_eq (aCons_eq rfl aNil_eq)).trans e1)
  rw [two_eq f r]
  cases l : lk 30 d with
  | none =>
    rw [l] at s1
    refine ⟨h1 ++ [.lst [.bl false, .bl false]], h1.length, p1.trans (List.prefix_append _ _), runB_ret rfl ((sSeq_nx s1).trans (sSeq_ret ((sIf_t (tOr_t rfl)).trans (sRet_eq (cLst_eq rfl (by rw [sizeLine_eq]; exact Nat.le_of_ble_eq_true rfl)))))), by simp⟩
  | some t =>
    obtain ⟨a, k, c⟩ := t
    rw [l] at s1
    let ε : AEnv := [some d, some (.tup [.int a, .int k, .bl c])]
    have i0 : cBin opIx (cVar 1) (cC (.int 0)) ε h1 = .ok (.int a) h1 := (cBin_eq rfl rfl).trans at0
    have i1 : cBin opIx (cVar 1) (cC (.int 1)) ε h1 = .ok (.int k) h1 := (cBin_eq rfl rfl).trans at1
    have i2 : cBin opIx (cVar 1) (cC (.int 2)) ε h1 = .ok (.bl c) h1 := (cBin_eq rfl rfl).trans at2
    have g0 := gt_ok (n := 200) i0
    have g1 := gt_ok (n := 8) i1
    have n0 : tVal (cBin opIs (cVar 1) (cC .non)) ε h1 = .ok false h1 := rfl
    by_cases ca : 200 < a
    · rw [decide_eq_true ca] at g0
      refine ⟨h1 ++ [.lst [.bl false, .bl false]], h1.length, p1.trans (List.prefix_append _ _), runB_ret rfl ((sSeq_nx s1).trans (sSeq_ret ((sIf_t ((tOr_f n0).trans (tOr_t g0))).trans (sRet_eq (cLst_eq rfl (by rw [sizeLine_eq]; exact Nat.le_of_ble_eq_true rfl)))))), ?_⟩
      have : decide (a ≤ 200) = false := decide_eq_false (by omega)
      simp [this]
    · rw [decide_eq_false ca] at g0
      by_cases ck : 8 < k
      · rw [decide_eq_true ck] at g1
        refine ⟨h1 ++ [.lst [.bl false, .bl false]], h1.length, p1.trans (List.prefix_append _ _), runB_ret rfl ((sSeq_nx s1).trans (sSeq_ret ((sIf_t ((tOr_f n0).trans ((tOr_f g0).trans g1))).trans (sRet_eq (cLst_eq rfl (by rw [sizeLine_eq]; exact Nat.le_of_ble_eq_true rfl)))))), ?_⟩
        have : decide (k ≤ 8) = false := decide_eq_false (by omega)
        simp [this]
      · rw [decide_eq_false ck] at g1
        refine ⟨h1 ++ [.lst [.bl true, .bl c]], h1.length, p1.trans (List.prefix_append _ _), runB_ret rfl ((sSeq_nx s1).trans ((sSeq_nx ((sIf_f ((tOr_f n0).trans ((tOr_f g0).trans g1))).trans rfl)).trans (sRet_eq (cLst_eq (aCons_eq rfl (aCons_eq i2 aNil_eq)) (by rw [sizeLine_eq]; exact Nat.le_of_ble_eq_true rfl))))), ?_⟩
        have h1' : decide (a ≤ 200) = true := decide_eq_true (by omega)
        have h2' : decide (k ≤ 8) = true := decide_eq_true (by omega)
        simp [h1', h2']
end K02

namespace K02
open Mi L2 PySem PySem.Spec PyProof.Rows
/-! ### right -/
def txt4 (q : Bool × Bool) : Str := (PyData.list [.bool q.1, .bool q.2, .bool q.1, .bool q.2]).shown
theorem repr_four {h : AH} {n : Nat} {q : Bool × Bool} (e : h[n]? = some (.lst [.bl q.1, .bl q.2, .bl q.1, .bl q.2])) : reprX (.ref n) h = some (txt4 q) := by
  have p : pdx 60 h (.ref n) = some (.list [.bool q.1, .bool q.2, .bool q.1, .bool q.2]) := by simp only [pdx, e, omap, Option.map_some]
  have z : (PyData.list [.bool q.1, .bool q.2, .bool q.1, .bool q.2]).shown.length ≤ sizeLine := by
    obtain ⟨a, b⟩ := q
    have := shown_le13 (d := .list [.bool a, .bool b, .bool a, .bool b]) (by cases a <;> cases b <;> decide +kernel) (by simp [PyData.intsShort, PyData.intsShortAll])
    rw [sizeLine_eq]
    show (PyData.list [.bool a, .bool b, .bool a, .bool b]).shown.length ≤ _
    omega
  have z2 : (PyData.list [.bool q.1, .bool q.2, .bool q.1, .bool q.2]).showable = true ∧ (PyData.list [.bool q.1, .bool q.2, .bool q.1, .bool q.2]).shown.length ≤ sizeLine := ⟨by simp [PyData.showable, PyData.showableAll], z⟩
  unfold reprX
  rw [p]
  simp only
  rw [if_pos z2]
  rfl
theorem cRepr2_eq {A : AF} {ε : AEnv} {h h1 : AH} {d : D} {s : Str} (e : A ε h = .ok [d] h1) (r : reprX d h1 = some s) : cCall fRepr2 A ε h = .ok (.str s) h1 := by
  refine (cCall_eq e).trans ?_
  simp only [fRepr2, r]
theorem eq2_str {h : AH} {x : Str} : opEq2 (.str x) (.str x) h = .ok (.bl true) h := by
  have e : eqX (.str x) (.str x) h = none := rfl
  unfold opEq2
  rw [e]
  simp [opEq, scalEq]
theorem right_ok {V : FV} (dV : V.a_is_single ≠ V.a_is_plain_single) {h : AH} {d : D} {s : Str} (f : Fair h d) (r : Rd h 29 d) (hs : reprX d h = some s) : ∃ h', h <+: h' ∧ f_l_right V [d] h = .ok (.bl true) h' := by
  have s1 : sSet 1 (cCall fRepr2 (aCons (cVar 0) aNil)) [some d, none, none] h = .nx [some d, some (.str s), none] h := sSet_eq (i := 1) (cRepr2_eq rfl hs)
  let ε : AEnv := [some d, some (.str s), none]
  obtain ⟨h1, p1, e1⟩ := isWorth_ok (V := V) f
  obtain ⟨h2, p2, e2⟩ := isPlain_ok dV (f.pre p1)
  obtain ⟨h3, p3, e3⟩ := isWorth_ok (V := V) (f.pre (p1.trans p2))
  obtain ⟨h4, p4, e4⟩ := isPlain_ok dV (f.pre ((p1.trans p2).trans p3))
  have p04 := ((p1.trans p2).trans p3).trans p4
  have args : aCons (cFn (f_is_worth V) (aCons (cVar 0) aNil)) (aCons (cFn (f_is_plain V) (aCons (cVar 0) aNil)) (aCons (cFn (fun es h => (f_is_worth V) (pm0 es) h) (aCons (cVar 0) aNil)) (aCons (cFn (fun es h => (f_is_plain V) (pm0 es) h) (aCons (cVar 0) aNil)) aNil))) ε h = .ok [.bl (two d).1, .bl (two d).2, .bl (two d).1, .bl (two d).2] h4 :=
    aCons_eq ((cFn_eq (aCons_eq rfl aNil_eq)).trans e1) (aCons_eq ((cFn_eq (aCons_eq rfl aNil_eq)).trans e2) (aCons_eq ((cFn_eq (aCons_eq rfl aNil_eq)).trans e3) (aCons_eq ((cFn_eq (aCons_eq rfl aNil_eq)).trans e4) aNil_eq)))
  have s2 := sSet_eq (i := 2) (ε := ε) (cLst_eq args (by rw [sizeLine_eq]; exact Nat.le_of_ble_eq_true rfl))
  obtain ⟨h5, eh5⟩ : ∃ h5, h5 = h4 ++ [O.lst [.bl (two d).1, .bl (two d).2, .bl (two d).1, .bl (two d).2]] := ⟨_, rfl⟩
  have k5 : h5[h4.length]? = some (.lst [.bl (two d).1, .bl (two d).2, .bl (two d).1, .bl (two d).2]) := by rw [eh5]; simp
  have p5 : h <+: h5 := by rw [eh5]; exact p04.trans (List.prefix_append _ _)
  rw [← eh5] at s2
  let ε2 : AEnv := [some d, some (.str s), some (.ref h4.length)]
  have r1 : cCall fRepr2 (aCons (cVar 2) aNil) ε2 h5 = .ok (.str (txt4 (two d))) h5 := cRepr2_eq rfl (repr_four k5)
  obtain ⟨h6, k, p6, e6, k6⟩ := deemed_ok (f.pre p5) (r.pre p5)
  have m : cBin opMul (cFn f_l_deemed (aCons (cVar 0) aNil)) (cC (.int 2)) ε2 h5 = .ok (.ref h6.length) (h6 ++ [.lst [.bl (two d).1, .bl (two d).2, .bl (two d).1, .bl (two d).2]]) := by
    refine (cBin_eq ((cFn_eq (aCons_eq rfl aNil_eq)).trans e6) rfl).trans ?_
    simp only [opMul, k6]
    rw [if_pos (by rw [sizeLine_eq]; rfl)]
    rfl
  have r2 := cRepr2_eq (aCons_eq m aNil_eq) (repr_four (n := h6.length) (q := two d) (by simp))
  have c1 := (cBin_eq r1 r2).trans eq2_str
  have p7 : h <+: h6 ++ [O.lst [.bl (two d).1, .bl (two d).2, .bl (two d).1, .bl (two d).2]] := (p5.trans p6).trans (List.prefix_append _ _)
  have r3 : cCall fRepr2 (aCons (cVar 0) aNil) ε2 _ = .ok (.str s) _ := cRepr2_eq rfl (reprX_pre p7 hs)
  have c2 := (cBin_eq (G := cVar 1) (y := .str s) r3 rfl).trans eq2_str
  exact ⟨_, p7, runB_ret rfl ((sSeq_nx s1).trans ((sSeq_nx s2).trans (sRet_eq ((cAnd_t c1).trans c2))))⟩
end K02

namespace K02
open Mi L2 PySem PySem.Spec PyProof.Rows
/-! ### a bound for the text -/
theorem pdx_up {h : AH} : ∀ (n : Nat) (d : D) (p : PyData), pdx n h d = some p → pdx (n + 1) h d = some p := by
  intro n
  induction n with
  | zero => intro d p e; cases d <;> simp only [pdx] at e ⊢ <;> first | exact e | cases e
  | succ n ih =>
    intro d p e
    cases d with
    | tup xs =>
      rw [pdx, Option.map_eq_some_iff] at e
      obtain ⟨ps, z, rfl⟩ := e
      rw [pdx, omap_imp ih z]
      rfl
    | ref r =>
      rw [pdx] at e ⊢
      split at e <;> first | (cases e; done) | skip
      · rename_i xs q1
        obtain ⟨ps, z, rfl⟩ := Option.map_eq_some_iff.mp e
        simp only [omap_imp ih z]
        rfl
      · rename_i kvs q1
        obtain ⟨ps, z, rfl⟩ := Option.map_eq_some_iff.mp e
        simp only [omap_imp ih z]
        rfl
    | _ => simp only [pdx] at e ⊢ <;> first | exact e | cases e
theorem pdx_le {h : AH} {n : Nat} {d : D} {p : PyData} (e : pdx n h d = some p) : ∀ m, n ≤ m → pdx m h d = some p := by
  intro m hm
  induction hm with
  | refl => exact e
  | step _ ih => exact pdx_up _ _ _ ih
/-- has a text of at most L signs -/
def Sm (h : AH) (k L : Nat) (d : D) : Prop := ∃ p, pdx k h d = some p ∧ p.showable = true ∧ p.shown.length ≤ L
theorem Sm.pre {h h' : AH} (p : h <+: h') {k L : Nat} {d : D} : Sm h k L d → Sm h' k L d := fun ⟨q, a, b, c⟩ => ⟨q, pdx_pre p _ _ _ a, b, c⟩
theorem Sm.mono {h : AH} {k k' L L' : Nat} {d : D} (hk : k ≤ k') (hL : L ≤ L') : Sm h k L d → Sm h k' L' d := fun ⟨q, a, b, c⟩ => ⟨q, pdx_le a _ hk, b, Nat.le_trans c hL⟩
theorem Sm.repr {h : AH} {k L : Nat} {d : D} (hk : k ≤ 60) (hL : L ≤ 10000000) : Sm h k L d → ∃ s, reprX d h = some s := fun ⟨q, a, b, c⟩ => by
  refine ⟨q.shown, ?_⟩
  unfold reprX
  rw [pdx_le a 60 hk]
  simp only
  rw [if_pos ⟨b, by rw [sizeLine_eq]; omega⟩]
theorem sm_all {h : AH} {k L : Nat} : ∀ {ds : List D}, (∀ d ∈ ds, Sm h k L d) → ∃ ps, omap (pdx k h) ds = some ps ∧ ps.length = ds.length ∧ PyData.showableAll ps = true ∧ ((PyData.shownAll ps).map (·.length)).sum ≤ ds.length * L ∧ (PyData.shownAll ps).length = ds.length
  | [], _ => ⟨[], rfl, rfl, by simp [PyData.showableAll], by simp [PyData.shownAll], by simp [PyData.shownAll]⟩
  | d :: ds, g => by
    obtain ⟨p, a, b, c⟩ := g d List.mem_cons_self
    obtain ⟨ps, e1, e2, e3, e4, e5⟩ := sm_all fun x hx => g x (List.mem_cons_of_mem _ hx)
    refine ⟨p :: ps, by simp only [omap, a, e1], by simp [e2], by simp [PyData.showableAll, b, e3], ?_, by simp [PyData.shownAll, e5]⟩
    simp only [PyData.shownAll, List.map_cons, List.sum_cons, List.length_cons]
    rw [Nat.succ_mul]
    omega
theorem Sm.tup {h : AH} {k L : Nat} {ds : List D} (g : ∀ d ∈ ds, Sm h k L d) : Sm h (k + 1) (ds.length * (L + 2) + 3) (.tup ds) := by
  obtain ⟨ps, e1, e2, e3, e4, e5⟩ := sm_all g
  refine ⟨.tuple ps, by rw [pdx, e1]; rfl, by simp [PyData.showable, e3], ?_⟩
  rw [PyData.shown]
  have l := tupleText_len_le (PyData.shownAll ps)
  rw [e5] at l
  rw [Nat.mul_add]
  omega
theorem Sm.lst {h : AH} {k L n : Nat} {ds : List D} (e : h[n]? = some (.lst ds)) (g : ∀ d ∈ ds, Sm h k L d) : Sm h (k + 1) (ds.length * (L + 2) + 3) (.ref n) := by
  obtain ⟨ps, e1, e2, e3, e4, e5⟩ := sm_all g
  refine ⟨.list ps, by rw [pdx]; simp only [e, e1]; rfl, by simp [PyData.showable, e3], ?_⟩
  rw [PyData.shown]
  have l := listText_len_le (PyData.shownAll ps)
  rw [e5] at l
  rw [Nat.mul_add]
  omega
/-- what is asked for: fair, of depth k, of a text of at most L signs -/
structure Good (h : AH) (k L : Nat) (d : D) : Prop where
  fair : Fair h d
  deep : Rd h k d
  text : Sm h k L d
theorem Good.pre {h h' : AH} (p : h <+: h') {k L : Nat} {d : D} (g : Good h k L d) : Good h' k L d := ⟨g.fair.pre p, g.deep.pre p, g.text.pre p⟩
theorem Rd.le {h : AH} {n : Nat} {d : D} (r : Rd h n d) : ∀ m, n ≤ m → Rd h m d := by
  intro m hm
  induction hm with
  | refl => exact r
  | step _ ih => exact ih.up
theorem Good.mono {h : AH} {k k' L L' : Nat} {d : D} (hk : k ≤ k') (hL : L ≤ L') (g : Good h k L d) : Good h k' L' d := ⟨g.fair, g.deep.le _ hk, g.text.mono hk hL⟩
theorem Good.tup {h : AH} {k L : Nat} {ds : List D} (hn : ds.length ≤ 1000) (hk : k ≤ 60) (hL : L ≤ 10000000) (g : ∀ d ∈ ds, Good h k L d) : Good h (k + 1) (ds.length * (L + 2) + 3) (.tup ds) :=
  ⟨.tup ds hn fun d hd => (g d hd).fair, .tup k ds (fun w r e => (g w (by rw [e]; exact List.mem_cons_self)).text.repr hk hL) fun d hd => (g d hd).deep, .tup fun d hd => (g d hd).text⟩
theorem Good.right {V : FV} (dV : V.a_is_single ≠ V.a_is_plain_single) {h : AH} {d : D} {k L : Nat} (hk : k ≤ 29) (hL : L ≤ 10000000) (g : Good h k L d) : ∃ h', h <+: h' ∧ f_l_right V [d] h = .ok (.bl true) h' := by
  obtain ⟨s, e⟩ := g.text.repr (by omega) hL
  exact right_ok dV g.fair (g.deep.le 29 hk) e
end K02

namespace K02
open Mi L2 PySem PySem.Spec PyProof.Rows
/-! ### what is Good -/
section
variable {h : AH}
theorem good_non : Good h 0 40 .non := ⟨.non, .one _ _ fun _ => D.noConfusion, .none, rfl, by simp [PyData.showable], by rw [PyData.shown]; exact Nat.le_of_ble_eq_true (by decide +kernel)⟩
theorem good_bl (b : Bool) : Good h 0 40 (.bl b) := ⟨.bl b, .one _ _ fun _ => D.noConfusion, .bool b, rfl, by simp [PyData.showable], by rw [PyData.shown]; cases b <;> exact Nat.le_of_ble_eq_true (by decide +kernel)⟩
theorem good_int {i : Int} (h1 : i.natAbs.log2 < 1920) (h2 : (Str.ofString (toString i)).length ≤ 43) : Good h 0 43 (.int i) := ⟨.int i, .one _ _ fun _ => D.noConfusion, .int i, rfl, by simp [PyData.showable, h1], by rw [PyData.shown]; exact h2⟩
theorem good_str {x : Str} (h1 : x.length ≤ 100000) (h2 : PyData.strOk x = true) (h3 : (reprText x).length ≤ 43) : Good h 0 43 (.str x) := ⟨.str x h1 h2, .one _ _ fun _ => D.noConfusion, .str x, rfl, by simp [PyData.showable], by rw [PyData.shown]; exact h3⟩
end
/-! ### chain, wide -/
def chainD : Nat → D → D
  | 0, x => x
  | n + 1, x => .tup [.str "row", .tup [chainD n x]]
theorem wide_ok {h : AH} {x : D} {n : Nat} (h1 : 2 ≤ n) (h2 : n ≤ 1000) : f_l_wide [x, .int n] h = .ok (.tup [.str "row", .tup (List.replicate n x)]) h := by
  have t : cTup (aCons (cVar 0) aNil) [some x, some (.int n)] h = .ok (.tup [x]) h := cTup_eq rfl (by rw [sizeLine_eq]; exact Nat.le_of_ble_eq_true rfl)
  have m : cBin opMul (cTup (aCons (cVar 0) aNil)) (cVar 1) [some x, some (.int n)] h = .ok (.tup (List.replicate n x)) h := by
    refine (cBin_eq t rfl).trans ?_
    have c : (!([x] : List D).isEmpty && decide ((2 : Int) ≤ n) && decide ((n : Int) ≤ 1000) && decide (([x] : List D).length ≤ 1000)) = true := by
      rw [decide_eq_true (show (2 : Int) ≤ n by omega), decide_eq_true (show (n : Int) ≤ 1000 by omega)]
      rfl
    have fl : ∀ n : Nat, (List.replicate n [x]).flatten = List.replicate n x := fun n => by
      induction n with
      | zero => rfl
      | succ n ih => rw [List.replicate_succ, List.flatten_cons, ih]; rfl
    simp only [opMul]
    rw [if_pos c, Int.toNat_natCast, fl]
  exact runB_ret rfl (sRet_eq (cTup_eq (aCons_eq (F := cC (.str ("row" : Str))) rfl (aCons_eq m aNil_eq)) (by rw [sizeLine_eq]; exact Nat.le_of_ble_eq_true rfl)))
theorem row_tup {F : EF} {ε : AEnv} {h h1 : AH} {x : D} (e : F ε h = .ok x h1) : cTup (aCons (cC (.str ("row" : Str))) (aCons (cTup (aCons F aNil)) aNil)) ε h = .ok (.tup [.str "row", .tup [x]]) h1 :=
  cTup_eq (aCons_eq rfl (aCons_eq (cTup_eq (aCons_eq e aNil_eq) (by rw [sizeLine_eq]; exact Nat.le_of_ble_eq_true rfl)) aNil_eq)) (by rw [sizeLine_eq]; exact Nat.le_of_ble_eq_true rfl)
theorem chain_ok {h : AH} {x : D} {n : Nat} (hn : n ≤ 1000) : f_l_chain [x, .int n] h = .ok (chainD n x) h := by
  have hi : iRange1 (cVar 1) [some x, some (.int n), none] h = .ok (.fix ((List.range n).map fun (i : Nat) => .int (0 + i))) h := by
    show (Res.ok (D.int n) h).bind _ = _
    rw [Res.bind_ok]
    simp only
    rw [if_pos (by rw [Bool.and_eq_true, decide_eq_true_eq, decide_eq_true_eq]; constructor <;> omega), Int.toNat_natCast]
  obtain ⟨ε', h', e, rfl, z, rfl⟩ := sFor_inv (g := gN 2) (B := sSet 0 (cTup (aCons (cC (.str ("row" : Str))) (aCons (cTup (aCons (cVar 0) aNil)) aNil)))) hi (fun i ε h' => h' = h ∧ ∃ z, ε = [some (chainD i x), some (.int n), z]) n (by simp [AIt.len]) ⟨rfl, none, rfl⟩
    (by
      rintro i ε h' hlt ⟨rfl, z, rfl⟩
      refine ⟨.int (0 + i), _, _, _, by simp [AIt.item, hlt], rfl, .inl (sSet_eq (row_tup rfl)), rfl, some (.int (0 + i)), rfl⟩)
    (by rintro ε h' _; rfl)
  exact runB_ret rfl ((sSeq_nx e).trans (sRet_eq rfl))
theorem Sm.pair {h : AH} {k La Lb : Nat} {a b : D} (ga : Sm h k La a) (gb : Sm h k Lb b) : Sm h (k + 1) (La + Lb + 7) (.tup [a, b]) := by
  obtain ⟨p, a1, a2, a3⟩ := ga
  obtain ⟨q, b1, b2, b3⟩ := gb
  refine ⟨.tuple [p, q], by rw [pdx]; simp only [omap, a1, b1]; rfl, by simp [PyData.showable, PyData.showableAll, a2, b2], ?_⟩
  rw [PyData.shown]
  have l := tupleText_len_le (PyData.shownAll [p, q])
  simp only [PyData.shownAll, List.map_cons, List.map_nil, List.sum_cons, List.sum_nil, List.length_cons, List.length_nil] at l
  simp only [PyData.shownAll]
  omega
theorem Sm.one {h : AH} {k L : Nat} {a : D} (ga : Sm h k L a) : Sm h (k + 1) (L + 5) (.tup [a]) := by
  have := Sm.tup (ds := [a]) (k := k) (L := L) (h := h) (by simpa using ga)
  exact this.mono (Nat.le_refl _) (by simp)
theorem good_word {h : AH} : Good h 0 5 (.str "row") :=
  ⟨.str _ (Nat.le_of_ble_eq_true (by decide +kernel)) (by decide +kernel), .one _ _ fun _ => D.noConfusion, .str "row", rfl, by simp [PyData.showable], by rw [row_text.mpr rfl]; exact Nat.le_of_ble_eq_true (by decide +kernel)⟩
theorem Good.row {h : AH} {k L : Nat} {ps : List D} (g : Good h k L (.tup ps)) : Good h (k + 1) (L + 12) (.tup [.str "row", .tup ps]) := by
  have w : Good h k 5 (.str "row") := good_word.mono (Nat.zero_le _) (Nat.le_refl _)
  refine ⟨.tup _ (by simp) fun d hd => ?_, .tup k _ (fun w' r e => ?_) fun d hd => ?_, (Sm.pair w.text g.text).mono (Nat.le_refl _) (by omega)⟩
  · rcases List.mem_cons.mp hd with rfl | hd
    · exact w.fair
    · rw [List.mem_singleton.mp hd]; exact g.fair
  · cases e
    exact good_word.text.repr (Nat.zero_le _) (by omega)
  · rcases List.mem_cons.mp hd with rfl | hd
    · exact w.deep
    · rw [List.mem_singleton.mp hd]; exact g.deep
theorem Good.one {h : AH} {k L : Nat} {x : D} (hk : k ≤ 60) (hL : L ≤ 10000000) (g : Good h k L x) : Good h (k + 1) (L + 5) (.tup [x]) :=
  ⟨.tup _ (by simp) (by simpa using g.fair), .tup k _ (fun w r e => by cases e; exact g.text.repr hk hL) (by simpa using g.deep), g.text.one⟩
theorem Good.chain {h : AH} {k L : Nat} {x : D} : ∀ (n : Nat), k + 2 * n ≤ 60 → L + 17 * n ≤ 10000000 → Good h k L x → Good h (k + 2 * n) (L + 17 * n) (chainD n x)
  | 0, _, _, g => g
  | n + 1, hk, hL, g => by
    have q := (Good.one (by omega) (by omega) (Good.chain n (by omega) (by omega) g)).row
    exact q.mono (by omega) (by omega)
theorem Good.wide {h : AH} {k L n : Nat} {x : D} (hn : n ≤ 1000) (hk : k ≤ 60) (hL : L ≤ 10000000) (g : Good h k L x) : Good h (k + 2) (n * (L + 2) + 15) (.tup [.str "row", .tup (List.replicate n x)]) := by
  have q := Good.tup (ds := List.replicate n x) (by rw [List.length_replicate]; exact hn) hk hL (fun d hd => by rw [List.eq_of_mem_replicate hd]; exact g)
  rw [List.length_replicate] at q
  exact q.row
end K02

namespace K02
open Mi L2 PySem PySem.Spec PyProof.Rows
/-! ### what stays good, whatever the hand does -/
def Sure (n m : Nat) (h : AH) (k L : Nat) (d : D) : Prop := ∀ h', Step n m h h' → Good h' k L d
section
variable {n m : Nat} {h : AH} {k L : Nat}
theorem Sure.good {d : D} (g : Sure n m h k L d) : Good h k L d := g h .refl
theorem Sure.step {h' : AH} {d : D} (s : Step n m h h') (g : Sure n m h k L d) : Sure n m h' k L d := fun h2 s2 => g h2 (s.trans s2)
theorem Sure.mono {k' L' : Nat} {d : D} (hk : k ≤ k') (hL : L ≤ L') (g : Sure n m h k L d) : Sure n m h k' L' d := fun h2 s2 => (g h2 s2).mono hk hL
theorem Sure.tup {ds : List D} (hn : ds.length ≤ 1000) (hk : k ≤ 60) (hL : L ≤ 10000000) (g : ∀ d ∈ ds, Sure n m h k L d) : Sure n m h (k + 1) (ds.length * (L + 2) + 3) (.tup ds) := fun h2 s2 => Good.tup hn hk hL fun d hd => g d hd h2 s2
theorem Sure.row {ps : List D} (g : Sure n m h k L (.tup ps)) : Sure n m h (k + 1) (L + 12) (.tup [.str "row", .tup ps]) := fun h2 s2 => (g h2 s2).row
theorem Sure.one {x : D} (hk : k ≤ 60) (hL : L ≤ 10000000) (g : Sure n m h k L x) : Sure n m h (k + 1) (L + 5) (.tup [x]) := fun h2 s2 => (g h2 s2).one hk hL
theorem Sure.chain {x : D} (i : Nat) (hk : k + 2 * i ≤ 60) (hL : L + 17 * i ≤ 10000000) (g : Sure n m h k L x) : Sure n m h (k + 2 * i) (L + 17 * i) (chainD i x) := fun h2 s2 => Good.chain i hk hL (g h2 s2)
theorem Sure.wide {i : Nat} {x : D} (hn : i ≤ 1000) (hk : k ≤ 60) (hL : L ≤ 10000000) (g : Sure n m h k L x) : Sure n m h (k + 2) (i * (L + 2) + 15) (.tup [.str "row", .tup (List.replicate i x)]) := fun h2 s2 => Good.wide hn hk hL (g h2 s2)
theorem sure_non : Sure n m h 0 43 .non := fun _ _ => good_non.mono (Nat.le_refl _) (by omega)
theorem sure_bl (b : Bool) : Sure n m h 0 43 (.bl b) := fun _ _ => (good_bl b).mono (Nat.le_refl _) (by omega)
theorem sure_int {i : Int} (h1 : i.natAbs.log2 < 1920) (h2 : (Str.ofString (toString i)).length ≤ 43) : Sure n m h 0 43 (.int i) := fun _ _ => good_int h1 h2
theorem sure_str {x : Str} (h1 : x.length ≤ 100000) (h2 : PyData.strOk x = true) (h3 : (reprText x).length ≤ 43) : Sure n m h 0 43 (.str x) := fun _ _ => good_str h1 h2 h3
theorem sure_lst {r : Nat} {ds : List D} (e : h[r]? = some (.lst ds)) (h1 : r ≠ n) (h2 : r ≠ m) (hk : k ≤ 59) (g : ∀ d ∈ ds, Sure n m h k L d) : Sure n m h (k + 1) (ds.length * (L + 2) + 3) (.ref r) := fun h' s => by
  have e' : h'[r]? = some (.lst ds) := (s.keep _ h1 h2 (List.getElem?_eq_some_iff.mp e).1).trans e
  exact ⟨.lst r ds e', .one _ _ fun _ => D.noConfusion, Sm.lst e' fun d hd => (g d hd h' s).text⟩
theorem sure_dic {r : Nat} (e : h[r]? = some (.dic [])) (h1 : r ≠ n) (h2 : r ≠ m) : Sure n m h 1 43 (.ref r) := fun h' s => by
  have e' : h'[r]? = some (.dic []) := (s.keep _ h1 h2 (List.getElem?_eq_some_iff.mp e).1).trans e
  refine ⟨.dic r [] e', .one _ _ fun _ => D.noConfusion, .dict [], by simp only [pdx, e', List.map_nil, omap, Option.map_some, List.zip_nil_left], by simp [PyData.showable, PyData.showableKv], ?_⟩
  rw [PyData.shown, PyData.shownKv]
  exact Nat.le_of_ble_eq_true (by decide +kernel)
end
/-! ### a label -/
def labels : List Str := ["a", "z", "row", "none", "thing", "ab", "abcdefgh", "deed"]
/-- a text whose signs are plain and few -/
def easy (x : Str) : Bool := decide (x.length ≤ 100000) && PyData.strOk x && decide ((reprText x).length ≤ 43)
theorem easy_sure {n m : Nat} {h : AH} {x : Str} (e : easy x = true) : Sure n m h 0 43 (.str x) := by
  unfold easy at e
  rw [Bool.and_eq_true, Bool.and_eq_true, decide_eq_true_eq, decide_eq_true_eq] at e
  exact sure_str e.1.1 e.1.2 e.2
theorem labels_easy : labels.all easy = true := by decide +kernel
theorem labels_sure {n m : Nat} {h : AH} {x : Str} (hx : x ∈ labels) : Sure n m h 0 43 (.str x) := easy_sure (List.all_eq_true.mp labels_easy x hx)
theorem label_drawn {h : AH} {n m : Nat} {c : Int} (H : Hand h n m c) (hc : 0 ≤ c) (hc2 : c < 100000) : ∃ (x : Str) (h' : AH), f_l_label [.ref n] h = .ok (.str x) h' ∧ x ∈ labels ∧ Hand h' n m (c + 1) ∧ Step n m h h' := by
  have lt := H.lt
  have zs : (labels.map D.str).length ≤ sizeLine := by rw [List.length_map, sizeLine_eq]; exact Nat.le_of_ble_eq_true rfl
  obtain ⟨d, h', e, hd, H', s'⟩ := pick_ok (ds := labels.map D.str) (s := h.length) (H.app (os := [.lst (labels.map D.str)])) hc (by omega) get_last (by omega) (by omega) (by simp [labels]) (by rw [List.length_map]; exact Nat.lt_of_le_of_lt (Nat.le_of_ble_eq_true rfl : labels.length ≤ 8) (by decide))
  obtain ⟨x, hx, rfl⟩ := List.mem_map.mp hd
  refine ⟨x, h', runB_ret rfl (sRet_eq ((cFn_eq (aCons_eq rfl (aCons_eq (cLst_eq (ds := labels.map D.str) rfl zs) aNil_eq))).trans e)), hx, H', Step.app.trans s'⟩
end K02

namespace K02
open Mi L2 PySem PySem.Spec PyProof.Rows
def nums : List Int := [0, 1, 9, 10, 99, 100, 999999, 1000000000000000]
def texts : List Str := ["", "a", "none", "yes", "row", "thing", "1", "-1", "[1 2]", "#5", "a.b", "a:b", " "]
def words2 : List Str := ["deed", "kind"]
def smallI (i : Int) : Bool := decide (i.natAbs.log2 < 1920) && decide ((Str.ofString (toString i)).length ≤ 43)
theorem smallI_sure {n m : Nat} {h : AH} {i : Int} (e : smallI i = true) : Sure n m h 0 43 (.int i) := by
  unfold smallI at e
  rw [Bool.and_eq_true, decide_eq_true_eq, decide_eq_true_eq] at e
  exact sure_int e.1 e.2
theorem nums_small : (nums.all fun i => smallI i && smallI (0 - i)) = true := by decide +kernel
theorem texts_easy : ((texts ++ [("twentysigns of all ~" : Str)]).all easy && words2.all easy && easy "thing") = true := by decide +kernel
theorem ix_ref {h : AH} {s : Nat} {ds : List D} {r : Int} (e : h[s]? = some (.lst ds)) (h1 : 0 ≤ r) (h2 : r < ds.length) : ∃ d, d ∈ ds ∧ opIx (.ref s) (.int r) h = .ok d h := by
  obtain ⟨d, hd, ed⟩ := at_of h1 h2
  exact ⟨d, hd, by simp only [opIx, seqD, e, ed]⟩
theorem leaf_drawn {h : AH} {n m : Nat} {c : Int} (H : Hand h n m c) (hc : 0 ≤ c) (hc2 : c < 50000) : ∃ (d : D) (h' : AH), f_l_leaf [.ref n] h = .ok d h' ∧ (∀ hh, Sure n m hh 1 138 d) ∧ Hand h' n m (c + 6) ∧ Step n m h h' := by
  have te := texts_easy
  rw [Bool.and_eq_true, Bool.and_eq_true] at te
  obtain ⟨⟨te1, te2⟩, te3⟩ := te
  obtain ⟨r8, h1, e1, a1, b1, H1, s1⟩ := dealt_ok (lots := 8) H hc (by omega) (by decide) (by decide)
  have lt1 := H1.lt
  obtain ⟨d2, h2, e2, hd2, H2, s2⟩ := pick_ok (ds := nums.map D.int) (s := h1.length) (H1.app (os := [.lst (nums.map D.int)])) (by omega) (by omega) get_last (by omega) (by omega) (by simp [nums]) (by rw [List.length_map]; exact Nat.lt_of_le_of_lt (Nat.le_of_ble_eq_true rfl : nums.length ≤ 8) (by decide))
  obtain ⟨i, hi, rfl⟩ := List.mem_map.mp hd2
  have iS := List.all_eq_true.mp nums_small i hi
  rw [Bool.and_eq_true] at iS
  have lt2 := H2.lt
  let h4 : AH := h2 ++ [O.lst ((texts ++ [("twentysigns of all ~" : Str)]).map D.str)]
  obtain ⟨d5, h5, e5, hd5, H5, s5⟩ := pick_ok (h := h4) (ds := (texts ++ [("twentysigns of all ~" : Str)]).map D.str) (s := h2.length) (H2.app (os := [.lst ((texts ++ [("twentysigns of all ~" : Str)]).map D.str)])) (by omega) (by omega) get_last (by omega) (by omega) (by simp [texts]) (by rw [List.length_map]; exact Nat.lt_of_le_of_lt (Nat.le_of_ble_eq_true rfl : (texts ++ [("twentysigns of all ~" : Str)]).length ≤ 14) (by decide))
  obtain ⟨x, hx, rfl⟩ := List.mem_map.mp hd5
  obtain ⟨l1, h6, e6, hl1, H6, s6⟩ := label_drawn H5 (by omega) (by omega)
  obtain ⟨l2, h7, e7, hl2, H7, s7⟩ := label_drawn H6 (by omega) (by omega)
  have lt7 := H7.lt
  let L7 : List D := [.non, .bl true, .bl false, .int i, .int (0 - i), .str x, .tup [.str "thing", .int i]]
  let h8 : AH := h7 ++ [O.lst L7]
  have H8 : Hand h8 n m _ := H7.app (os := [.lst L7])
  have lt8 := H8.lt
  obtain ⟨r2, h9, e9, a9, b9, H9, s9⟩ := dealt_ok (lots := 2) (H8.app (os := [.lst (words2.map D.str)])) (by omega) (by omega) (by decide) (by decide)
  have k9 : h9[h8.length]? = some (.lst (words2.map D.str)) := (s9.keep _ (by omega) (by omega) (by simp)).trans get_last
  obtain ⟨w, hw, ew⟩ := ix_ref k9 a9 (by simpa [words2] using b9)
  obtain ⟨wx, hwx, rfl⟩ := List.mem_map.mp hw
  have l8 : h7.length < h8.length := by simp [h8]
  have k8 : h9[h7.length]? = some (.lst L7) := (s9.keep _ (by omega) (by omega) (by rw [List.length_append]; omega)).trans (get_old get_last)
  let T : D := .tup [.str wx, .str l1, .str l2]
  let h10 : AH := h9 ++ [O.lst [T]]
  let h11 : AH := h10 ++ [O.lst (L7 ++ [T])]
  have lt9 := H9.lt
  obtain ⟨d, hd, ed⟩ := ix_ref (h := h11) (s := h10.length) (ds := L7 ++ [T]) get_last a1 (by simpa [L7] using b1)
  have st : Step n m h h11 := s1.trans (Step.app.trans (s2.trans (Step.app.trans (s5.trans (s6.trans (s7.trans (Step.app.trans (Step.app.trans (s9.trans (Step.app.trans Step.app))))))))))
  have Hf : Hand h11 n m (c + 6) := by
    have := (H9.app (os := [.lst [T]])).app (os := [.lst (L7 ++ [T])])
    rw [show c + 1 + 1 + 1 + 1 + 1 + 1 = c + 6 by omega] at this
    exact this
  have good : ∀ hh, Sure n m hh 1 138 d := by
    intro hh
    have pi : Sure n m hh 0 43 (.int i) := smallI_sure iS.1
    have pn : Sure n m hh 0 43 (.int (0 - i)) := smallI_sure iS.2
    have px : Sure n m hh 0 43 (.str x) := easy_sure (List.all_eq_true.mp te1 x hx)
    have pt : Sure n m hh 0 43 (.str "thing") := easy_sure te3
    have up : ∀ {d : D}, Sure n m hh 0 43 d → Sure n m hh 1 138 d := fun g => g.mono (by omega) (by omega)
    have tp : ∀ {ds : List D}, ds.length ≤ 3 → (∀ d ∈ ds, Sure n m hh 0 43 d) → Sure n m hh 1 138 (.tup ds) := fun l g => (Sure.tup (by omega) (by omega) (by omega) g).mono (by omega) (by omega)
    simp only [L7, T, List.cons_append, List.nil_append, List.mem_cons, List.not_mem_nil, or_false] at hd
    rcases hd with rfl | rfl | rfl | rfl | rfl | rfl | rfl | rfl
    · exact up sure_non
    · exact up (sure_bl _)
    · exact up (sure_bl _)
    · exact up pi
    · exact up pn
    · exact up px
    · refine tp (by simp) fun d hd => ?_
      simp only [List.mem_cons, List.not_mem_nil, or_false] at hd
      rcases hd with rfl | rfl
      · exact pt
      · exact pi
    · refine tp (by simp) fun d hd => ?_
      simp only [List.mem_cons, List.not_mem_nil, or_false] at hd
      rcases hd with rfl | rfl | rfl
      · exact easy_sure (List.all_eq_true.mp te2 _ hwx)
      · exact labels_sure hl1
      · exact labels_sure hl2
  refine ⟨d, h11, ?_, good, Hf, st⟩
  have z : ∀ {j : Nat}, j ≤ 1000 → j ≤ sizeLine := fun q => by rw [sizeLine_eq]; omega
  have q1 := sPar2_eq (i := 3) (j := 4) (ε := [some (.ref n), none, none, none, none, none, none, none]) ((cFn_eq (A := aCons (cVar 0) (aCons (cC (.int 8)) aNil)) rfl).trans e1)
    ((cFn_eq (f := f_l_pick) (aCons_eq (F := cVar 0) rfl (aCons_eq (cLst_eq (A := aCons (cC (.int 0)) (aCons (cC (.int 1)) (aCons (cC (.int 9)) (aCons (cC (.int 10)) (aCons (cC (.int 99)) (aCons (cC (.int 100)) (aCons (cC (.int 999999)) (aCons (cBin opPow (cC (.int 10)) (cC (.int 15))) aNil)))))))) (ds := nums.map D.int) rfl (z (Nat.le_of_ble_eq_true rfl))) aNil_eq))).trans e2)
  have q2 : sSet 1 (cLst (aCons (cC (.str ("" : Str))) (aCons (cC (.str ("a" : Str))) (aCons (cC (.str ("none" : Str))) (aCons (cC (.str ("yes" : Str))) (aCons (cC (.str ("row" : Str))) (aCons (cC (.str ("thing" : Str))) (aCons (cC (.str ("1" : Str))) (aCons (cC (.str ("-1" : Str))) (aCons (cC (.str ("[1 2]" : Str))) (aCons (cC (.str ("#5" : Str))) (aCons (cC (.str ("a.b" : Str))) (aCons (cC (.str ("a:b" : Str))) (aCons (cC (.str (" " : Str))) aNil)))))))))))))) [some (.ref n), none, none, some (.int r8), some (.int i), none, none, none] h2 = .nx [some (.ref n), some (.ref h2.length), none, some (.int r8), some (.int i), none, none, none] (h2 ++ [.lst (texts.map D.str)]) :=
    sSet_eq (i := 1) (cLst_eq (ds := texts.map D.str) rfl (z (Nat.le_of_ble_eq_true rfl)))
  have q3 : sExpr (cMeth "list" mAppend (cVar 1) (aCons (cC (.str ("twentysigns of all ~" : Str))) aNil)) [some (.ref n), some (.ref h2.length), none, some (.int r8), some (.int i), none, none, none] (h2 ++ [.lst (texts.map D.str)]) = .nx [some (.ref n), some (.ref h2.length), none, some (.int r8), some (.int i), none, none, none] h4 := by
    refine sExpr_eq (d := .non) ((cMeth_eq (F := cVar 1) (d := .ref h2.length) (h1 := h2 ++ [.lst (texts.map D.str)]) (ds := [.str ("twentysigns of all ~" : Str)]) rfl (by simp [isTy, tyD]) rfl).trans ?_)
    have g : (h2 ++ [O.lst (texts.map D.str)])[h2.length]? = some (.lst (texts.map D.str)) := get_last
    simp only [mAppend, g]
    rw [if_pos (by rw [List.length_map, sizeLine_eq]; exact Nat.lt_of_le_of_lt (Nat.le_of_ble_eq_true rfl : texts.length ≤ 13) (by decide)), List.set_append_right (h := Nat.le_refl _), Nat.sub_self]
    show _ = Res.ok D.non (h2 ++ [O.lst ((texts ++ [("twentysigns of all ~" : Str)]).map D.str)])
    rw [List.map_append]
    rfl
  have q4 := sPar3_eq (i := 5) (j := 6) (l := 7) (ε := [some (.ref n), some (.ref h2.length), none, some (.int r8), some (.int i), none, none, none]) (h := h4)
    ((cFn_eq (f := f_l_pick) (A := aCons (cVar 0) (aCons (cVar 1) aNil)) rfl).trans e5) ((cFn_eq (A := aCons (cVar 0) aNil) rfl).trans e6) ((cFn_eq (A := aCons (cVar 0) aNil) rfl).trans e7)
  let ε5 : AEnv := [some (.ref n), some (.ref h2.length), none, some (.int r8), some (.int i), some (.str x), some (.str l1), some (.str l2)]
  have t1 : cTup (aCons (cC (.str ("thing" : Str))) (aCons (cVar 4) aNil)) ε5 h7 = .ok (.tup [.str "thing", .int i]) h7 := cTup_eq rfl (z (Nat.le_of_ble_eq_true rfl))
  have q5 : sSet 2 (cLst (aCons (cC .non) (aCons (cC (.bl true)) (aCons (cC (.bl false)) (aCons (cVar 4) (aCons (cBin opSub (cC (.int 0)) (cVar 4)) (aCons (cVar 5) (aCons (cTup (aCons (cC (.str ("thing" : Str))) (aCons (cVar 4) aNil))) aNil)))))))) ε5 h7 = .nx [some (.ref n), some (.ref h2.length), some (.ref h7.length), some (.int r8), some (.int i), some (.str x), some (.str l1), some (.str l2)] h8 :=
    sSet_eq (i := 2) (cLst_eq (ds := L7) (aCons_eq rfl (aCons_eq rfl (aCons_eq rfl (aCons_eq rfl (aCons_eq ((cBin_eq rfl rfl).trans rfl) (aCons_eq rfl (aCons_eq t1 aNil_eq))))))) (z (Nat.le_of_ble_eq_true rfl)))
  let ε6 : AEnv := [some (.ref n), some (.ref h2.length), some (.ref h7.length), some (.int r8), some (.int i), some (.str x), some (.str l1), some (.str l2)]
  have w1 : cBin opIx (cLst (aCons (cC (.str ("deed" : Str))) (aCons (cC (.str ("kind" : Str))) aNil))) (cFn f_l_dealt (aCons (cVar 0) (aCons (cC (.int 2)) aNil))) ε6 h8 = .ok (.str wx) h9 :=
    (cBin_eq (cLst_eq (ds := words2.map D.str) rfl (z (Nat.le_of_ble_eq_true rfl))) ((cFn_eq (A := aCons (cVar 0) (aCons (cC (.int 2)) aNil)) rfl).trans e9)).trans ew
  have w2 : cTup (aCons (cBin opIx (cLst (aCons (cC (.str ("deed" : Str))) (aCons (cC (.str ("kind" : Str))) aNil))) (cFn f_l_dealt (aCons (cVar 0) (aCons (cC (.int 2)) aNil)))) (aCons (cVar 6) (aCons (cVar 7) aNil))) ε6 h8 = .ok T h9 := cTup_eq (aCons_eq w1 rfl) (z (Nat.le_of_ble_eq_true rfl))
  have ad : opAdd (.ref h7.length) (.ref h9.length) h10 = .ok (.ref h10.length) h11 := by
    have g1 : h10[h7.length]? = some (.lst L7) := get_old k8
    have g2 : h10[h9.length]? = some (.lst [T]) := get_last
    simp only [opAdd, g1, g2]
    rw [if_pos (z (Nat.le_of_ble_eq_true rfl))]
  have fin := (cBin_eq (f := opIx) (G := cVar 3) (y := .int r8) ((cBin_eq (f := opAdd) (F := cVar 2) (ε := ε6) (x := .ref h7.length) rfl (cLst_eq (aCons_eq w2 aNil_eq) (z (Nat.le_of_ble_eq_true rfl)))).trans ad) rfl).trans ed
  exact runB_ret rfl ((sSeq_nx q1).trans ((sSeq_nx q2).trans ((sSeq_nx q3).trans ((sSeq_nx q4).trans ((sSeq_nx q5).trans (sRet_eq fin))))))
end K02

namespace K02
open Mi L2 PySem PySem.Spec PyProof.Rows
/-- closed data: a bound for its text -/
def ck : Nat → D → Option Nat
  | _, .non => some 43
  | _, .bl _ => some 43
  | _, .int i => if smallI i = true then some 43 else none
  | _, .str x => if easy x = true then some 43 else none
  | 0, _ => none
  | k + 1, .tup ds => match omap (ck k) ds with
    | some ns => if ds.length ≤ 1000 then some (ds.length * (ns.foldl max 0 + 2) + 3) else none
    | none => none
  | _, _ => none
theorem omap_mem {α β : Type} {f : α → Option β} : ∀ {xs : List α} {ys : List β}, omap f xs = some ys → ∀ x ∈ xs, ∃ y ∈ ys, f x = some y
  | [], _, _, x, hx => by cases hx
  | a :: xs, ys, e, x, hx => by
    unfold omap at e
    split at e <;> cases e
    rename_i y ys q1 q2
    rcases List.mem_cons.mp hx with rfl | hx
    · exact ⟨y, List.mem_cons_self, q1⟩
    · obtain ⟨z, hz, ez⟩ := omap_mem q2 x hx
      exact ⟨z, List.mem_cons_of_mem _ hz, ez⟩
theorem ck_sure {n m : Nat} {h : AH} : ∀ (k : Nat) (d : D) (L : Nat), ck k d = some L → k ≤ 60 → L ≤ 10000000 → Sure n m h k L d := by
  intro k
  induction k with
  | zero =>
    intro d L e _ _
    cases d with
    | non => cases e; exact sure_non
    | bl b => cases e; exact sure_bl b
    | int i =>
      simp only [ck] at e
      split at e <;> first | (cases e; done) | skip
      rename_i c
      cases e
      exact smallI_sure c
    | str x =>
      simp only [ck] at e
      split at e <;> first | (cases e; done) | skip
      rename_i c
      cases e
      exact easy_sure c
    | _ => cases e
  | succ k ih =>
    intro d L e hk hL
    have up : ∀ {d : D}, Sure n m h 0 43 d → Sure n m h (k + 1) 43 d := fun g => g.mono (by omega) (by omega)
    cases d with
    | non => cases e; exact up sure_non
    | bl b => cases e; exact up (sure_bl b)
    | int i =>
      simp only [ck] at e
      split at e <;> first | (cases e; done) | skip
      rename_i c
      cases e
      exact up (smallI_sure c)
    | str x =>
      simp only [ck] at e
      split at e <;> first | (cases e; done) | skip
      rename_i c
      cases e
      exact up (easy_sure c)
    | tup ds =>
      simp only [ck] at e
      split at e <;> first | (cases e; done) | skip
      rename_i ns q
      split at e <;> cases e
      rename_i c
      have bd : ds ≠ [] → ns.foldl max 0 ≤ 10000000 := fun ne => by
        have p : 1 ≤ ds.length := List.length_pos_iff.mpr ne
        have p2 : 1 * (ns.foldl max 0 + 2) ≤ ds.length * (ns.foldl max 0 + 2) := Nat.mul_le_mul_right _ p
        omega
      by_cases ne : ds = []
      · subst ne
        cases q
        exact Sure.tup (L := 0) (by simp) (by omega) (by omega) (by simp)
      · refine Sure.tup c (by omega) (bd ne) fun d hd => ?_
        obtain ⟨y, hy, ey⟩ := omap_mem q d hd
        have ly := ((max_le ns 0 _).mp (Nat.le_refl _)).2 y hy
        exact (ih d y ey (by omega) (Nat.le_trans ly (bd ne))).mono (Nat.le_refl _) ly
    | _ => cases e
def ckB (k L : Nat) (d : D) : Bool := match ck k d with
  | some M => decide (M ≤ L)
  | none => false
theorem ckB_sure {n m : Nat} {h : AH} {k L : Nat} {d : D} (e : ckB k L d = true) (hk : k ≤ 60) (hL : L ≤ 10000000) : Sure n m h k L d := by
  unfold ckB at e
  split at e <;> first | (cases e; done) | skip
  rename_i M q
  have l := of_decide_eq_true e
  exact (ck_sure k d M q hk (Nat.le_trans l hL)).mono (Nat.le_refl _) l
/-! ### alike_looks -/
def alikes : List D := [.tup [.str "thing", .int 5], .tup [.str "deed", .str "a", .str "b"], .tup [.str "kind", .str "a", .str "b"], .tup [.str "row", .int 5], .tup [.str "row", .tup [.str "row", .tup []]], .tup [.str "row"]]
def looks : List D := alikes.map fun d => .tup [.str "row", d]
theorem looks_ck : (looks.all (ckB 5 400)) = true := by decide +kernel
theorem looks_sure {n m : Nat} {h : AH} {d : D} (hd : d ∈ looks) : Sure n m h 5 400 d := ckB_sure (List.all_eq_true.mp looks_ck d hd) (by omega) (by omega)
theorem alike_ok {h : AH} : ∃ h' s, h <+: h' ∧ h.length ≤ s ∧ f_l_alike_looks [] h = .ok (.ref s) h' ∧ h'[s]? = some (.lst looks) := by
  have z : ∀ {j : Nat}, j ≤ 1000 → j ≤ sizeLine := fun q => by rw [sizeLine_eq]; omega
  have e1 := sSet_eq (i := 0) (ε := [none, none]) (h := h) (cLst_eq (A := aCons (cTup (aCons (cC (.str ("thing" : Str))) (aCons (cC (.int 5)) aNil))) (aCons (cTup (aCons (cC (.str ("deed" : Str))) (aCons (cC (.str ("a" : Str))) (aCons (cC (.str ("b" : Str))) aNil)))) (aCons (cTup (aCons (cC (.str ("kind" : Str))) (aCons (cC (.str ("a" : Str))) (aCons (cC (.str ("b" : Str))) aNil)))) (aCons (cTup (aCons (cC (.str ("row" : Str))) (aCons (cC (.int 5)) aNil))) (aCons (cTup (aCons (cC (.str ("row" : Str))) (aCons (cTup (aCons (cC (.str ("row" : Str))) (aCons (cTup aNil) aNil))) aNil))) (aCons (cTup (aCons (cC (.str ("row" : Str))) aNil)) aNil)))))) (ds := alikes)
    (aCons_eq (cTup_eq rfl (z (Nat.le_of_ble_eq_true rfl))) (aCons_eq (cTup_eq rfl (z (Nat.le_of_ble_eq_true rfl))) (aCons_eq (cTup_eq rfl (z (Nat.le_of_ble_eq_true rfl))) (aCons_eq (cTup_eq rfl (z (Nat.le_of_ble_eq_true rfl))) (aCons_eq (cTup_eq (aCons_eq rfl (aCons_eq (cTup_eq (aCons_eq rfl (aCons_eq (cTup_eq rfl (Nat.zero_le _)) aNil_eq)) (z (Nat.le_of_ble_eq_true rfl))) aNil_eq)) (z (Nat.le_of_ble_eq_true rfl))) (aCons_eq (cTup_eq rfl (z (Nat.le_of_ble_eq_true rfl))) aNil_eq)))))) (z (Nat.le_of_ble_eq_true rfl)))
  have k : (h ++ [O.lst alikes])[h.length]? = some (.lst alikes) := get_last
  obtain ⟨h', p, k', c⟩ := cComp_any (g := gN 1) (t := tYes') (F := cTup (aCons (cC (.str ("row" : Str))) (aCons (cVar 1) aNil))) (own := [1]) (ε := [some (.ref h.length), none]) (iAny_live (F := cVar 0) rfl k) rfl (live_at k) (by rw [sizeLine_eq]; exact Nat.lt_of_le_of_lt (Nat.le_of_ble_eq_true rfl : alikes.length ≤ 6) (by decide))
    (fun d => [some (.ref h.length), some d]) (fun _ => true) (fun d => .tup [.str "row", d]) (fun _ _ _ => rfl) (fun _ _ h2 _ => ⟨h2, List.prefix_refl _, rfl⟩)
    (fun d _ _ h2 _ => ⟨h2, List.prefix_refl _, cTup_eq rfl (z (Nat.le_of_ble_eq_true rfl))⟩)
  rw [List.filter_eq_self.mpr fun _ _ => rfl] at k'
  exact ⟨h', _, (List.prefix_append _ _).trans p, by rw [List.length_append]; omega, runB_ret rfl ((sSeq_nx e1).trans (sRet_eq c)), k'⟩
end K02

namespace K02
open Mi L2 PySem PySem.Spec PyProof.Rows
theorem step_new {n m k : Nat} {h h2 : AH} {o : O} (s : Mi.Step n m h h2) (hk : h.length ≤ k) : Mi.Step n m h (h2.set k o) :=
  ⟨by rw [List.length_set]; exact s.len, fun j h1 h2' h3 => by rw [List.getElem?_set_ne (by omega)]; exact s.keep j h1 h2' h3⟩
theorem Step.ofPre {n m : Nat} {h h' : AH} (p : h <+: h') : Mi.Step n m h h' := by
  obtain ⟨t, rfl⟩ := p
  exact .app
theorem Hand.ofPre {n m : Nat} {c : Int} {h h' : AH} (p : h <+: h') (H : Hand h n m c) : Hand h' n m c := by
  obtain ⟨t, rfl⟩ := p
  exact H.app
theorem eq2_int {h : AH} {a b : Int} : opEq2 (.int a) (.int b) h = .ok (.bl (decide (a = b))) h := rfl
def cst : Nat → Nat
  | 0 => 8
  | k + 1 => 4 * cst k + 8
def txt : Nat → Nat
  | 0 => 400
  | k + 1 => 4 * (txt k + 2) + 15
theorem txt_ge : ∀ k, 400 ≤ txt k
  | 0 => Nat.le_refl _
  | k + 1 => by have := txt_ge k; simp only [txt]; omega
theorem cst_ge : ∀ k, 8 ≤ cst k
  | 0 => Nat.le_refl _
  | k + 1 => by simp only [cst]; omega
theorem drawn_ok {n m : Nat} : ∀ (k f : Nat) (h : AH) (c : Int), k < f → k ≤ 20 → txt k ≤ 1000000 → Hand h n m c → 0 ≤ c → c + cst k < 50000 →
    ∃ (d : D) (h' : AH) (c' : Int), f_l_drawn f [.ref n, .int k] h = .ok d h' ∧ (∀ hh, Sure n m hh (5 + 2 * k) (txt k) d) ∧ Hand h' n m c' ∧ c ≤ c' ∧ c' ≤ c + cst k ∧ Mi.Step n m h h' := by
  intro k
  induction k with
  | zero =>
    intro f h c hf _ _ H hc hc2
    obtain ⟨f, rfl⟩ : ∃ g, f = g + 1 := ⟨f - 1, by omega⟩
    simp only [cst] at hc2 ⊢
    obtain ⟨r6, h1, e1, a1, b1, H1, s1⟩ := dealt_ok (lots := 6) H hc (by omega) (by decide) (by decide)
    obtain ⟨d, h2, e2, g2, H2, s2⟩ := leaf_drawn H1 (by omega) (by omega)
    have q1 : sSet 2 (cFn f_l_dealt (aCons (cVar 0) (aCons (cC (.int 6)) aNil))) [some (.ref n), some (.int 0), none, none] h = .nx [some (.ref n), some (.int 0), some (.int r6), none] h1 := sSet_eq (i := 2) ((cFn_eq (A := aCons (cVar 0) (aCons (cC (.int 6)) aNil)) rfl).trans e1)
    refine ⟨d, h2, _, runB_ret rfl ((sSeq_nx q1).trans (sSeq_ret ((sIf_t (tOr_t (tVal_eq ((cBin_eq rfl rfl).trans eq2_int)))).trans (sRet_eq ((cFn_eq (A := aCons (cVar 0) aNil) rfl).trans e2))))), fun hh => (g2 hh).mono (by omega) (by simp only [txt]; omega), H2, by omega, by omega, s1.trans s2⟩
  | succ k ih =>
    intro f h c hf hk ht H hc hc2
    obtain ⟨f, rfl⟩ : ∃ g, f = g + 1 := ⟨f - 1, by omega⟩
    simp only [cst] at hc2 ⊢
    have hck := cst_ge k
    have htk := txt_ge k
    simp only [txt] at ht ⊢
    obtain ⟨r6, h1, e1, a1, b1, H1, s1⟩ := dealt_ok (lots := 6) H hc (by omega) (by decide) (by decide)
    have q1 : sSet 2 (cFn f_l_dealt (aCons (cVar 0) (aCons (cC (.int 6)) aNil))) [some (.ref n), some (.int ((k + 1 : Nat) : Int)), none, none] h = .nx [some (.ref n), some (.int ((k + 1 : Nat) : Int)), some (.int r6), none] h1 := sSet_eq (i := 2) ((cFn_eq (A := aCons (cVar 0) (aCons (cC (.int 6)) aNil)) rfl).trans e1)
    let ε : AEnv := [some (.ref n), some (.int ((k + 1 : Nat) : Int)), some (.int r6), none]
    have z0 : tVal (cBin opEq2 (cVar 1) (cC (.int 0))) ε h1 = .ok false h1 := by
      refine tVal_eq ((cBin_eq rfl rfl).trans (eq2_int.trans ?_))
      rw [decide_eq_false (by omega)]
    have z1 : tVal (cBin opLt (cVar 2) (cC (.int 2))) ε h1 = .ok (decide (r6 < 2)) h1 := tVal_eq ((cBin_eq rfl rfl).trans rfl)
    by_cases c2 : r6 < 2
    · rw [decide_eq_true c2] at z1
      obtain ⟨d, h2, e2, g2, H2, s2⟩ := leaf_drawn H1 (by omega) (by omega)
      refine ⟨d, h2, _, runB_ret rfl ((sSeq_nx q1).trans (sSeq_ret ((sIf_t ((tOr_f z0).trans z1)).trans (sRet_eq ((cFn_eq (A := aCons (cVar 0) aNil) rfl).trans e2))))), fun hh => (g2 hh).mono (by omega) (by omega), H2, by omega, by omega, s1.trans s2⟩
    rw [decide_eq_false c2] at z1
    have z2 : tVal (cBin opEq2 (cVar 2) (cC (.int 5))) ε h1 = .ok (decide (r6 = 5)) h1 := tVal_eq ((cBin_eq rfl rfl).trans eq2_int)
    by_cases c5 : r6 = 5
    · rw [decide_eq_true c5] at z2
      obtain ⟨h2, s, p2, ls, e2, k2⟩ := alike_ok (h := h1)
      have H2 := Hand.ofPre p2 H1
      have lt1 := H1.lt
      obtain ⟨d, h3, e3, hd, H3, s3⟩ := pick_ok (ds := looks) H2 (by omega) (by omega) k2 (by omega) (by omega) (by simp [looks, alikes]) (Nat.lt_of_le_of_lt (Nat.le_of_ble_eq_true rfl : looks.length ≤ 6) (by decide))
      have pk : cFn f_l_pick (aCons (cVar 0) (aCons (cFn f_l_alike_looks aNil) aNil)) ε h1 = .ok d h3 := (cFn_eq (f := f_l_pick) (aCons_eq (F := cVar 0) rfl (aCons_eq ((cFn_eq aNil_eq).trans e2) aNil_eq))).trans e3
      refine ⟨d, h3, _, runB_ret rfl ((sSeq_nx q1).trans ((sSeq_nx ((sIf_f ((tOr_f z0).trans z1)).trans rfl)).trans (sSeq_ret ((sIf_t z2).trans (sRet_eq pk))))), fun hh => (looks_sure hd).mono (by omega) (by omega), H3, by omega, by omega, s1.trans ((Step.ofPre p2).trans s3)⟩
    rw [decide_eq_false c5] at z2
    obtain ⟨r5, h2, e2, a2, b2, H2, s2⟩ := dealt_ok (lots := 5) H1 (by omega) (by omega) (by decide) (by decide)
    have lt2 := H2.lt
    have hi : iRange1 (cFn f_l_dealt (aCons (cVar 0) (aCons (cC (.int 5)) aNil))) ε h1 = .ok (.fix ((List.range r5.toNat).map fun (i : Nat) => .int (0 + i))) h2 := by
      have e : cFn f_l_dealt (aCons (cVar 0) (aCons (cC (.int 5)) aNil)) ε h1 = .ok (.int r5) h2 := (cFn_eq (A := aCons (cVar 0) (aCons (cC (.int 5)) aNil)) (ε := ε) (h := h1) rfl).trans e2
      unfold iRange1
      rw [e, Res.bind_ok]
      simp only
      rw [if_pos (by rw [Bool.and_eq_true, decide_eq_true_eq, decide_eq_true_eq]; constructor <;> omega)]
    obtain ⟨acc, h3, e3, c3, la, ga, H3, q31, q32, s3, g3⟩ := cComp_inv (g := gN 3) (t := tYes') (F := cFn (f_l_drawn f) (aCons (cVar 0) (aCons (cBin opSub (cVar 1) (cC (.int 1))) aNil))) (own := [3]) hi
      (fun i acc h => ∃ c' : Int, acc.length = i ∧ (∀ d ∈ acc, ∀ hh, Sure n m hh (5 + 2 * k) (txt k) d) ∧ Hand h n m c' ∧ c + 2 ≤ c' ∧ c' ≤ c + 2 + cst k * i ∧ Mi.Step n m h2 h ∧ h[h2.length]? = some (.lst acc)) r5.toNat (by simp [AIt.len]) (by rw [sizeLine_eq]; omega)
      (by rintro i acc h ⟨_, _, _, _, _, _, _, g⟩; exact g) (by rintro i acc h ⟨_, l, _⟩; omega)
      ⟨c + 2, rfl, by simp, (by have := H2.app (os := [.lst []]); rw [show c + 1 + 1 = c + 2 by omega] at this; exact this), by omega, by omega, .app, get_last⟩
      (by
        rintro i acc h' hi ⟨c', l, ga, H', q1, q2, st, g⟩
        have i4 : i ≤ 3 := by omega
        have mi : cst k * i ≤ cst k * 3 := Nat.mul_le_mul_left _ i4
        obtain ⟨d, h4, c4, e4, g4, H4, q3, q4, s4⟩ := ih f h' c' (by omega) (by omega) (by omega) H' (by omega) (by omega)
        have ne1 : h2.length ≠ n := by omega
        have ne2 : h2.length ≠ m := by omega
        have g' : h4[h2.length]? = some (.lst acc) := (s4.keep _ ne1 ne2 (List.getElem?_eq_some_iff.mp g).1).trans g
        have sub : cBin opSub (cVar 1) (cC (.int 1)) [some (.ref n), some (.int ((k + 1 : Nat) : Int)), some (.int r6), some (.int (0 + (i : Int)))] h' = .ok (.int k) h' := by
          refine (cBin_eq rfl rfl).trans ?_
          have e : (((k + 1 : Nat) : Int) - 1) = k := by omega
          show Res.ok (D.int (((k + 1 : Nat) : Int) - 1)) h' = _
          rw [e]
        refine ⟨.int (0 + (i : Int)), [some (.ref n), some (.int ((k + 1 : Nat) : Int)), some (.int r6), some (.int (0 + (i : Int)))], true, h', by simp [AIt.item, hi], rfl, rfl, .inr ⟨rfl, d, h4, (cFn_eq (aCons_eq (F := cVar 0) rfl (aCons_eq sub aNil_eq))).trans e4, g', c4, by rw [List.length_append, l]; rfl, fun x hx => ?_, H4.set ne1 ne2, by omega, by rw [Int.natCast_add, Int.mul_add]; omega, step_new (st.trans s4) (Nat.le_refl _), List.getElem?_set_self (List.getElem?_eq_some_iff.mp g').1⟩⟩
        rcases List.mem_append.mp hx with hx | hx
        · exact ga x hx
        · rw [List.mem_singleton.mp hx]; exact g4)
      (by rintro acc h _; rfl)
    have l4 : acc.length ≤ 4 := by omega
    have mi : (cst k : Int) * (r5.toNat : Int) ≤ cst k * 4 := Int.mul_le_mul_of_nonneg_left (by omega) (by omega)
    have tp : cCall fTuple (aCons (cComp (iRange1 (cFn f_l_dealt (aCons (cVar 0) (aCons (cC (.int 5)) aNil)))) (gN 3) tYes' (cFn (f_l_drawn f) (aCons (cVar 0) (aCons (cBin opSub (cVar 1) (cC (.int 1))) aNil))) [3]) aNil) ε h1 = .ok (.tup acc) h3 := (cCall_eq (aCons_eq e3 aNil_eq)).trans (by simp only [fTuple, g3])
    refine ⟨.tup [.str "row", .tup acc], h3, c3, runB_ret rfl ((sSeq_nx q1).trans ((sSeq_nx ((sIf_f ((tOr_f z0).trans z1)).trans rfl)).trans ((sSeq_nx ((sIf_f z2).trans rfl)).trans (sRet_eq (cTup_eq (aCons_eq rfl (aCons_eq tp aNil_eq)) (by rw [sizeLine_eq]; exact Nat.le_of_ble_eq_true rfl)))))), fun hh => ?_, H3, by omega, by omega, s1.trans (s2.trans s3)⟩
    have g := (Sure.tup (n := n) (m := m) (h := hh) (ds := acc) (by omega) (by omega) (by omega) fun d hd => ga d hd hh).row
    have ml : acc.length * (txt k + 2) ≤ 4 * (txt k + 2) := Nat.mul_le_mul_right _ l4
    exact g.mono (by omega) (by omega)
end K02

namespace K02
open Mi L2 PySem PySem.Spec PyProof.Rows
theorem mul_one {F : EF} {ε : AEnv} {h h1 : AH} {x : D} {j : Nat} (e : F ε h = .ok x h1) (h1' : 2 ≤ j) (h2' : j ≤ 1000) : cBin opMul (cTup (aCons F aNil)) (cC (.int j)) ε h = .ok (.tup (List.replicate j x)) h1 := by
  have t : cTup (aCons F aNil) ε h = .ok (.tup [x]) h1 := cTup_eq (aCons_eq e aNil_eq) (by rw [sizeLine_eq]; exact Nat.le_of_ble_eq_true rfl)
  refine (cBin_eq t rfl).trans ?_
  have c : (!([x] : List D).isEmpty && decide ((2 : Int) ≤ j) && decide ((j : Int) ≤ 1000) && decide (([x] : List D).length ≤ 1000)) = true := by
    rw [decide_eq_true (show (2 : Int) ≤ j by omega), decide_eq_true (show (j : Int) ≤ 1000 by omega)]
    rfl
  have fl : ∀ n : Nat, (List.replicate n [x]).flatten = List.replicate n x := fun n => by
    induction n with
    | zero => rfl
    | succ n ih => rw [List.replicate_succ, List.flatten_cons, ih]; rfl
  simp only [opMul]
  rw [if_pos c, Int.toNat_natCast, fl]
theorem wideE {F : EF} {ε : AEnv} {h : AH} {x : D} {j : Nat} (e : F ε h = .ok x h) (h1 : 2 ≤ j) (h2 : j ≤ 1000) : cFn f_l_wide (aCons F (aCons (cC (.int j)) aNil)) ε h = .ok (.tup [.str "row", .tup (List.replicate j x)]) h := (cFn_eq (aCons_eq e rfl)).trans (wide_ok h1 h2)
theorem chainE {F : EF} {ε : AEnv} {h : AH} {x : D} {j : Nat} (e : F ε h = .ok x h) (h2 : j ≤ 1000) : cFn f_l_chain (aCons F (aCons (cC (.int j)) aNil)) ε h = .ok (chainD j x) h := (cFn_eq (aCons_eq e rfl)).trans (chain_ok h2)
abbrev wideD (j : Nat) (x : D) : D := .tup [.str "row", .tup (List.replicate j x)]
theorem greatest_ok {h : AH} {n m : Nat} {c : Int} (H : Hand h n m c) (hc : 0 ≤ c) (hc2 : c < 40000) : ∃ (s : Nat) (h' : AH) (ds : List D), f_l_greatest [.ref n] h = .ok (.ref s) h' ∧ h'[s]? = some (.lst ds) ∧ ds.length = 4 ∧ (∀ d ∈ ds, ∀ hh, Sure n m hh 20 60000 d) ∧ Hand h' n m (c + 12) ∧ Mi.Step n m h h' ∧ h.length ≤ s := by
  have z : ∀ {j : Nat}, j ≤ 1000 → j ≤ sizeLine := fun q => by rw [sizeLine_eq]; omega
  obtain ⟨x, h1, e1, g1, H1, s1⟩ := leaf_drawn H hc (by omega)
  obtain ⟨y, h2, e2, g2, H2, s2⟩ := leaf_drawn H1 (by omega) (by omega)
  have q1 := sPar2_eq (i := 2) (j := 3) (ε := [some (.ref n), none, none, none]) ((cFn_eq (A := aCons (cVar 0) aNil) rfl).trans e1) ((cFn_eq (A := aCons (cVar 0) aNil) rfl).trans e2)
  let ε : AEnv := [some (.ref n), none, some x, some y]
  let L3 : List D := [chainD 8 x, wideD 40 x, chainD 7 (wideD 40 x)]
  have q2 : sSet 1 (cLst (aCons (cFn f_l_chain (aCons (cVar 2) (aCons (cC (.int 8)) aNil))) (aCons (cFn f_l_wide (aCons (cVar 2) (aCons (cC (.int 40)) aNil))) (aCons (cFn f_l_chain (aCons (cFn f_l_wide (aCons (cVar 2) (aCons (cC (.int 40)) aNil))) (aCons (cC (.int 7)) aNil))) aNil)))) ε h2 = .nx [some (.ref n), some (.ref h2.length), some x, some y] (h2 ++ [.lst L3]) :=
    sSet_eq (i := 1) (cLst_eq (ds := L3) (aCons_eq (chainE (j := 8) rfl (by omega)) (aCons_eq (wideE (j := 40) rfl (by omega) (by omega)) (aCons_eq (chainE (j := 7) (wideE (j := 40) rfl (by omega) (by omega)) (by omega)) aNil_eq))) (z (Nat.le_of_ble_eq_true rfl)))
  let ε2 : AEnv := [some (.ref n), some (.ref h2.length), some x, some y]
  let h3 : AH := h2 ++ [.lst L3]
  let B : List D := List.replicate 5 (wideD 38 x) ++ List.replicate 4 y
  have b1 : cBin opAdd (cBin opMul (cTup (aCons (cFn f_l_wide (aCons (cVar 2) (aCons (cC (.int 38)) aNil))) aNil)) (cC (.int 5))) (cBin opMul (cTup (aCons (cVar 3) aNil)) (cC (.int 4))) ε2 h3 = .ok (.tup B) h3 := by
    refine (cBin_eq (mul_one (j := 5) (wideE (j := 38) rfl (by omega) (by omega)) (by omega) (by omega)) (mul_one (F := cVar 3) (j := 4) rfl (by omega) (by omega))).trans ?_
    simp only [opAdd]
    rw [if_pos (by simp only [List.length_replicate]; exact z (by omega))]
  have b2 : cLst (aCons (cTup (aCons (cC (.str ("row" : Str))) (aCons (cBin opAdd (cBin opMul (cTup (aCons (cFn f_l_wide (aCons (cVar 2) (aCons (cC (.int 38)) aNil))) aNil)) (cC (.int 5))) (cBin opMul (cTup (aCons (cVar 3) aNil)) (cC (.int 4)))) aNil))) aNil) ε2 h3 = .ok (.ref h3.length) (h3 ++ [.lst [.tup [.str "row", .tup B]]]) :=
    cLst_eq (aCons_eq (cTup_eq (aCons_eq rfl (aCons_eq b1 aNil_eq)) (z (Nat.le_of_ble_eq_true rfl))) aNil_eq) (z (Nat.le_of_ble_eq_true rfl))
  let h4 : AH := h3 ++ [.lst [.tup [.str "row", .tup B]]]
  let ds : List D := L3 ++ [.tup [.str "row", .tup B]]
  have ad : opAdd (.ref h2.length) (.ref h3.length) h4 = .ok (.ref h4.length) (h4 ++ [.lst ds]) := by
    have k1 : h4[h2.length]? = some (.lst L3) := get_old get_last
    have k2 : h4[h3.length]? = some (.lst [.tup [.str "row", .tup B]]) := get_last
    simp only [opAdd, k1, k2]
    rw [if_pos (z (Nat.le_of_ble_eq_true rfl))]
  have st : Mi.Step n m h (h4 ++ [.lst ds]) := s1.trans (s2.trans (Step.app.trans (Step.app.trans Step.app)))
  refine ⟨h4.length, h4 ++ [.lst ds], ds, runB_ret rfl ((sSeq_nx q1).trans ((sSeq_nx q2).trans (sRet_eq ((cBin_eq (F := cVar 1) rfl b2).trans ad)))), get_last, rfl, fun d hd hh => ?_, ?_, st, ?_⟩
  · have w : ∀ j, j ≤ 41 → Sure n m hh 3 (j * 140 + 15) (wideD j x) := fun j hj => Sure.wide (by omega) (by omega) (by omega) (g1 hh)
    simp only [ds, L3, List.cons_append, List.nil_append, List.mem_cons, List.not_mem_nil, or_false] at hd
    rcases hd with rfl | rfl | rfl | rfl
    · exact (Sure.chain 8 (by omega) (by omega) (g1 hh)).mono (by omega) (by omega)
    · exact (w 40 (by omega)).mono (by omega) (by omega)
    · exact (Sure.chain 7 (by omega) (by omega) (w 40 (by omega))).mono (by omega) (by omega)
    · refine (Sure.row (Sure.tup (k := 3) (L := 5335) (by simp [B]) (by omega) (by omega) fun d hd => ?_)).mono (by omega) (by simp [B])
      rcases List.mem_append.mp hd with hd | hd
      · rw [List.eq_of_mem_replicate hd]; exact (w 38 (by omega)).mono (by omega) (by omega)
      · rw [List.eq_of_mem_replicate hd]; exact (g2 hh).mono (by omega) (by omega)
  · have := ((H2.app (os := [.lst L3])).app (os := [.lst [.tup [.str "row", .tup B]]])).app (os := [.lst ds])
    rw [show c + 6 + 6 = c + 12 by omega] at this
    exact this
  · have l1 := s1.len
    have l2 := s2.len
    have e3 : h3.length = h2.length + 1 := by simp [h3]
    have e4 : h4.length = h3.length + 1 := by simp [h4]
    omega
end K02

namespace K02
open Mi L2 PySem PySem.Spec PyProof.Rows
theorem beyond_ok {h : AH} {n m : Nat} {c : Int} (H : Hand h n m c) (hc : 0 ≤ c) (hc2 : c < 40000) : ∃ (s : Nat) (h' : AH) (ds : List D), f_l_beyond [.ref n] h = .ok (.ref s) h' ∧ h'[s]? = some (.lst ds) ∧ ds.length = 5 ∧ (∀ d ∈ ds, ∀ hh, Sure n m hh 20 60000 d) ∧ Hand h' n m (c + 12) ∧ Mi.Step n m h h' ∧ h.length ≤ s := by
  have z : ∀ {j : Nat}, j ≤ 1000 → j ≤ sizeLine := fun q => by rw [sizeLine_eq]; omega
  obtain ⟨x, h1, e1, g1, H1, s1⟩ := leaf_drawn H hc (by omega)
  obtain ⟨y, h2, e2, g2, H2, s2⟩ := leaf_drawn H1 (by omega) (by omega)
  have q1 := sPar2_eq (i := 2) (j := 3) (ε := [some (.ref n), none, none, none]) ((cFn_eq (A := aCons (cVar 0) aNil) rfl).trans e1) ((cFn_eq (A := aCons (cVar 0) aNil) rfl).trans e2)
  let ε : AEnv := [some (.ref n), none, some x, some y]
  let L3 : List D := [chainD 9 x, wideD 41 x, chainD 8 (wideD 40 x)]
  have q2 : sSet 1 (cLst (aCons (cFn f_l_chain (aCons (cVar 2) (aCons (cC (.int 9)) aNil))) (aCons (cFn f_l_wide (aCons (cVar 2) (aCons (cC (.int 41)) aNil))) (aCons (cFn f_l_chain (aCons (cFn f_l_wide (aCons (cVar 2) (aCons (cC (.int 40)) aNil))) (aCons (cC (.int 8)) aNil))) aNil)))) ε h2 = .nx [some (.ref n), some (.ref h2.length), some x, some y] (h2 ++ [.lst L3]) :=
    sSet_eq (i := 1) (cLst_eq (ds := L3) (aCons_eq (chainE (j := 9) rfl (by omega)) (aCons_eq (wideE (j := 41) rfl (by omega) (by omega)) (aCons_eq (chainE (j := 8) (wideE (j := 40) rfl (by omega) (by omega)) (by omega)) aNil_eq))) (z (Nat.le_of_ble_eq_true rfl)))
  let ε2 : AEnv := [some (.ref n), some (.ref h2.length), some x, some y]
  let h3 : AH := h2 ++ [.lst L3]
  let B : List D := List.replicate 5 (wideD 38 x) ++ List.replicate 5 y
  have b1 : cBin opAdd (cBin opMul (cTup (aCons (cFn f_l_wide (aCons (cVar 2) (aCons (cC (.int 38)) aNil))) aNil)) (cC (.int 5))) (cBin opMul (cTup (aCons (cVar 3) aNil)) (cC (.int 5))) ε2 h3 = .ok (.tup B) h3 := by
    refine (cBin_eq (mul_one (j := 5) (wideE (j := 38) rfl (by omega) (by omega)) (by omega) (by omega)) (mul_one (F := cVar 3) (j := 5) rfl (by omega) (by omega))).trans ?_
    simp only [opAdd]
    rw [if_pos (by simp only [List.length_replicate]; exact z (by omega))]
  let B2 : List D := List.replicate 5 (wideD 39 x)
  have b3 := mul_one (ε := ε2) (h := h3) (j := 5) (wideE (F := cVar 2) (ε := ε2) (h := h3) (j := 39) rfl (by omega) (by omega)) (by omega) (by omega)
  have b2 : cLst (aCons (cTup (aCons (cC (.str ("row" : Str))) (aCons (cBin opAdd (cBin opMul (cTup (aCons (cFn f_l_wide (aCons (cVar 2) (aCons (cC (.int 38)) aNil))) aNil)) (cC (.int 5))) (cBin opMul (cTup (aCons (cVar 3) aNil)) (cC (.int 5)))) aNil))) (aCons (cTup (aCons (cC (.str ("row" : Str))) (aCons (cBin opMul (cTup (aCons (cFn f_l_wide (aCons (cVar 2) (aCons (cC (.int 39)) aNil))) aNil)) (cC (.int 5))) aNil))) aNil)) ε2 h3 = .ok (.ref h3.length) (h3 ++ [.lst [.tup [.str "row", .tup B], .tup [.str "row", .tup B2]]]) :=
    cLst_eq (aCons_eq (cTup_eq (aCons_eq rfl (aCons_eq b1 aNil_eq)) (z (Nat.le_of_ble_eq_true rfl))) (aCons_eq (cTup_eq (aCons_eq rfl (aCons_eq b3 aNil_eq)) (z (Nat.le_of_ble_eq_true rfl))) aNil_eq)) (z (Nat.le_of_ble_eq_true rfl))
  let h4 : AH := h3 ++ [.lst [.tup [.str "row", .tup B], .tup [.str "row", .tup B2]]]
  let ds : List D := L3 ++ [.tup [.str "row", .tup B], .tup [.str "row", .tup B2]]
  have ad : opAdd (.ref h2.length) (.ref h3.length) h4 = .ok (.ref h4.length) (h4 ++ [.lst ds]) := by
    have k1 : h4[h2.length]? = some (.lst L3) := get_old get_last
    have k2 : h4[h3.length]? = some (.lst [.tup [.str "row", .tup B], .tup [.str "row", .tup B2]]) := get_last
    simp only [opAdd, k1, k2]
    rw [if_pos (z (Nat.le_of_ble_eq_true rfl))]
  have st : Mi.Step n m h (h4 ++ [.lst ds]) := s1.trans (s2.trans (Step.app.trans (Step.app.trans Step.app)))
  refine ⟨h4.length, h4 ++ [.lst ds], ds, runB_ret rfl ((sSeq_nx q1).trans ((sSeq_nx q2).trans (sRet_eq ((cBin_eq (F := cVar 1) rfl b2).trans ad)))), get_last, rfl, fun d hd hh => ?_, ?_, st, ?_⟩
  · have w : ∀ j, j ≤ 41 → Sure n m hh 3 (j * 140 + 15) (wideD j x) := fun j hj => Sure.wide (by omega) (by omega) (by omega) (g1 hh)
    simp only [ds, L3, List.cons_append, List.nil_append, List.mem_cons, List.not_mem_nil, or_false] at hd
    rcases hd with rfl | rfl | rfl | rfl | rfl
    · exact (Sure.chain 9 (by omega) (by omega) (g1 hh)).mono (by omega) (by omega)
    · exact (w 41 (by omega)).mono (by omega) (by omega)
    · exact (Sure.chain 8 (by omega) (by omega) (w 40 (by omega))).mono (by omega) (by omega)
    · refine (Sure.row (Sure.tup (k := 3) (L := 5335) (by simp [B]) (by omega) (by omega) fun d hd => ?_)).mono (by omega) (by simp [B])
      rcases List.mem_append.mp hd with hd | hd
      · rw [List.eq_of_mem_replicate hd]; exact (w 38 (by omega)).mono (by omega) (by omega)
      · rw [List.eq_of_mem_replicate hd]; exact (g2 hh).mono (by omega) (by omega)
    · refine (Sure.row (Sure.tup (k := 3) (L := 5475) (by simp [B2]) (by omega) (by omega) fun d hd => ?_)).mono (by omega) (by simp [B2])
      rw [List.eq_of_mem_replicate hd]; exact (w 39 (by omega)).mono (by omega) (by omega)
  · have := ((H2.app (os := [.lst L3])).app (os := [.lst [.tup [.str "row", .tup B], .tup [.str "row", .tup B2]]])).app (os := [.lst ds])
    rw [show c + 6 + 6 = c + 12 by omega] at this
    exact this
  · have l1 := s1.len
    have l2 := s2.len
    have e3 : h3.length = h2.length + 1 := by simp [h3]
    have e4 : h4.length = h3.length + 1 := by simp [h4]
    omega
end K02

namespace K02
open Mi L2 PySem PySem.Spec PyProof.Rows
/-- the last row of the law: all that stands in `some` is Good, so nothing is found -/
theorem last_ok {V : FV} (dV : V.a_is_single ≠ V.a_is_plain_single) {h : AH} {s : Nat} {ds : List D} {x0 x1 x2 x4 x5 x6 : Option D} (e : h[s]? = some (.lst ds)) (hs : ds.length ≤ 1000) (g : ∀ d ∈ ds, Good h 29 10000000 d) :
    ∃ h', h <+: h' ∧ cBin opEq2 (cComp (iAny (cBin opAdd (cVar 3) (cRev (cVar 3)))) (gN 5) (tNot' (tVal (cFn (f_l_right V) (aCons (cVar 5) aNil)))) (cVar 5) [5]) (cLst aNil) [x0, x1, x2, some (.ref s), x4, x5, x6] h = .ok (.bl true) h' := by
  let h1 : AH := h ++ [.lst ds.reverse]
  let h2 : AH := h1 ++ [.lst (ds ++ ds.reverse)]
  have rv : cRev (cVar 3) [x0, x1, x2, some (.ref s), x4, x5, x6] h = .ok (.ref h.length) h1 := by
    show (Res.ok (D.ref s) h).bind _ = _
    rw [Res.bind_ok]
    simp only [revD, e]
    rfl
  have ad : cBin opAdd (cVar 3) (cRev (cVar 3)) [x0, x1, x2, some (.ref s), x4, x5, x6] h = .ok (.ref h1.length) h2 := by
    refine (cBin_eq (F := cVar 3) (x := .ref s) rfl rv).trans ?_
    have k1 : h1[s]? = some (.lst ds) := get_old e
    have k2 : h1[h.length]? = some (.lst ds.reverse) := get_last
    simp only [opAdd, k1, k2]
    rw [if_pos (by rw [List.length_reverse, sizeLine_eq]; omega)]
  have k : h2[h1.length]? = some (.lst (ds ++ ds.reverse)) := get_last
  have p : h <+: h2 := (List.prefix_append _ _).trans (List.prefix_append _ _)
  obtain ⟨h3, p3, k3, c3⟩ := cComp_any (g := gN 5) (t := tNot' (tVal (cFn (f_l_right V) (aCons (cVar 5) aNil)))) (F := cVar 5) (own := [5]) (iAny_live ad k) rfl (live_at k) (by rw [List.length_append, List.length_reverse, sizeLine_eq]; omega)
    (fun d => [x0, x1, x2, some (.ref s), x4, some d, x6]) (fun _ => false) id (fun _ _ _ => rfl)
    (fun d hd h' p' => by
      have gd : Good h' 29 10000000 d := (g d (by
        rcases List.mem_append.mp hd with hd | hd
        · exact hd
        · exact List.mem_reverse.mp hd)).pre (p.trans p')
      obtain ⟨h4, p4, e4⟩ := gd.right dV (Nat.le_refl _) (Nat.le_refl _)
      exact ⟨h4, p4, tNot_eq (tVal_eq ((cFn_eq (aCons_eq rfl aNil_eq)).trans e4))⟩)
    (fun d _ e => by cases e)
  obtain ⟨h5, p5, e5⟩ := lst_nil2 c3 k3
  refine ⟨h5, (p.trans p3).trans p5, e5.trans ?_⟩
  have : (((ds ++ ds.reverse).filter fun _ => false).map id).isEmpty = true := by simp
  rw [this]
end K02

namespace K02
open Mi L2 PySem PySem.Spec PyProof.Rows
/-! ### what stays good, whatever the hand and the growing row do -/
/-- all but what X names is as it was -/
structure Later (X : List Nat) (h h' : AH) : Prop where
  len : h.length ≤ h'.length
  keep : ∀ k, k ∉ X → k < h.length → h'[k]? = h[k]?
section
variable {X : List Nat} {h h1 h2 : AH} {k L : Nat} {d : D}
theorem Later.refl : Later X h h := ⟨Nat.le_refl _, fun _ _ _ => rfl⟩
theorem Later.trans (a : Later X h h1) (b : Later X h1 h2) : Later X h h2 :=
  ⟨Nat.le_trans a.len b.len, fun k hk hl => (b.keep k hk (Nat.lt_of_lt_of_le hl a.len)).trans (a.keep k hk hl)⟩
theorem Later.app {os : AH} : Later X h (h ++ os) := ⟨by simp, fun k _ hl => by rw [List.getElem?_append_left hl]⟩
theorem Later.set {j : Nat} {o : O} (hj : j ∈ X) : Later X h (h.set j o) := ⟨by simp, fun k hk _ => by rw [List.getElem?_set_ne (show j ≠ k from fun e => hk (e ▸ hj))]⟩
theorem Later.ofStep {n m : Nat} (hn : n ∈ X) (hm : m ∈ X) (s : Mi.Step n m h h1) : Later X h h1 := ⟨s.len, fun k hk hl => s.keep k (fun e => hk (e ▸ hn)) (fun e => hk (e ▸ hm)) hl⟩
theorem Later.ofPre (p : h <+: h1) : Later X h h1 := by
  obtain ⟨t, rfl⟩ := p
  exact .app
/-- good in each later store, its data the same there -/
structure Fits (X : List Nat) (h : AH) (k L : Nat) (d : D) : Prop where
  con : ∃ p, ∀ h', Later X h h' → pdx k h' d = some p
  good : ∀ h', Later X h h' → Good h' k L d
theorem Fits.later (l : Later X h h1) (f : Fits X h k L d) : Fits X h1 k L d :=
  ⟨let ⟨p, e⟩ := f.con; ⟨p, fun h' q => e h' (l.trans q)⟩, fun h' q => f.good h' (l.trans q)⟩
theorem Fits.mono {k' L' : Nat} (hk : k ≤ k') (hL : L ≤ L') (f : Fits X h k L d) : Fits X h k' L' d :=
  ⟨let ⟨p, e⟩ := f.con; ⟨p, fun h' q => pdx_le (e h' q) _ hk⟩, fun h' q => (f.good h' q).mono hk hL⟩
theorem Fits.ofSure {n m : Nat} (g : ∀ hh, Sure n m hh k L d) : Fits X h k L d := by
  obtain ⟨p, a, _, _⟩ := (g []).good.text
  exact ⟨⟨p, fun h' _ => pdx_pre (List.nil_prefix) _ _ _ a⟩, fun h' _ => (g h').good⟩
theorem con_tup : ∀ {ds : List D}, (∀ d ∈ ds, ∃ p, ∀ h', Later X h h' → pdx k h' d = some p) → ∃ ps, ∀ h', Later X h h' → omap (pdx k h') ds = some ps
  | [], _ => ⟨[], fun _ _ => rfl⟩
  | d :: ds, g => by
    obtain ⟨p, e⟩ := g d List.mem_cons_self
    obtain ⟨ps, es⟩ := con_tup (ds := ds) fun x hx => g x (List.mem_cons_of_mem _ hx)
    exact ⟨p :: ps, fun h' q => by simp only [omap, e h' q, es h' q]⟩
theorem Fits.tup {ds : List D} (hn : ds.length ≤ 1000) (hk : k ≤ 60) (hL : L ≤ 10000000) (g : ∀ d ∈ ds, Fits X h k L d) : Fits X h (k + 1) (ds.length * (L + 2) + 3) (.tup ds) := by
  refine ⟨?_, fun h' q => Good.tup hn hk hL fun d hd => (g d hd).good h' q⟩
  obtain ⟨ps, e⟩ := con_tup fun d hd => (g d hd).con
  exact ⟨.tuple ps, fun h' q => by rw [pdx, e h' q]; rfl⟩
theorem fits_str {x : Str} (e : easy x = true) : Fits X h 0 43 (.str x) := Fits.ofSure (n := 0) (m := 0) fun _ => easy_sure e
theorem fits_non : Fits X h 0 43 .non := Fits.ofSure (n := 0) (m := 0) fun _ => sure_non
theorem Fits.up {d : D} (hk : k ≤ k + 1 := by omega) (f : Fits X h 0 43 d) (hL : 43 ≤ L) : Fits X h k L d := f.mono (Nat.zero_le _) hL
theorem pdx_strE {n : Nat} {h : AH} {x : Str} : pdx n h (.str x) = some (.str x) := by cases n <;> rfl
theorem Fits.row {ps : List D} (f : Fits X h k L (.tup ps)) : Fits X h (k + 1) (L + 12) (.tup [.str "row", .tup ps]) := by
  refine ⟨?_, fun h' q => (f.good h' q).row⟩
  obtain ⟨p, e⟩ := f.con
  exact ⟨.tuple [.str "row", p], fun h' q => by rw [pdx]; simp only [omap, pdx_strE, e h' q, Option.map_some]⟩
theorem Fits.one {x : D} (hk : k ≤ 60) (hL : L ≤ 10000000) (f : Fits X h k L x) : Fits X h (k + 1) (L + 5) (.tup [x]) := by
  refine ⟨?_, fun h' q => (f.good h' q).one hk hL⟩
  obtain ⟨p, e⟩ := f.con
  exact ⟨.tuple [p], fun h' q => by rw [pdx]; simp only [omap, e h' q, Option.map_some]⟩
theorem Fits.lst {r : Nat} {ds : List D} (e : h[r]? = some (.lst ds)) (hr : r ∉ X) (g : ∀ d ∈ ds, Fits X h k L d) : Fits X h (k + 1) (ds.length * (L + 2) + 3) (.ref r) := by
  have e' : ∀ h', Later X h h' → h'[r]? = some (.lst ds) := fun h' q => (q.keep r hr (List.getElem?_eq_some_iff.mp e).1).trans e
  refine ⟨?_, fun h' q => ⟨.lst r ds (e' h' q), .one _ _ fun _ => D.noConfusion, Sm.lst (e' h' q) fun d hd => ((g d hd).good h' q).text⟩⟩
  obtain ⟨ps, es⟩ := con_tup fun d hd => (g d hd).con
  exact ⟨.list ps, fun h' q => by simp only [pdx, e' h' q, es h' q, Option.map_some]⟩
theorem Fits.dic {r : Nat} (e : h[r]? = some (.dic [])) (hr : r ∉ X) : Fits X h 1 43 (.ref r) := by
  have e' : ∀ h', Later X h h' → h'[r]? = some (.dic []) := fun h' q => (q.keep r hr (List.getElem?_eq_some_iff.mp e).1).trans e
  have z : ∀ h', Later X h h' → pdx 1 h' (.ref r) = some (.dict []) := fun h' q => by simp only [pdx, e' h' q, List.map_nil, omap, Option.map_some, List.zip_nil_left]
  refine ⟨⟨.dict [], z⟩, fun h' q => ⟨.dic r [] (e' h' q), .one _ _ fun _ => D.noConfusion, .dict [], z h' q, by simp [PyData.showable, PyData.showableKv], ?_⟩⟩
  rw [PyData.shown, PyData.shownKv]
  exact Nat.le_of_ble_eq_true (by decide +kernel)
end
/-! ### the text of a tuple -/
theorem join_ge (sep : Str) : ∀ ts : List Str, (ts.map (·.length)).sum ≤ (Str.join sep ts).length
  | [] => Nat.zero_le _
  | [t] => by simp [Str.join]
  | t :: u :: r => by
    have h := join_ge sep (u :: r)
    simp only [List.map_cons, List.sum_cons] at h ⊢
    rw [Str.join, strLen_append, strLen_append]
    · omega
    · exact List.cons_ne_nil _ _
theorem tupleText_ge (ts : List Str) : (ts.map (·.length)).sum ≤ (tupleText ts).length := by
  have h := join_ge ", " ts
  unfold tupleText
  rw [strLen_append, strLen_append]
  omega
theorem shownAll_map : ∀ ps : List PyData, PyData.shownAll ps = ps.map PyData.shown
  | [] => by simp [PyData.shownAll]
  | p :: ps => by simp [PyData.shownAll, shownAll_map ps]
theorem showableAll_all : ∀ ps : List PyData, PyData.showableAll ps = ps.all PyData.showable
  | [] => by simp [PyData.showableAll]
  | p :: ps => by simp [PyData.showableAll, showableAll_all ps]
theorem sum_set : ∀ (l : List Nat) (r b : Nat) (hr : r < l.length), (l.set r b).sum + l[r] = l.sum + b
  | a :: l, 0, b, _ => by simp [List.set]; omega
  | a :: l, r + 1, b, hr => by
    have h := sum_set l r b (by simpa using hr)
    simp only [List.set_cons_succ, List.sum_cons, List.getElem_cons_succ]
    omega
theorem sum_mem {l : List Nat} {x : Nat} (h : x ∈ l) : x ≤ l.sum := by
  induction l with
  | nil => cases h
  | cons a l ih =>
    rw [List.sum_cons]
    rcases List.mem_cons.mp h with rfl | h
    · omega
    · have := ih h; omega
theorem omap_at {α β : Type} {f : α → Option β} : ∀ {xs : List α} {ys : List β}, omap f xs = some ys → ∀ (i : Nat) (h1 : i < xs.length) (h2 : i < ys.length), f xs[i] = some ys[i]
  | [], _, _, i, h1, _ => absurd h1 (Nat.not_lt_zero _)
  | x :: xs, ys, e, i, h1, h2 => by
    unfold omap at e
    split at e <;> cases e
    rename_i q1 q2
    cases i with
    | zero => exact q1
    | succ i => exact omap_at q2 i (by simpa using h1) (by simpa using h2)
theorem omap_set {α β : Type} {f : α → Option β} {x : α} {y : β} (e2 : f x = some y) : ∀ {xs : List α} {ys : List β} (i : Nat), omap f xs = some ys → omap f (xs.set i x) = some (ys.set i y)
  | [], _, i, e => by cases e; rfl
  | a :: xs, ys, i, e => by
    unfold omap at e
    split at e <;> cases e
    rename_i q1 q2
    cases i with
    | zero => simp only [List.set_cons_zero, omap, e2, q2]
    | succ i => simp only [List.set_cons_succ, omap, q1, omap_set e2 i q2]
/-- a tuple with one part put otherwise -/
theorem Fits.put {X : List Nat} {h : AH} {k L : Nat} {ds : List D} (hL : L ≤ 10000000) (hk : k ≤ 59) (f : Fits X h (k + 1) L (.tup ds)) {r : Nat} (hr : r < ds.length) :
    ∃ Lr, Lr ≤ L ∧ Fits X h k Lr ds[r] ∧ ∀ (h1 : AH) (k' B : Nat) (x : D), Later X h h1 → k ≤ k' → k' ≤ 59 → Lr + B ≤ 10000000 → Fits X h1 k' (Lr + B) x → Fits X h1 (k' + 1) (L + B + 2003) (.tup (ds.set r x)) := by
  obtain ⟨p, ep⟩ := f.con
  obtain ⟨ps, rfl⟩ : ∃ ps, p = .tuple ps := by
    have := ep h .refl
    rw [pdx, Option.map_eq_some_iff] at this
    obtain ⟨ps, _, e⟩ := this
    exact ⟨ps, e.symm⟩
  have es : ∀ h', Later X h h' → omap (pdx k h') ds = some ps := fun h' q => by
    have := ep h' q
    rw [pdx, Option.map_eq_some_iff] at this
    obtain ⟨ps', e1, e2⟩ := this
    cases e2
    exact e1
  have lp : ps.length = ds.length := omap_length (es h .refl)
  have hr' : r < ps.length := by omega
  obtain ⟨q, eq, sq, tq⟩ := (f.good h .refl).text
  rw [ep h .refl] at eq
  cases eq
  rw [PyData.showable, showableAll_all] at sq
  rw [PyData.shown, shownAll_map] at tq
  have ge := tupleText_ge (ps.map PyData.shown)
  rw [List.map_map] at ge
  have le1 : ∀ i (hi : i < ps.length), (ps[i].shown).length ≤ L := fun i hi => by
    have : (ps[i].shown).length ∈ ps.map ((fun t : Str => t.length) ∘ PyData.shown) := List.mem_map.mpr ⟨ps[i], List.getElem_mem hi, rfl⟩
    have := sum_mem this
    omega
  have sh : ∀ i (hi : i < ps.length), ps[i].showable = true := fun i hi => List.all_eq_true.mp sq _ (List.getElem_mem hi)
  have fits : ∀ i (hi : i < ds.length), Fits X h k (ps[i]'(by omega)).shown.length ds[i] := fun i hi => by
    refine ⟨⟨ps[i]'(by omega), fun h' q => omap_at (es h' q) i hi (by omega)⟩, fun h' q => ?_⟩
    refine ⟨?_, ?_, ps[i]'(by omega), omap_at (es h' q) i hi (by omega), sh i (by omega), Nat.le_refl _⟩
    · cases (f.good h' q).fair with
      | tup _ _ g => exact g _ (List.getElem_mem hi)
    · cases (f.good h' q).deep with
      | one _ _ g => exact absurd rfl (g ds)
      | tup _ _ _ g => exact g _ (List.getElem_mem hi)
  refine ⟨(ps[r]).shown.length, le1 r hr', fits r hr, fun h1 k' B x l hk' hk2 hB fx => ?_⟩
  have ld : ds.length ≤ 1000 := by
    cases (f.good h .refl).fair with
    | tup _ a _ => exact a
  have all : ∀ d ∈ ds.set r x, (∃ i, ∃ hi : i < ds.length, d = ds[i]) ∨ d = x := fun d hd => by
    rcases List.mem_or_eq_of_mem_set hd with hd | hd
    · obtain ⟨i, hi, e⟩ := List.mem_iff_getElem.mp hd
      exact .inl ⟨i, hi, e.symm⟩
    · exact .inr hd
  obtain ⟨px, ex⟩ := fx.con
  have eo : ∀ h', Later X h1 h' → omap (pdx k' h') (ds.set r x) = some (ps.set r px) := fun h' q =>
    omap_set (ex h' q) r (omap_imp (fun d p e => pdx_le e _ hk') (es h' (l.trans q)))
  refine ⟨⟨.tuple (ps.set r px), fun h' q => by rw [pdx, eo h' q]; rfl⟩, fun h' q => ?_⟩
  obtain ⟨qx, e1, s1, t1⟩ := (fx.good h' q).text
  rw [ex h' q] at e1
  cases e1
  have gi : ∀ d ∈ ds.set r x, ∃ M, M ≤ 10000000 ∧ Good h' k' M d := fun d hd => by
    rcases all d hd with ⟨i, hi, rfl⟩ | rfl
    · exact ⟨_, Nat.le_trans (le1 i (by omega)) hL, ((fits i hi).good h' (l.trans q)).mono hk' (Nat.le_refl _)⟩
    · exact ⟨_, hB, fx.good h' q⟩
  refine ⟨.tup _ (by rw [List.length_set]; exact ld) fun d hd => ?_, .tup _ _ (fun w t e => ?_) fun d hd => ?_, .tuple (ps.set r px), by rw [pdx, eo h' q]; rfl, ?_, ?_⟩
  · obtain ⟨M, _, g⟩ := gi d hd
    exact g.fair
  · obtain ⟨M, hM, g⟩ := gi w (e ▸ List.mem_cons_self)
    exact g.text.repr (by omega) hM
  · obtain ⟨M, _, g⟩ := gi d hd
    exact g.deep
  · rw [PyData.showable, showableAll_all, List.all_eq_true]
    intro y hy
    rcases List.mem_or_eq_of_mem_set hy with hy | hy
    · exact List.all_eq_true.mp sq _ hy
    · rw [hy]; exact s1
  · rw [PyData.shown, shownAll_map]
    have le := tupleText_len_le ((ps.set r px).map PyData.shown)
    have em : ((ps.set r px).map PyData.shown).map (fun t : Str => t.length) = (ps.map ((fun t : Str => t.length) ∘ PyData.shown)).set r (px.shown).length := by
      rw [List.map_map, List.map_set]
      rfl
    rw [em, List.length_map, List.length_set] at le
    have su := sum_set (ps.map ((fun t : Str => t.length) ∘ PyData.shown)) r (px.shown).length (by rw [List.length_map]; exact hr')
    rw [List.getElem_map] at su
    simp only [Function.comp] at su le ge
    omega
end K02

namespace K02
open Mi L2 PySem PySem.Spec PyProof.Rows
theorem szl {n : Nat} (h : Nat.ble n 1000 = true) : n ≤ sizeLine := by
  have q := Nat.le_of_ble_eq_true h
  rw [sizeLine_eq]
  omega
theorem lst0 {ε : AEnv} {h : AH} : cLst aNil ε h = .ok (.ref h.length) (h ++ [.lst []]) := cLst_eq rfl (Nat.zero_le _)
theorem dic0 {ε : AEnv} {h : AH} : cD0 ε h = .ok (.ref h.length) (h ++ [.dic []]) := rfl
/-- the closed ones of the odd things -/
def oddA : List D := [.non, .bl true, .int 0, .int (-1), .int 1000000000000001, .int (-1000000000000001), .int 1000000000000000000000000000000000000000, .str "it's", .str "\n", .str "twentyonesigns of all"]
def oddB : List D := [.tup [], .tup [.str "row"]]
def oddC : List D := [.tup [.str "row", .tup [], .tup []], .tup [.str "thing", .int (-1)], .tup [.str "thing", .bl true], .tup [.str "thing", .int 1000000000000001]]
def oddD : List D := [.tup [.str "thing", .int 0, .int 0], .tup [.str "deed", .str "a"], .tup [.str "deed", .str "A", .str "b"], .tup [.str "kind", .str "a", .str ""], .tup [.str "kind", .str "a", .non], .tup [.str "at", .str "a", .str "b"]]
theorem odd_ck : ((oddA ++ oddB ++ oddC ++ oddD).all (ckB 2 400)) = true := by decide +kernel
theorem odd_easy : (easy "row" && easy "Row") = true := by decide +kernel
theorem add_lst2 {h : AH} {a b : Nat} {xs ys : List D} (ha : h[a]? = some (.lst xs)) (hb : h[b]? = some (.lst ys)) (hz : xs.length + ys.length ≤ 1000) : opAdd (.ref a) (.ref b) h = .ok (.ref h.length) (h ++ [.lst (xs ++ ys)]) := by
  have : xs.length + ys.length ≤ sizeLine := by rw [sizeLine_eq]; omega
  simp only [opAdd, ha, hb, if_pos this]
theorem odd_ok {X : List Nat} {h : AH} {n m : Nat} {c : Int} {part : D} {k L : Nat} (hn : n ∈ X) (hm : m ∈ X) (hX : ∀ x ∈ X, x < h.length) (H : Hand h n m c) (hc : 0 ≤ c) (hc2 : c < 100000) (hk : k ≤ 50) (hL : L ≤ 1000000) (f : Fits X h k L part) :
    ∃ d h', f_l_odd [.ref n, part] h = .ok d h' ∧ Fits X h' (k + 2) (2 * L + 400) d ∧ Hand h' n m (c + 1) ∧ Mi.Step n m h h' := by
  have lt := H.lt
  -- the first row
  let ha : AH := (h ++ [.lst []]) ++ [.dic []]
  have la : ha.length = h.length + 2 := by simp [ha]
  let L1 : List D := oddA ++ [.ref h.length, .ref (h ++ [O.lst []]).length]
  let ε0 : AEnv := [some (.ref n), some part, none]
  let h1 : AH := ha ++ [.lst L1]
  have q1 : cLst (aCons (cC .non) (aCons (cC (.bl true)) (aCons (cC (.int 0)) (aCons (cNeg (cC (.int 1))) (aCons (cBin opAdd (cBin opPow (cC (.int 10)) (cC (.int 15))) (cC (.int 1))) (aCons (cBin opSub (cBin opSub (cC (.int 0)) (cBin opPow (cC (.int 10)) (cC (.int 15)))) (cC (.int 1))) (aCons (cBin opPow (cC (.int 10)) (cC (.int 39))) (aCons (cC (.str ("it's" : Str))) (aCons (cC (.str ("\n" : Str))) (aCons (cC (.str ("twentyonesigns of all" : Str))) (aCons (cLst aNil) (aCons cD0 aNil)))))))))))) ε0 h = .ok (.ref ha.length) h1 :=
    cLst_eq (ds := L1) (aCons_eq rfl (aCons_eq rfl (aCons_eq rfl (aCons_eq rfl (aCons_eq rfl (aCons_eq rfl (aCons_eq rfl (aCons_eq rfl (aCons_eq rfl (aCons_eq rfl (aCons_eq lst0 (aCons_eq dic0 aNil_eq)))))))))))) (szl rfl)
  -- the second
  let ε1 : AEnv := [some (.ref n), some part, some (.ref ha.length)]
  let hb : AH := h1 ++ [.lst []]
  let L2 : List D := oddB ++ .tup [.str "row", .ref h1.length] :: oddC
  let hb2 : AH := hb ++ [.lst L2]
  have q2 : cLst (aCons (cTup aNil) (aCons (cTup (aCons (cC (.str ("row" : Str))) aNil)) (aCons (cTup (aCons (cC (.str ("row" : Str))) (aCons (cLst aNil) aNil))) (aCons (cTup (aCons (cC (.str ("row" : Str))) (aCons (cTup aNil) (aCons (cTup aNil) aNil)))) (aCons (cTup (aCons (cC (.str ("thing" : Str))) (aCons (cNeg (cC (.int 1))) aNil))) (aCons (cTup (aCons (cC (.str ("thing" : Str))) (aCons (cC (.bl true)) aNil))) (aCons (cTup (aCons (cC (.str ("thing" : Str))) (aCons (cBin opAdd (cBin opPow (cC (.int 10)) (cC (.int 15))) (cC (.int 1))) aNil))) aNil))))))) ε1 h1 = .ok (.ref hb.length) hb2 :=
    cLst_eq (ds := L2) (aCons_eq (cTup_eq rfl (szl rfl)) (aCons_eq (cTup_eq rfl (szl rfl)) (aCons_eq (cTup_eq (aCons_eq rfl (aCons_eq lst0 aNil_eq)) (szl rfl)) (aCons_eq (cTup_eq (aCons_eq rfl (aCons_eq (cTup_eq rfl (szl rfl)) (aCons_eq (cTup_eq rfl (szl rfl)) aNil_eq))) (szl rfl)) (aCons_eq (cTup_eq rfl (szl rfl)) (aCons_eq (cTup_eq rfl (szl rfl)) (aCons_eq (cTup_eq rfl (szl rfl)) aNil_eq))))))) (szl rfl)
  have g1 : hb2[ha.length]? = some (.lst L1) := get_old (get_old get_last)
  let h2 : AH := hb2 ++ [.lst (L1 ++ L2)]
  have a2 : opAdd (.ref ha.length) (.ref hb.length) hb2 = .ok (.ref hb2.length) h2 := add_lst2 g1 get_last (Nat.le_of_ble_eq_true rfl)
  -- the third
  let ε2 : AEnv := [some (.ref n), some part, some (.ref hb2.length)]
  let L3 : List D := [.tup [.str "thing", .int 0, .int 0], .tup [.str "deed", .str "a"], .tup [.str "deed", .str "A", .str "b"], .tup [.str "kind", .str "a", .str ""], .tup [.str "kind", .str "a", .non]]
  let hc3 : AH := h2 ++ [.lst L3]
  have q3 : cLst (aCons (cTup (aCons (cC (.str ("thing" : Str))) (aCons (cC (.int 0)) (aCons (cC (.int 0)) aNil)))) (aCons (cTup (aCons (cC (.str ("deed" : Str))) (aCons (cC (.str ("a" : Str))) aNil))) (aCons (cTup (aCons (cC (.str ("deed" : Str))) (aCons (cC (.str ("A" : Str))) (aCons (cC (.str ("b" : Str))) aNil)))) (aCons (cTup (aCons (cC (.str ("kind" : Str))) (aCons (cC (.str ("a" : Str))) (aCons (cC (.str ("" : Str))) aNil)))) (aCons (cTup (aCons (cC (.str ("kind" : Str))) (aCons (cC (.str ("a" : Str))) (aCons (cC .non) aNil)))) aNil))))) ε2 h2 = .ok (.ref h2.length) hc3 :=
    cLst_eq (ds := L3) (aCons_eq (cTup_eq rfl (szl rfl)) (aCons_eq (cTup_eq rfl (szl rfl)) (aCons_eq (cTup_eq rfl (szl rfl)) (aCons_eq (cTup_eq rfl (szl rfl)) (aCons_eq (cTup_eq rfl (szl rfl)) aNil_eq))))) (szl rfl)
  let h3 : AH := hc3 ++ [.lst ((L1 ++ L2) ++ L3)]
  have g2 : hc3[hb2.length]? = some (.lst (L1 ++ L2)) := get_old get_last
  have a3 : opAdd (.ref hb2.length) (.ref h2.length) hc3 = .ok (.ref hc3.length) h3 := add_lst2 g2 get_last (Nat.le_of_ble_eq_true rfl)
  -- the fourth
  let ε3 : AEnv := [some (.ref n), some part, some (.ref hc3.length)]
  let hd4 : AH := h3 ++ [.lst [part]]
  let L4 : List D := [.tup [.str "at", .str "a", .str "b"], .tup [part], .ref h3.length, .tup [.str "row", .tup [part]], .tup [.str "row", part], .tup [.str "Row", .tup [part]]]
  let he4 : AH := hd4 ++ [.lst L4]
  have p1 : ∀ {ε : AEnv} {hh : AH}, ε[1]? = some (some part) → cTup (aCons (cVar 1) aNil) ε hh = .ok (.tup [part]) hh := fun e => cTup_eq (aCons_eq (by simp only [cVar, e]) aNil_eq) (szl rfl)
  have q4 : cLst (aCons (cTup (aCons (cC (.str ("at" : Str))) (aCons (cC (.str ("a" : Str))) (aCons (cC (.str ("b" : Str))) aNil)))) (aCons (cTup (aCons (cVar 1) aNil)) (aCons (cLst (aCons (cVar 1) aNil)) (aCons (cTup (aCons (cC (.str ("row" : Str))) (aCons (cTup (aCons (cVar 1) aNil)) aNil))) (aCons (cTup (aCons (cC (.str ("row" : Str))) (aCons (cVar 1) aNil))) (aCons (cTup (aCons (cC (.str ("Row" : Str))) (aCons (cTup (aCons (cVar 1) aNil)) aNil))) aNil)))))) ε3 h3 = .ok (.ref hd4.length) he4 :=
    cLst_eq (ds := L4) (aCons_eq (cTup_eq rfl (szl rfl)) (aCons_eq (p1 rfl) (aCons_eq (cLst_eq (aCons_eq rfl aNil_eq) (szl rfl)) (aCons_eq (cTup_eq (aCons_eq rfl (aCons_eq (p1 rfl) aNil_eq)) (szl rfl)) (aCons_eq (cTup_eq rfl (szl rfl)) (aCons_eq (cTup_eq (aCons_eq rfl (aCons_eq (p1 rfl) aNil_eq)) (szl rfl)) aNil_eq)))))) (szl rfl)
  let h4 : AH := he4 ++ [.lst (((L1 ++ L2) ++ L3) ++ L4)]
  have g3 : he4[hc3.length]? = some (.lst ((L1 ++ L2) ++ L3)) := get_old (get_old get_last)
  have a4 : opAdd (.ref hc3.length) (.ref hd4.length) he4 = .ok (.ref he4.length) h4 := add_lst2 g3 get_last (Nat.le_of_ble_eq_true rfl)
  -- the fifth
  let ε4 : AEnv := [some (.ref n), some part, some (.ref he4.length)]
  let L5 : List D := [.tup [.str "row", .tup [part, part]], .tup [.non, part]]
  let hf5 : AH := h4 ++ [.lst L5]
  have q5 : cLst (aCons (cTup (aCons (cC (.str ("row" : Str))) (aCons (cTup (aCons (cVar 1) (aCons (cVar 1) aNil))) aNil))) (aCons (cTup (aCons (cC .non) (aCons (cVar 1) aNil))) aNil)) ε4 h4 = .ok (.ref h4.length) hf5 :=
    cLst_eq (ds := L5) (aCons_eq (cTup_eq (aCons_eq rfl (aCons_eq (cTup_eq rfl (szl rfl)) aNil_eq)) (szl rfl)) (aCons_eq (cTup_eq rfl (szl rfl)) aNil_eq)) (szl rfl)
  let ds : List D := (((L1 ++ L2) ++ L3) ++ L4) ++ L5
  let h5 : AH := hf5 ++ [.lst ds]
  have g4 : hf5[he4.length]? = some (.lst (((L1 ++ L2) ++ L3) ++ L4)) := get_old get_last
  have a5 : opAdd (.ref he4.length) (.ref h4.length) hf5 = .ok (.ref hf5.length) h5 := add_lst2 g4 get_last (Nat.le_of_ble_eq_true rfl)
  -- the pick
  have pre : h <+: h5 := by
    simp only [h5, hf5, h4, he4, hd4, h3, hc3, h2, hb2, hb, h1, ha, List.append_assoc]
    exact List.prefix_append _ _
  have l5 : h.length ≤ hf5.length := by
    simp only [hf5, h4, he4, hd4, h3, hc3, h2, hb2, hb, h1, ha, List.length_append]
    omega
  have dl : ds.length = 32 := rfl
  obtain ⟨d, h6, e6, hd, H6, s6⟩ := pick_ok (ds := ds) (s := hf5.length) (Hand.ofPre pre H) hc (by omega) get_last (by omega) (by omega) (by intro e; rw [e] at dl; cases dl) (by rw [dl]; decide)
  have st : Mi.Step n m h h6 := (Step.ofPre pre).trans s6
  refine ⟨d, h6, runB_ret rfl ((sSeq_nx (sSet_eq (i := 2) (ε := ε0) q1)).trans ((sSeq_nx (sSet_eq (i := 2) (ε := ε1) ((cBin_eq (F := cVar 2) rfl q2).trans a2))).trans ((sSeq_nx (sSet_eq (i := 2) (ε := ε2) ((cBin_eq (F := cVar 2) rfl q3).trans a3))).trans ((sSeq_nx (sSet_eq (i := 2) (ε := ε3) ((cBin_eq (F := cVar 2) rfl q4).trans a4))).trans ((sSeq_nx (sSet_eq (i := 2) (ε := ε4) ((cBin_eq (F := cVar 2) rfl q5).trans a5))).trans (sRet_eq ((cFn_eq (f := f_l_pick) (A := aCons (cVar 0) (aCons (cVar 2) aNil)) rfl).trans e6))))))), ?_, H6, st⟩
  -- it fits
  have l6 : Later X h h6 := .ofStep hn hm st
  have nx : ∀ {r : Nat}, h.length ≤ r → r ∉ X := fun hr hx => Nat.lt_irrefl _ (Nat.lt_of_lt_of_le (hX _ hx) hr)
  have ky : ∀ {r : Nat} {o : O}, h.length ≤ r → h5[r]? = some o → h6[r]? = some o := fun hr e => (s6.keep _ (by omega) (by omega) (List.getElem?_eq_some_iff.mp e).1).trans e
  have fp := f.later l6
  have cl : ∀ {d}, d ∈ oddA ++ oddB ++ oddC ++ oddD → Fits X h6 (k + 2) (2 * L + 400) d := fun hd => (Fits.ofSure (n := n) (m := m) fun hh => ckB_sure (List.all_eq_true.mp odd_ck _ hd) (by omega) (by omega)).mono (by omega) (by omega)
  have oe := odd_easy
  rw [Bool.and_eq_true] at oe
  have rw_ : ∀ {j M : Nat}, 43 ≤ M → Fits X h6 j M (.str "row") := fun hM => (fits_str oe.1).mono (Nat.zero_le _) hM
  have Rw_ : ∀ {j M : Nat}, 43 ≤ M → Fits X h6 j M (.str "Row") := fun hM => (fits_str oe.2).mono (Nat.zero_le _) hM
  have fl : ∀ {r}, h.length ≤ r → h5[r]? = some (.lst []) → Fits X h6 1 3 (.ref r) := fun hr e => (Fits.lst (k := 0) (L := 0) (ky hr e) (nx hr) (by simp)).mono (by omega) (by simp)
  have two : ∀ {w x : D} {j M : Nat}, j ≤ 60 → M ≤ 10000000 → Fits X h6 j M w → Fits X h6 j M x → Fits X h6 (j + 1) (2 * (M + 2) + 3) (.tup [w, x]) := fun hj hM a b => Fits.tup (ds := [_, _]) (by simp) hj hM fun d hd => by
    simp only [List.mem_cons, List.not_mem_nil, or_false] at hd
    rcases hd with rfl | rfl
    · exact a
    · exact b
  have fone := Fits.one (by omega) (by omega) fp
  simp only [ds, L1, L2, L3, L4, L5, List.mem_append, List.mem_cons, List.not_mem_nil, or_false] at hd
  have m4 : ∀ {d}, d ∈ oddD → Fits X h6 (k + 2) (2 * L + 400) d := fun hd => cl (List.mem_append_right _ hd)
  rcases hd with ((((hd | rfl | rfl) | hd | rfl | hd) | rfl | rfl | rfl | rfl | rfl) | rfl | rfl | rfl | rfl | rfl | rfl) | rfl | rfl
  · exact cl (List.mem_append_left _ (List.mem_append_left _ (List.mem_append_left _ hd)))
  · refine (fl (Nat.le_refl _) ?_).mono (by omega) (by omega)
    simp only [h5, hf5, h4, he4, hd4, h3, hc3, h2, hb2, hb, h1, ha, List.append_assoc]
    rw [List.getElem?_append_right (Nat.le_refl _), Nat.sub_self]; rfl
  · refine (Fits.dic (ky (by rw [List.length_append]; omega) ?_) (nx (by rw [List.length_append]; omega))).mono (by omega) (by omega)
    rw [show h5 = (h ++ [O.lst []]) ++ (.dic [] :: .lst L1 :: .lst [] :: .lst L2 :: .lst (L1 ++ L2) :: .lst L3 :: .lst ((L1 ++ L2) ++ L3) :: .lst [part] :: .lst L4 :: .lst (((L1 ++ L2) ++ L3) ++ L4) :: .lst L5 :: [.lst ds]) from by simp [h5, hf5, h4, he4, hd4, h3, hc3, h2, hb2, hb, h1, ha], List.getElem?_append_right (Nat.le_refl _), Nat.sub_self]
    rfl
  · exact cl (List.mem_append_left _ (List.mem_append_left _ (List.mem_append_right _ hd)))
  · have l1 : h.length ≤ h1.length := by simp only [h1, ha, List.length_append]; omega
    have ff := fl (r := h1.length) l1 (by
      rw [show h5 = h1 ++ (.lst [] :: .lst L2 :: .lst (L1 ++ L2) :: .lst L3 :: .lst ((L1 ++ L2) ++ L3) :: .lst [part] :: .lst L4 :: .lst (((L1 ++ L2) ++ L3) ++ L4) :: .lst L5 :: [.lst ds]) from by simp [h5, hf5, h4, he4, hd4, h3, hc3, h2, hb2, hb], List.getElem?_append_right (Nat.le_refl _), Nat.sub_self]
      rfl)
    exact (two (j := 1) (M := 43) (by omega) (by omega) (rw_ (by omega)) (ff.mono (by omega) (by omega))).mono (by omega) (by omega)
  · exact cl (List.mem_append_left _ (List.mem_append_right _ hd))
  · exact m4 (by simp [oddD])
  · exact m4 (by simp [oddD])
  · exact m4 (by simp [oddD])
  · exact m4 (by simp [oddD])
  · exact m4 (by simp [oddD])
  · exact m4 (by simp [oddD])
  · exact fone.mono (by omega) (by omega)
  · have l3 : h.length ≤ h3.length := by
      simp only [h3, hc3, h2, hb2, hb, h1, ha, List.length_append]
      omega
    have gg : h5[h3.length]? = some (.lst [part]) := by
      rw [show h5 = h3 ++ (.lst [part] :: .lst L4 :: .lst (((L1 ++ L2) ++ L3) ++ L4) :: .lst L5 :: [.lst ds]) from by simp [h5, hf5, h4, he4, hd4], List.getElem?_append_right (Nat.le_refl _), Nat.sub_self]
      rfl
    exact (Fits.lst (ky l3 gg) (nx l3) (ds := [part]) fun d hd => by rw [List.mem_singleton.mp hd]; exact fp).mono (by omega) (by simp; omega)
  · exact fone.row.mono (by omega) (by omega)
  · exact (two (j := k) (M := L + 43) (by omega) (by omega) (rw_ (by omega)) (fp.mono (by omega) (by omega))).mono (by omega) (by omega)
  · exact (two (j := k + 1) (M := L + 43) (by omega) (by omega) (Rw_ (by omega)) (fone.mono (by omega) (by omega))).mono (by omega) (by omega)
  · exact (two (j := k) (M := L) (by omega) (by omega) fp fp).row.mono (by omega) (by omega)
  · exact (two (j := k) (M := L + 43) (by omega) (by omega) (fits_non.mono (Nat.zero_le _) (by omega)) (fp.mono (by omega) (by omega))).mono (by omega) (by omega)
end K02

namespace K02
open Mi L2 PySem PySem.Spec PyProof.Rows
theorem cut_lo {h : AH} {ds : List D} {r : Nat} (hr : r < ds.length) : cutD (.tup ds) none (some (r : Int)) h = .ok (.tup (ds.take r)) h := by
  have e : cutL ds none (some (r : Int)) = ds.take r := by
    have h1 : HT.sIx ds.length ds.length (some (r : Int)) = r := by
      unfold HT.sIx
      simp only
      split <;> omega
    have h0 : HT.sIx ds.length 0 none = 0 := rfl
    unfold cutL
    rw [h1, h0, List.drop_zero, Nat.sub_zero]
  show Res.ok (D.tup (cutL ds none (some (r : Int)))) h = _
  rw [e]
theorem cut_hi {h : AH} {ds : List D} {r : Nat} (hr : r < ds.length) : cutD (.tup ds) (some ((r : Int) + 1)) none h = .ok (.tup (ds.drop (r + 1))) h := by
  have e : cutL ds (some ((r : Int) + 1)) none = ds.drop (r + 1) := by
    have h1 : HT.sIx ds.length 0 (some ((r : Int) + 1)) = r + 1 := by
      unfold HT.sIx
      simp only
      split <;> omega
    have h0 : HT.sIx ds.length ds.length none = ds.length := rfl
    unfold cutL
    rw [h1, h0]
    exact List.take_of_length_le (by rw [List.length_drop]; exact Nat.le_refl _)
  show Res.ok (D.tup (cutL ds (some ((r : Int) + 1)) none)) h = _
  rw [e]
theorem spoilt_ok {X : List Nat} {n m : Nat} (hn : n ∈ X) (hm : m ∈ X) : ∀ (k f : Nat) (h : AH) (c : Int) (d : D) (L : Nat), k < f → k ≤ 30 → 2 * L + 400 + 2003 * k ≤ 1000000 → (∀ x ∈ X, x < h.length) → Hand h n m c → 0 ≤ c → c + 2 * k + 3 < 50000 → Fits X h k L d →
    ∃ (d' : D) (h' : AH) (c' : Int), f_l_spoilt f [.ref n, d] h = .ok d' h' ∧ Fits X h' (k + 2) (2 * L + 400 + 2003 * k) d' ∧ Hand h' n m c' ∧ c ≤ c' ∧ c' ≤ c + 2 * k + 3 ∧ Mi.Step n m h h' := by
  intro k
  induction k with
  | zero =>
    intro f h c d L hf hk hL hX H hc hc2 fd
    obtain ⟨f, rfl⟩ : ∃ g, f = g + 1 := ⟨f - 1, by omega⟩
    have nt : isT "tuple" d = false := by
      obtain ⟨p, ep⟩ := fd.con
      have e := ep h .refl
      cases d with
      | tup ds => cases e
      | _ => rfl
    have q := isi_t (T := "tuple") (ε := [some (.ref n), some d, none]) (F := cVar 1) (h := h) rfl (fd.good h .refl).fair (by simp)
    rw [nt] at q
    obtain ⟨d', h', e, g, H', s⟩ := odd_ok hn hm hX H hc (by omega) (by omega) (by omega) fd
    exact ⟨d', h', c + 1, runB_ret rfl (sSeq_ret ((sIf_t (tOr_t (tNot_eq q))).trans (sRet_eq ((cFn_eq (A := aCons (cVar 0) (aCons (cVar 1) aNil)) rfl).trans e)))), g.mono (by omega) (by omega), H', by omega, by omega, s⟩
  | succ k ih =>
    intro f h c d L hf hk hL hX H hc hc2 fd
    obtain ⟨f, rfl⟩ : ∃ g, f = g + 1 := ⟨f - 1, by omega⟩
    let ε : AEnv := [some (.ref n), some d, none]
    have q := isi_t (T := "tuple") (ε := ε) (F := cVar 1) (h := h) rfl (fd.good h .refl).fair (by simp)
    have odd : ∀ {h1 : AH} {c1 : Int}, Mi.Step n m h h1 → Hand h1 n m c1 → c ≤ c1 → c1 ≤ c + 1 → (tOr' (tNot' (tVal (cCall fIsi (aCons (cVar 1) (aCons (cC (.ty "tuple")) aNil))))) (tOr' (tVal (cBin opEq2 (cVar 1) (cTup aNil))) (tVal (cBin opEq2 (cFn f_l_dealt (aCons (cVar 0) (aCons (cC (.int 4)) aNil))) (cC (.int 0)))))) ε h = .ok true h1 →
        ∃ (d' : D) (h' : AH) (c' : Int), f_l_spoilt (f + 1) [.ref n, d] h = .ok d' h' ∧ Fits X h' (k + 1 + 2) (2 * L + 400 + 2003 * (k + 1)) d' ∧ Hand h' n m c' ∧ c ≤ c' ∧ c' ≤ c + 2 * ((k + 1 : Nat) : Int) + 3 ∧ Mi.Step n m h h' := by
      intro h1 c1 s1 H1 a1 b1 t
      obtain ⟨d', h', e, g, H', s⟩ := odd_ok hn hm (fun x hx => Nat.lt_of_lt_of_le (hX x hx) s1.len) H1 (by omega) (by omega) (by omega) (by omega) (fd.later (.ofStep hn hm s1))
      exact ⟨d', h', c1 + 1, runB_ret rfl (sSeq_ret ((sIf_t t).trans (sRet_eq ((cFn_eq (A := aCons (cVar 0) (aCons (cVar 1) aNil)) rfl).trans e)))), g.mono (by omega) (by omega), H', by omega, by omega, s1.trans s⟩
    cases nt : isT "tuple" d with
    | false =>
      rw [nt] at q
      exact odd .refl H (by omega) (by omega) (tOr_t (tNot_eq q))
    | true =>
      rw [nt] at q
      obtain ⟨ds, rfl⟩ : ∃ ds, d = .tup ds := by
        cases d <;> first | exact ⟨_, rfl⟩ | cases nt
      have emp : tVal (cBin opEq2 (cVar 1) (cTup aNil)) ε h = .ok ds.isEmpty h := tVal_eq ((cBin_eq rfl (cTup_eq aNil_eq (Nat.zero_le _))).trans rfl)
      have n5 : tNot' (tVal (cCall fIsi (aCons (cVar 1) (aCons (cC (.ty "tuple")) aNil)))) ε h = .ok false h := tNot_eq q
      cases he : ds.isEmpty with
      | true =>
        rw [he] at emp
        exact odd .refl H (by omega) (by omega) ((tOr_f n5).trans (tOr_t emp))
      | false =>
        rw [he] at emp
        have ne : 0 < ds.length := by
          cases ds with
          | nil => cases he
          | cons => simp
        have ld : ds.length ≤ 1000 := by
          cases (fd.good h .refl).fair with
          | tup _ a _ => exact a
        obtain ⟨r4, h1, e1, a1, b1, H1, s1⟩ := dealt_ok (lots := 4) H hc (by omega) (by decide) (by decide)
        have t4 : tVal (cBin opEq2 (cFn f_l_dealt (aCons (cVar 0) (aCons (cC (.int 4)) aNil))) (cC (.int 0))) ε h = .ok (decide (r4 = 0)) h1 :=
          tVal_eq ((cBin_eq ((cFn_eq (A := aCons (cVar 0) (aCons (cC (.int 4)) aNil)) rfl).trans e1) rfl).trans eq2_int)
        by_cases c4 : r4 = 0
        · rw [decide_eq_true c4] at t4
          exact odd s1 H1 (by omega) (by omega) ((tOr_f n5).trans ((tOr_f emp).trans t4))
        rw [decide_eq_false c4] at t4
        obtain ⟨r, h2, e2, a2, b2, H2, s2⟩ := dealt_ok (lots := (ds.length : Int)) H1 (by omega) (by omega) (by omega) (by omega)
        obtain ⟨i, rfl⟩ : ∃ i : Nat, r = i := ⟨r.toNat, by omega⟩
        have hi : i < ds.length := by omega
        have st2 := s1.trans s2
        have l2 : Later X h h2 := .ofStep hn hm st2
        obtain ⟨Lr, hLr, fr, put⟩ := fd.put (by omega) (by omega) hi
        obtain ⟨x, h3, c3, e3, g3, H3, p3, q3, s3⟩ := ih f h2 (c + 1 + 1) ds[i] Lr (by omega) (by omega) (by omega) (fun x hx => Nat.lt_of_lt_of_le (hX x hx) st2.len) H2 (by omega) (by omega) (fr.later l2)
        have st := st2.trans s3
        have fin := put h3 (k + 2) (Lr + 400 + 2003 * k) x (.ofStep hn hm st) (by omega) (by omega) (by omega) (g3.mono (by omega) (by omega))
        let ε2 : AEnv := [some (.ref n), some (.tup ds), some (.int i)]
        have w1 : sSet 2 (cFn f_l_dealt (aCons (cVar 0) (aCons (cCall fLen (aCons (cVar 1) aNil)) aNil))) ε h1 = .nx ε2 h2 :=
          sSet_eq (i := 2) ((cFn_eq (aCons_eq (F := cVar 0) rfl (aCons_eq (len_tupE (F := cVar 1) rfl) aNil_eq))).trans e2)
        have x1 : cCut (cVar 1) oNone (oSome (cVar 2)) ε2 h2 = .ok (.tup (ds.take i)) h2 := (cCut_eq (F := cVar 1) rfl rfl (oSome_eq (F := cVar 2) rfl)).trans (cut_lo hi)
        have x2 : cTup (aCons (cFn (f_l_spoilt f) (aCons (cVar 0) (aCons (cBin opIx (cVar 1) (cVar 2)) aNil))) aNil) ε2 h2 = .ok (.tup [x]) h3 := by
          refine cTup_eq (aCons_eq ((cFn_eq (aCons_eq (F := cVar 0) rfl (aCons_eq ((cBin_eq (F := cVar 1) (G := cVar 2) rfl rfl).trans (at_k (List.getElem?_eq_getElem hi))) aNil_eq))).trans e3) aNil_eq) (szl rfl)
        have x3 : cCut (cVar 1) (oSome (cBin opAdd (cVar 2) (cC (.int 1)))) oNone ε2 h3 = .ok (.tup (ds.drop (i + 1))) h3 := (cCut_eq (F := cVar 1) rfl (oSome_eq ((cBin_eq (F := cVar 2) (G := cC (.int 1)) rfl rfl).trans rfl)) rfl).trans (cut_hi hi)
        have y1 : cBin opAdd (cCut (cVar 1) oNone (oSome (cVar 2))) (cTup (aCons (cFn (f_l_spoilt f) (aCons (cVar 0) (aCons (cBin opIx (cVar 1) (cVar 2)) aNil))) aNil)) ε2 h2 = .ok (.tup (ds.take i ++ [x])) h3 := by
          refine (cBin_eq x1 x2).trans ?_
          simp only [opAdd]
          rw [if_pos (by rw [List.length_take, sizeLine_eq]; simp; omega)]
        have y2 := (cBin_eq (f := opAdd) y1 x3).trans (show opAdd (.tup (ds.take i ++ [x])) (.tup (ds.drop (i + 1))) h3 = .ok (.tup (ds.set i x)) h3 by
          simp only [opAdd]
          rw [if_pos (by rw [List.length_append, List.length_take, List.length_drop, sizeLine_eq]; simp; omega), List.set_eq_take_append_cons_drop, if_pos hi, List.append_assoc]
          rfl)
        exact ⟨.tup (ds.set i x), h3, c3, runB_ret rfl ((sSeq_nx ((sIf_f ((tOr_f n5).trans ((tOr_f emp).trans t4))).trans rfl)).trans ((sSeq_nx w1).trans (sRet_eq y2))), fin.mono (by omega) (by omega), H3, by omega, by omega, st⟩
end K02

namespace K02
open Mi L2 PySem PySem.Spec PyProof.Rows
abbrev waysC : EF := cComp (iRange1 (cC (.int 12))) (gN 6) tYes' (cBin opEq2 (cFn f_l_dealt (aCons (cVar 1) (aCons (cC (.int 3)) aNil))) (cC (.int 0))) [6]
abbrev drawnC : EF := cComp (iRange1 (cC (.int 8))) (gN 6) tYes' (cFn (f_l_drawn 30) (aCons (cVar 1) (aCons (cC (.int 3)) aNil))) [6]
theorem ways_ok {h : AH} {n m : Nat} {S : D} {c : Int} (H : Hand h n m c) (hc : 0 ≤ c) (hc2 : c < 1000) : ∃ (acc : List D) (h' : AH) (c' : Int), waysC [some S, some (.ref n), none, none, none, none, none] h = .ok (.ref h.length) h' ∧ acc.length = 12 ∧ (∀ d ∈ acc, ∃ b, d = .bl b) ∧ Hand h' n m c' ∧ c ≤ c' ∧ c' ≤ c + 12 ∧ Mi.Step n m h h' ∧ h'[h.length]? = some (.lst acc) := by
  have lt := H.lt
  obtain ⟨acc, h', e, c', l, ab, H', a1, a2, s, g⟩ := cComp_inv (iF := iRange1 (cC (.int 12))) (it := .fix ((List.range (12 : Int).toNat).map fun (i : Nat) => .int (0 + i))) (g := gN 6) (t := tYes') (F := cBin opEq2 (cFn f_l_dealt (aCons (cVar 1) (aCons (cC (.int 3)) aNil))) (cC (.int 0))) (own := [6])
    (ε := [some S, some (.ref n), none, none, none, none, none]) (h := h) (h1 := h) rfl
    (fun i acc h2 => ∃ c' : Int, acc.length = i ∧ (∀ d ∈ acc, ∃ b, d = .bl b) ∧ Hand h2 n m c' ∧ c ≤ c' ∧ c' ≤ c + i ∧ Mi.Step n m h h2 ∧ h2[h.length]? = some (.lst acc)) 12 (by simp [AIt.len]) (by rw [sizeLine_eq]; omega)
    (by rintro i acc h2 ⟨_, _, _, _, _, _, _, g⟩; exact g) (by rintro i acc h2 ⟨_, l, _⟩; omega)
    ⟨c, rfl, by simp, H.app, by omega, by omega, .app, get_last⟩
    (by
      rintro i acc h2 hi ⟨c', l, ab, H', a1, a2, st, g⟩
      obtain ⟨r, h3, e3, _, _, H3, s3⟩ := dealt_ok (lots := 3) H' (by omega) (by omega) (by decide) (by decide)
      have ne1 : h.length ≠ n := by omega
      have ne2 : h.length ≠ m := by omega
      have g' : h3[h.length]? = some (.lst acc) := (s3.keep _ ne1 ne2 (List.getElem?_eq_some_iff.mp g).1).trans g
      refine ⟨.int (0 + (i : Int)), [some S, some (.ref n), none, none, none, none, some (.int (0 + (i : Int)))], true, h2, ?_, rfl, rfl, .inr ⟨rfl, .bl (decide (r = 0)), h3, ?_, g', ?_⟩⟩
      · have q : (List.range (12 : Int).toNat)[i]? = some i := List.getElem?_range (show i < 12 from hi)
        simp only [AIt.item, List.getElem?_map, q]
        rfl
      · exact (cBin_eq ((cFn_eq (A := aCons (cVar 1) (aCons (cC (.int 3)) aNil)) rfl).trans e3) rfl).trans eq2_int
      · refine ⟨c' + 1, by rw [List.length_append, l]; rfl, fun z hz => ?_, H3.set ne1 ne2, by omega, by omega, step_new (st.trans s3) (Nat.le_refl _), List.getElem?_set_self (List.getElem?_eq_some_iff.mp g').1⟩
        rcases List.mem_append.mp hz with hz | hz
        · exact ab z hz
        · exact ⟨_, List.mem_singleton.mp hz⟩)
    (by rintro acc h _; rfl)
  exact ⟨acc, h', c', e, l, ab, H', a1, a2, s, g⟩
theorem drawns_ok {h : AH} {n m : Nat} {S W : D} {c : Int} (H : Hand h n m c) (hc : 0 ≤ c) (hc2 : c < 1000) : ∃ (acc : List D) (h' : AH) (c' : Int), drawnC [some S, some (.ref n), some W, none, none, none, none] h = .ok (.ref h.length) h' ∧ acc.length = 8 ∧ (∀ d ∈ acc, ∀ hh, Sure n m hh 11 26083 d) ∧ Hand h' n m c' ∧ c ≤ c' ∧ c' ≤ c + 6000 ∧ Mi.Step n m h h' ∧ h'[h.length]? = some (.lst acc) := by
  have lt := H.lt
  obtain ⟨acc, h', e, c', l, ab, H', a1, a2, s, g⟩ := cComp_inv (iF := iRange1 (cC (.int 8))) (it := .fix ((List.range (8 : Int).toNat).map fun (i : Nat) => .int (0 + i))) (g := gN 6) (t := tYes') (F := cFn (f_l_drawn 30) (aCons (cVar 1) (aCons (cC (.int 3)) aNil))) (own := [6])
    (ε := [some S, some (.ref n), some W, none, none, none, none]) (h := h) (h1 := h) rfl
    (fun i acc h2 => ∃ c' : Int, acc.length = i ∧ (∀ d ∈ acc, ∀ hh, Sure n m hh 11 26083 d) ∧ Hand h2 n m c' ∧ c ≤ c' ∧ c' ≤ c + 680 * i ∧ Mi.Step n m h h2 ∧ h2[h.length]? = some (.lst acc)) 8 (by simp [AIt.len]) (by rw [sizeLine_eq]; omega)
    (by rintro i acc h2 ⟨_, _, _, _, _, _, _, g⟩; exact g) (by rintro i acc h2 ⟨_, l, _⟩; omega)
    ⟨c, rfl, by simp, H.app, by omega, by omega, .app, get_last⟩
    (by
      rintro i acc h2 hi ⟨c', l, ab, H', a1, a2, st, g⟩
      obtain ⟨d, h3, c3, e3, g3, H3, q3, q4, s3⟩ := drawn_ok (n := n) (m := m) 3 30 h2 c' (by omega) (by omega) (by decide) H' (by omega) (by show c' + (680 : Nat) < 50000; omega)
      have cs : ((cst 3 : Nat) : Int) = 680 := rfl
      have ne1 : h.length ≠ n := by omega
      have ne2 : h.length ≠ m := by omega
      have g' : h3[h.length]? = some (.lst acc) := (s3.keep _ ne1 ne2 (List.getElem?_eq_some_iff.mp g).1).trans g
      refine ⟨.int (0 + (i : Int)), [some S, some (.ref n), some W, none, none, none, some (.int (0 + (i : Int)))], true, h2, ?_, rfl, rfl, .inr ⟨rfl, d, h3, ?_, g', ?_⟩⟩
      · have q : (List.range (8 : Int).toNat)[i]? = some i := List.getElem?_range (show i < 8 from hi)
        simp only [AIt.item, List.getElem?_map, q]
        rfl
      · exact (cFn_eq (A := aCons (cVar 1) (aCons (cC (.int 3)) aNil)) rfl).trans e3
      · refine ⟨c3, by rw [List.length_append, l]; rfl, fun z hz => ?_, H3.set ne1 ne2, by omega, by omega, step_new (st.trans s3) (Nat.le_refl _), List.getElem?_set_self (List.getElem?_eq_some_iff.mp g').1⟩
        rcases List.mem_append.mp hz with hz | hz
        · exact ab z hz
        · rw [List.mem_singleton.mp hz]; exact g3)
    (by rintro acc h _; rfl)
  exact ⟨acc, h', c', e, l, ab, H', a1, by omega, s, g⟩
/-- the row of drawn ones, greatest ones, ones beyond -/
theorem some_ok {h : AH} {n m : Nat} {S W : D} {c : Int} (H : Hand h n m c) (hc : 0 ≤ c) (hc2 : c < 1000) : ∃ (s : Nat) (ds : List D) (h' : AH) (c' : Int), cBin opAdd (cBin opAdd drawnC (cFn f_l_greatest (aCons (cVar 1) aNil))) (cFn f_l_beyond (aCons (cVar 1) aNil)) [some S, some (.ref n), some W, none, none, none, none] h = .ok (.ref s) h' ∧ ds.length = 17 ∧ (∀ d ∈ ds, ∀ hh, Sure n m hh 20 60000 d) ∧ Hand h' n m c' ∧ c ≤ c' ∧ c' ≤ c + 6024 ∧ Mi.Step n m h h' ∧ h'[s]? = some (.lst ds) ∧ h.length ≤ s := by
  have lt := H.lt
  obtain ⟨acc, h1, c1, e1, l1, a1, H1, p1, q1, s1, g1⟩ := drawns_ok (S := S) (W := W) H hc hc2
  obtain ⟨s2, h2, d2, e2, k2, l2, g2, H2, st2, ls2⟩ := greatest_ok H1 (by omega) (by omega)
  have ne1 : h.length ≠ n := by omega
  have ne2 : h.length ≠ m := by omega
  have k1 : h2[h.length]? = some (.lst acc) := (st2.keep _ ne1 ne2 (List.getElem?_eq_some_iff.mp g1).1).trans g1
  have ad2 := add_lst2 k1 k2 (by omega)
  have x2 : cBin opAdd drawnC (cFn f_l_greatest (aCons (cVar 1) aNil)) [some S, some (.ref n), some W, none, none, none, none] h = .ok (.ref h2.length) (h2 ++ [.lst (acc ++ d2)]) := (cBin_eq e1 ((cFn_eq (A := aCons (cVar 1) aNil) rfl).trans e2)).trans ad2
  have lt2 := H2.lt
  obtain ⟨s3, h3, d3, e3, k3, l3, g3, H3, st3, ls3⟩ := beyond_ok (H2.app (os := [.lst (acc ++ d2)])) (by omega) (by omega)
  have k2' : h3[h2.length]? = some (.lst (acc ++ d2)) := (st3.keep _ (by omega) (by omega) (by simp)).trans get_last
  have ad3 := add_lst2 k2' k3 (by rw [List.length_append]; omega)
  refine ⟨h3.length, (acc ++ d2) ++ d3, h3 ++ [.lst ((acc ++ d2) ++ d3)], c1 + 12 + 12, (cBin_eq x2 ((cFn_eq (A := aCons (cVar 1) aNil) rfl).trans e3)).trans ad3, by rw [List.length_append, List.length_append]; omega, fun d hd hh => ?_, H3.app, by omega, by omega, s1.trans (st2.trans (Step.app.trans (st3.trans Step.app))), get_last, ?_⟩
  · rcases List.mem_append.mp hd with hd | hd
    · rcases List.mem_append.mp hd with hd | hd
      · exact (a1 d hd hh).mono (by omega) (by omega)
      · exact g2 d hd hh
    · exact g3 d hd hh
  · have := s1.len
    have := st2.len
    have := st3.len
    rw [List.length_append] at this
    omega
/-! ### the spoilt ones -/
abbrev turnS : SF := sSeq (sSet 5 (cFn (f_l_spoilt 30) (aCons (cVar 1) (aCons (cFn f_l_pick (aCons (cVar 1) (aCons (cCut (cVar 3) oNone (oSome (cC (.int 12)))) aNil))) aNil))))
    (sExpr (cMeth "list" mAppend (cVar 3) (aCons (cIf (tTru (cVar 4)) (cFn (f_l_spoilt 30) (aCons (cVar 1) (aCons (cVar 5) aNil))) (cVar 5)) aNil)))
theorem turn_ok {h : AH} {n m s : Nat} {S W : D} {c : Int} {ds : List D} {b : Bool} {x5 x6 : Option D} (H : Hand h n m c) (hc : 0 ≤ c) (hc2 : c < 20000) (k : h[s]? = some (.lst ds)) (hsn : s ≠ n) (hsm : s ≠ m) (hl : 17 ≤ ds.length) (hl2 : ds.length ≤ 100) (g : ∀ d ∈ ds.take 12, ∀ hh, Sure n m hh 20 60000 d) :
    ∃ (x y : D) (h' : AH) (c' : Int), turnS [some S, some (.ref n), some W, some (.ref s), some (.bl b), x5, x6] h = .nx [some S, some (.ref n), some W, some (.ref s), some (.bl b), some y, x6] h' ∧ Fits [n, m, s] h' 24 365386 x ∧ Hand h' n m c' ∧ c ≤ c' ∧ c' ≤ c + 200 ∧ Later [n, m, s] h h' ∧ h'[s]? = some (.lst (ds ++ [x])) ∧ (∀ k, k ≠ n → k ≠ m → k ≠ s → k < h.length → h'[k]? = h[k]?) := by
  have lt := H.lt
  have ls : s < h.length := (List.getElem?_eq_some_iff.mp k).1
  have n1 : n ∈ [n, m, s] := by simp
  have m1 : m ∈ [n, m, s] := by simp
  have s1' : s ∈ [n, m, s] := by simp
  have hX : ∀ {hh : AH}, h.length ≤ hh.length → ∀ x ∈ [n, m, s], x < hh.length := fun le x hx => by
    simp only [List.mem_cons, List.not_mem_nil, or_false] at hx
    rcases hx with rfl | rfl | rfl <;> omega
  let ε : AEnv := [some S, some (.ref n), some W, some (.ref s), some (.bl b), x5, x6]
  have cut : cCut (cVar 3) oNone (oSome (cC (.int 12))) ε h = .ok (.ref h.length) (h ++ [.lst (ds.take 12)]) := by
    refine (cCut_eq (F := cVar 3) (d := .ref s) (l := none) (u := some 12) rfl rfl rfl).trans ?_
    have e : cutL ds none (some 12) = ds.take 12 := by
      unfold cutL
      rw [show HT.sIx ds.length 0 none = 0 from rfl, show HT.sIx ds.length ds.length (some 12) = min 12 ds.length from HT.sIx_nat _ _ 12, List.drop_zero, Nat.sub_zero, Nat.min_eq_left (by omega)]
    simp only [Mi.cutD, k, e]
  have l12 : (ds.take 12).length = 12 := by rw [List.length_take]; omega
  obtain ⟨d, h1, e1, hd, H1, s1⟩ := pick_ok (ds := ds.take 12) (s := h.length) (H.app (os := [.lst (ds.take 12)])) hc (by omega) get_last (by omega) (by omega) (by intro e; rw [e] at l12; cases l12) (by omega)
  have pk : cFn f_l_pick (aCons (cVar 1) (aCons (cCut (cVar 3) oNone (oSome (cC (.int 12)))) aNil)) ε h = .ok d h1 := (cFn_eq (f := f_l_pick) (aCons_eq (F := cVar 1) rfl (aCons_eq cut aNil_eq))).trans e1
  have st1 : Mi.Step n m h h1 := Step.app.trans s1
  have fd : Fits [n, m, s] h1 20 60000 d := Fits.ofSure (g d hd)
  obtain ⟨y, h2, c2, e2, f2, H2, p2, q2, s2⟩ := spoilt_ok n1 m1 20 30 h1 (c + 1) d 60000 (by omega) (by omega) (by omega) (hX st1.len) H1 (by omega) (by omega) fd
  have st2 := st1.trans s2
  have w1 : sSet 5 (cFn (f_l_spoilt 30) (aCons (cVar 1) (aCons (cFn f_l_pick (aCons (cVar 1) (aCons (cCut (cVar 3) oNone (oSome (cC (.int 12)))) aNil))) aNil))) ε h = .nx [some S, some (.ref n), some W, some (.ref s), some (.bl b), some y, x6] h2 :=
    sSet_eq (i := 5) ((cFn_eq (aCons_eq (F := cVar 1) rfl (aCons_eq pk aNil_eq))).trans e2)
  let ε2 : AEnv := [some S, some (.ref n), some W, some (.ref s), some (.bl b), some y, x6]
  have tb : tTru (cVar 4) ε2 h2 = .ok b h2 := rfl
  obtain ⟨x, h3, c3, e3, f3, H3, p3, q3, s3⟩ : ∃ (x : D) (h3 : AH) (c3 : Int), cIf (tTru (cVar 4)) (cFn (f_l_spoilt 30) (aCons (cVar 1) (aCons (cVar 5) aNil))) (cVar 5) ε2 h2 = .ok x h3 ∧ Fits [n, m, s] h3 24 365386 x ∧ Hand h3 n m c3 ∧ c2 ≤ c3 ∧ c3 ≤ c2 + 100 ∧ Mi.Step n m h2 h3 := by
    cases b with
    | false => exact ⟨y, h2, c2, (cIf_eq tb).trans rfl, f2.mono (by omega) (by omega), H2, by omega, by omega, .refl⟩
    | true =>
      obtain ⟨x, h3, c3, e3, f3, H3, p3, q3, s3⟩ := spoilt_ok n1 m1 22 30 h2 c2 y 160460 (by omega) (by omega) (by omega) (hX st2.len) H2 (by omega) (by omega) (f2.mono (by omega) (by omega))
      exact ⟨x, h3, c3, (cIf_eq tb).trans ((cFn_eq (A := aCons (cVar 1) (aCons (cVar 5) aNil)) rfl).trans e3), f3.mono (by omega) (by omega), H3, by omega, by omega, s3⟩
  have st3 := st2.trans s3
  have k3 : h3[s]? = some (.lst ds) := (st3.keep s hsn hsm ls).trans k
  have k2 : h2[s]? = some (.lst ds) := (st2.keep s hsn hsm ls).trans k
  have ap : sExpr (cMeth "list" mAppend (cVar 3) (aCons (cIf (tTru (cVar 4)) (cFn (f_l_spoilt 30) (aCons (cVar 1) (aCons (cVar 5) aNil))) (cVar 5)) aNil)) ε2 h2 = .nx ε2 (h3.set s (.lst (ds ++ [x]))) := by
    refine sExpr_eq (d := .non) ((cMeth_eq (F := cVar 3) (d := .ref s) (h1 := h2) (ds := [x]) rfl (by simp [isTy, tyD, k2]) (aCons_eq e3 aNil_eq)).trans ?_)
    simp only [mAppend, k3]
    rw [if_pos (by rw [sizeLine_eq]; omega)]
  have ls3 : s < h3.length := (List.getElem?_eq_some_iff.mp k3).1
  refine ⟨x, y, h3.set s (.lst (ds ++ [x])), c3, (sSeq_nx w1).trans ap, f3.later (.set s1'), H3.set hsn hsm, by omega, by omega, (Later.ofStep n1 m1 st3).trans (.set s1'), List.getElem?_set_self ls3, fun k a1 a2 a3 a4 => ?_⟩
  rw [List.getElem?_set_ne (Ne.symm a3)]
  exact st3.keep k a1 a2 a4
theorem for_ok {h : AH} {n m s w : Nat} {S : D} {c : Int} {ds ways : List D} (H : Hand h n m c) (hc : 0 ≤ c) (hc2 : c < 10000) (k : h[s]? = some (.lst ds)) (hsn : s ≠ n) (hsm : s ≠ m) (hwn : w ≠ n) (hwm : w ≠ m) (hws : w ≠ s) (hl : ds.length = 17) (g : ∀ d ∈ ds, ∀ hh, Sure n m hh 20 60000 d) (kw : h[w]? = some (.lst ways)) (lw : ways.length = 12) (bw : ∀ d ∈ ways, ∃ b, d = .bl b) :
    ∃ (ds' : List D) (h' : AH) (x4 x5 : Option D), sFor (iAny (cVar 2)) (gN 4) turnS [some S, some (.ref n), some (.ref w), some (.ref s), none, none, none] h = .nx [some S, some (.ref n), some (.ref w), some (.ref s), x4, x5, none] h' ∧ h'[s]? = some (.lst ds') ∧ ds'.length = 29 ∧ (∀ d ∈ ds', Good h' 24 365386 d) := by
  have ls : s < h.length := (List.getElem?_eq_some_iff.mp k).1
  have lw0 : w < h.length := (List.getElem?_eq_some_iff.mp kw).1
  obtain ⟨ε', h', e, c', ds', x4, x5, rfl, H', a1, a2, k', l', f', t', w', le'⟩ := sFor_inv (iF := iAny (cVar 2)) (g := gN 4) (B := turnS) (iAny_live (F := cVar 2) rfl kw)
    (fun i ε h2 => ∃ (c' : Int) (ds' : List D) (x4 x5 : Option D), ε = [some S, some (.ref n), some (.ref w), some (.ref s), x4, x5, none] ∧ Hand h2 n m c' ∧ c ≤ c' ∧ c' ≤ c + 200 * i ∧ h2[s]? = some (.lst ds') ∧ ds'.length = 17 + i ∧ (∀ d ∈ ds', Fits [n, m, s] h2 24 365386 d) ∧ ds'.take 12 = ds.take 12 ∧ h2[w]? = some (.lst ways) ∧ h.length ≤ h2.length) 12 (by simp [AIt.len, lw])
    ⟨c, ds, none, none, rfl, H, by omega, by omega, k, hl, fun d hd => (Fits.ofSure (g d hd)).mono (by omega) (by omega), rfl, kw, Nat.le_refl _⟩
    (by
      rintro i ε h2 hi ⟨c', ds', x4, x5, rfl, H', a1, a2, k', l', f', t', w', le'⟩
      have hiw : i < ways.length := by omega
      obtain ⟨b, eb⟩ := bw _ (List.getElem_mem hiw)
      obtain ⟨x, y, h3, c3, e3, f3, H3, p3, q3, l3, k3, r3⟩ := turn_ok (S := S) (W := .ref w) (b := b) (x5 := x5) (x6 := none) H' (by omega) (by omega) k' hsn hsm (by omega) (by omega) (by rw [t']; exact fun d hd => g d (List.mem_of_mem_take hd))
      refine ⟨ways[i], [some S, some (.ref n), some (.ref w), some (.ref s), some (.bl b), x5, none], _, h3, ?_, by rw [eb]; rfl, .inl e3, c3, ds' ++ [x], some (.bl b), some y, rfl, H3, by omega, by omega, k3, by rw [List.length_append, l']; rfl, fun d hd => ?_, ?_, ?_, Nat.le_trans le' l3.len⟩
      · simp only [AIt.item, w', lw, if_true]
        exact List.getElem?_eq_getElem hiw
      · rcases List.mem_append.mp hd with hd | hd
        · exact (f' d hd).later l3
        · rw [List.mem_singleton.mp hd]; exact f3
      · rw [List.take_append_of_le_length (by omega), t']
      · exact (r3 w hwn hwm hws (List.getElem?_eq_some_iff.mp w').1).trans w')
    (by
      rintro ε h2 ⟨c', ds', x4, x5, rfl, H', a1, a2, k', l', f', t', w', le'⟩
      simp [AIt.fin, w', lw])
  exact ⟨ds', h', x4, x5, e, k', by omega, fun d hd => (f' d hd).good h' .refl⟩
end K02

namespace K02
open Mi L2 PySem PySem.Spec PyProof.Rows
/-! ### the constants at the end -/
def newsB : AH := [.lst [], .dic [], .lst [.str "a"], .lst [.str "row", .tup [.str "a"]], .dic [(.inr "row", .tup [])]]
def thB (k : Nat) : List D := [.ref k, .ref (k + 1), .tup [], .tup [.str "a"], .tup [.str "row", .ref (k + 2)], .ref (k + 3), .ref (k + 4), .tup [.tup []]]
abbrev newsBA : AF := aCons (cLst aNil) (aCons cD0 (aCons (cTup aNil) (aCons (cTup (aCons (cC (.str ("a" : Str))) aNil)) (aCons (cTup (aCons (cC (.str ("row" : Str))) (aCons (cLst (aCons (cC (.str ("a" : Str))) aNil)) aNil))) (aCons (cLst (aCons (cC (.str ("row" : Str))) (aCons (cTup (aCons (cC (.str ("a" : Str))) aNil)) aNil))) (aCons (cD1 ("row" : Str) (cTup aNil)) (aCons (cTup (aCons (cTup aNil) aNil)) aNil)))))))
theorem newsB_eq {ε : AEnv} {h : AH} : newsBA ε h = .ok (thB h.length) (h ++ newsB) := by
  have h1 : cLst aNil ε h = .ok (.ref h.length) (h ++ [.lst []]) := lst0
  have h2 : cD0 ε (h ++ [.lst []]) = .ok (.ref (h.length + 1)) (h ++ [.lst [], .dic []]) := by simp [cD0]
  have h3 : cLst (aCons (cC (.str ("a" : Str))) aNil) ε (h ++ [.lst [], .dic []]) = .ok (.ref (h.length + 2)) (h ++ [.lst [], .dic [], .lst [.str "a"]]) := by
    refine (cLst_eq (ds := [.str "a"]) rfl (szl rfl)).trans ?_
    simp
  have h4 : cLst (aCons (cC (.str ("row" : Str))) (aCons (cTup (aCons (cC (.str ("a" : Str))) aNil)) aNil)) ε (h ++ [.lst [], .dic [], .lst [.str "a"]]) = .ok (.ref (h.length + 3)) (h ++ [.lst [], .dic [], .lst [.str "a"], .lst [.str "row", .tup [.str "a"]]]) := by
    refine (cLst_eq (ds := [.str "row", .tup [.str "a"]]) (aCons_eq rfl (aCons_eq (cTup_eq rfl (szl rfl)) aNil_eq)) (szl rfl)).trans ?_
    simp
  have t0 : ∀ {h : AH}, cTup aNil ε h = .ok (.tup []) h := cTup_eq rfl (szl rfl)
  have h5 : cD1 ("row" : Str) (cTup aNil) ε (h ++ [.lst [], .dic [], .lst [.str "a"], .lst [.str "row", .tup [.str "a"]]]) = .ok (.ref (h.length + 4)) (h ++ newsB) := by
    simp [cD1, t0, newsB]
  exact aCons_eq h1 (aCons_eq h2 (aCons_eq t0 (aCons_eq (cTup_eq rfl (szl rfl)) (aCons_eq (cTup_eq (aCons_eq rfl (aCons_eq h3 aNil_eq)) (szl rfl)) (aCons_eq h4 (aCons_eq h5 (aCons_eq (cTup_eq (aCons_eq t0 aNil_eq) (szl rfl)) aNil_eq)))))))
def closedB : List D := [.tup [], .tup [.str "a"], .tup [.tup []], .str "", .str (strRep "a" 20), .str (strRep "a" 21), .tup [.str "thing", .int 1000000000000000], .tup [.bl true], .tup [.str "row", .tup []], .tup [.str "row", .tup [.tup []]], chainD 7 (.tup [.str "row", .tup []]), chainD 8 (.tup [.str "row", .tup []]), .str "a", .str "row"]
theorem closedB_ck : (closedB.all (ckB 29 1000000)) = true := by decide +kernel
theorem closedB_good {h : AH} {d : D} (hd : d ∈ closedB) : Good h 29 1000000 d := (ckB_sure (n := 0) (m := 0) (List.all_eq_true.mp closedB_ck d hd) (by omega) (by omega)).good
theorem lst_good {h : AH} {r k L : Nat} {ds : List D} (e : h[r]? = some (.lst ds)) (g : ∀ d ∈ ds, Good h k L d) : Good h (k + 1) (ds.length * (L + 2) + 3) (.ref r) :=
  ⟨.lst r ds e, .one _ _ fun _ => D.noConfusion, Sm.lst e fun d hd => (g d hd).text⟩
theorem str_good {h : AH} {x : Str} (e : easy x = true) : Good h 0 43 (.str x) := (easy_sure (n := 0) (m := 0) e).good
theorem thB_good {h : AH} : ∀ d ∈ thB h.length, Good (h ++ newsB) 29 10000000 d := by
  have g0 : (h ++ newsB)[h.length]? = some (.lst []) := by rw [List.getElem?_append_right (Nat.le_refl _)]; simp [newsB]
  have g1 : (h ++ newsB)[h.length + 1]? = some (.dic []) := by rw [List.getElem?_append_right (by omega)]; simp [newsB]
  have g2 : (h ++ newsB)[h.length + 2]? = some (.lst [.str "a"]) := by rw [List.getElem?_append_right (by omega)]; simp [newsB]
  have g3 : (h ++ newsB)[h.length + 3]? = some (.lst [.str "row", .tup [.str "a"]]) := by rw [List.getElem?_append_right (by omega)]; simp [newsB]
  have g4 : (h ++ newsB)[h.length + 4]? = some (.dic [(.inr "row", .tup [])]) := by rw [List.getElem?_append_right (by omega)]; simp [newsB]
  have sa : ∀ {hh : AH}, Good hh 0 43 (.str "a") := str_good (by decide +kernel)
  have sr : ∀ {hh : AH}, Good hh 0 43 (.str "row") := str_good (by decide +kernel)
  have dg : ∀ {r : Nat} {kvs : List (Key × D)} {p : PyData} {k : Nat}, (h ++ newsB)[r]? = some (.dic kvs) → pdx k (h ++ newsB) (.ref r) = some p → k ≤ 29 → (p.showable && decide (p.shown.length ≤ 1000)) = true → Good (h ++ newsB) 29 10000000 (.ref r) := fun e ep hk q => by
    rw [Bool.and_eq_true, decide_eq_true_eq] at q
    exact ⟨.dic _ _ e, .one _ _ fun _ => D.noConfusion, _, pdx_le ep _ hk, q.1, by omega⟩
  intro d hd
  simp only [thB, List.mem_cons, List.not_mem_nil, or_false] at hd
  rcases hd with rfl | rfl | rfl | rfl | rfl | rfl | rfl | rfl
  · exact (lst_good (k := 0) (L := 0) g0 (by simp)).mono (by omega) (by simp)
  · exact dg g1 (p := .dict []) (k := 1) (by simp only [pdx, g1]; rfl) (by omega) (by decide +kernel)
  · exact (closedB_good (by simp [closedB])).mono (by omega) (by omega)
  · exact (closedB_good (by simp [closedB])).mono (by omega) (by omega)
  · have l2 := lst_good (k := 0) (L := 43) g2 (by intro d hd; rw [List.mem_singleton.mp hd]; exact sa)
    refine (Good.tup (k := 1) (L := 100) (by simp) (by omega) (by omega) fun d hd => ?_).mono (by omega) (by simp)
    simp only [List.mem_cons, List.not_mem_nil, or_false] at hd
    rcases hd with rfl | rfl
    · exact sr.mono (by omega) (by omega)
    · exact l2.mono (by omega) (by simp)
  · refine (lst_good (k := 1) (L := 100) g3 fun d hd => ?_).mono (by omega) (by simp)
    simp only [List.mem_cons, List.not_mem_nil, or_false] at hd
    rcases hd with rfl | rfl
    · exact sr.mono (by omega) (by omega)
    · exact (sa.one (by omega) (by omega)).mono (by omega) (by omega)
  · exact dg g4 (p := .dict [(.str "row", .tuple [])]) (k := 2) (by simp only [pdx, g4]; rfl) (by omega) (by decide +kernel)
  · exact (closedB_good (by simp [closedB])).mono (by omega) (by omega)
theorem mulA {ε : AEnv} {h : AH} {j : Nat} (hj : 2 ≤ j) (hj2 : j ≤ 1000) : cBin opMul (cC (.str ("a" : Str))) (cC (.int j)) ε h = .ok (.str (strRep "a" j)) h := by
  have l : ("a" : Str).length = 1 := by decide +kernel
  refine (cBin_eq (x := .str "a") (y := .int j) rfl rfl).trans ?_
  have a1 : (2 : Int) ≤ j := by omega
  have a2 : (j : Int) ≤ 1000 := by omega
  simp [opMul, l, a1, a2]
  try omega
theorem law_ok {V : FV} (dV : V.a_is_single ≠ V.a_is_plain_single) {ns : List Int} (hl : ns.length ≤ 63) (_ : ∀ z ∈ ns, Builtin.Int.intBits z ≤ 1048576) : ∃ h', f_law V [.rol (ns.map D.int)] [] = .ok (.bl true) h' := by
  obtain ⟨n, m, h1, e1, H1⟩ := begun_ok hl
  obtain ⟨S, eS⟩ : ∃ S : D, S = .rol (ns.map D.int) := ⟨_, rfl⟩
  rw [← eS] at e1 ⊢
  have lt1 := H1.lt
  obtain ⟨ways, h2, c2, e2, lw, bw, H2, a2, b2, s2, k2⟩ := ways_ok (S := S) H1 (by omega) (by omega)
  obtain ⟨s, ds, h3, c3, e3, l3, g3, H3, a3, b3, s3, k3, ls3⟩ := some_ok (S := S) (W := .ref h1.length) H2 (by omega) (by omega)
  have l12 : h1.length < h2.length := (List.getElem?_eq_some_iff.mp k2).1
  have ne1 : h1.length ≠ n := by omega
  have ne2 : h1.length ≠ m := by omega
  have le12 := s2.len
  have kw : h3[h1.length]? = some (.lst ways) := (s3.keep _ ne1 ne2 l12).trans k2
  obtain ⟨d4, h4, x4, x5, e4, k4, l4, g4⟩ := for_ok (S := S) H3 (by omega) (by omega) k3 (by omega) (by omega) ne1 ne2 (by omega) l3 g3 kw lw bw
  let ε4 : AEnv := [some S, some (.ref n), some (.ref h1.length), some (.ref s), x4, x5, none]
  -- looks, things
  obtain ⟨h5, s5, p5, ls5, e5, k5⟩ := alike_ok (h := h4)
  have k45 : h5[s]? = some (.lst d4) := getElem_pre p5 k4
  have lk : looks.length = 6 := rfl
  have ad5 := add_lst2 k45 k5 (by rw [l4, lk]; omega)
  obtain ⟨h6, eh6⟩ : ∃ h6, h6 = h5 ++ [O.lst (d4 ++ looks)] := ⟨_, rfl⟩
  rw [← eh6] at ad5
  have w5 : cBin opAdd (cVar 3) (cFn f_l_alike_looks aNil) ε4 h4 = .ok (.ref h5.length) h6 := (cBin_eq (F := cVar 3) rfl ((cFn_eq aNil_eq).trans e5)).trans ad5
  have w6 : cLst newsBA ε4 h6 = .ok (.ref (h6 ++ newsB).length) ((h6 ++ newsB) ++ [.lst (thB h6.length)]) := cLst_eq newsB_eq (szl rfl)
  have k6 : ((h6 ++ newsB) ++ [O.lst (thB h6.length)])[h5.length]? = some (.lst (d4 ++ looks)) := by
    have : h6[h5.length]? = some (.lst (d4 ++ looks)) := by rw [eh6]; exact get_last
    refine get_old ?_
    rw [List.getElem?_append_left (List.getElem?_eq_some_iff.mp this).1]
    exact this
  have lt8 : (thB h6.length).length = 8 := rfl
  have ad7 := add_lst2 k6 get_last (by rw [List.length_append, l4, lk, lt8]; omega)
  obtain ⟨A7, eA7⟩ : ∃ A, A = (d4 ++ looks) ++ thB h6.length := ⟨_, rfl⟩
  obtain ⟨h7, eh7⟩ : ∃ h7, h7 = (h6 ++ newsB) ++ [O.lst (thB h6.length)] := ⟨_, rfl⟩
  rw [← eh7] at w6 ad7
  rw [← eA7] at ad7
  have w7 : sSet 3 (cBin opAdd (cBin opAdd (cVar 3) (cFn f_l_alike_looks aNil)) (cLst newsBA)) ε4 h4 = .nx [some S, some (.ref n), some (.ref h1.length), some (.ref h7.length), x4, x5, none] (h7 ++ [.lst A7]) := sSet_eq (i := 3) ((cBin_eq w5 w6).trans ad7)
  have lA7 : A7.length = 43 := by rw [eA7, List.length_append, List.length_append, l4, lk, lt8]
  -- texts
  obtain ⟨h8, eh8⟩ : ∃ h8, h8 = h7 ++ [O.lst A7] := ⟨_, rfl⟩
  rw [← eh8] at w7
  let T8 : List D := [.str "", .str (strRep "a" 20), .str (strRep "a" 21), .tup [.str "thing", .int 1000000000000000], .tup [.bl true], .tup [.str "row", .tup []], .tup [.str "row", .tup [.tup []]]]
  let ε7 : AEnv := [some S, some (.ref n), some (.ref h1.length), some (.ref h7.length), x4, x5, none]
  have t0 : ∀ {ε : AEnv} {h : AH}, cTup aNil ε h = .ok (.tup []) h := cTup_eq rfl (szl rfl)
  have tr : ∀ {ε : AEnv} {h : AH}, cTup (aCons (cC (.str ("row" : Str))) (aCons (cTup aNil) aNil)) ε h = .ok (.tup [.str "row", .tup []]) h := cTup_eq (aCons_eq rfl (aCons_eq t0 aNil_eq)) (szl rfl)
  have w8 : cLst (aCons (cC (.str ("" : Str))) (aCons (cBin opMul (cC (.str ("a" : Str))) (cC (.int 20))) (aCons (cBin opMul (cC (.str ("a" : Str))) (cC (.int 21))) (aCons (cTup (aCons (cC (.str ("thing" : Str))) (aCons (cBin opPow (cC (.int 10)) (cC (.int 15))) aNil))) (aCons (cTup (aCons (cC (.bl true)) aNil)) (aCons (cTup (aCons (cC (.str ("row" : Str))) (aCons (cTup aNil) aNil))) (aCons (cTup (aCons (cC (.str ("row" : Str))) (aCons (cTup (aCons (cTup aNil) aNil)) aNil))) aNil))))))) ε7 h8 = .ok (.ref h8.length) (h8 ++ [.lst T8]) :=
    cLst_eq (ds := T8) (aCons_eq rfl (aCons_eq (mulA (j := 20) (by omega) (by omega)) (aCons_eq (mulA (j := 21) (by omega) (by omega)) (aCons_eq (cTup_eq (aCons_eq rfl (aCons_eq pow15 aNil_eq)) (szl rfl)) (aCons_eq (cTup_eq rfl (szl rfl)) (aCons_eq tr (aCons_eq (cTup_eq (aCons_eq rfl (aCons_eq (cTup_eq (aCons_eq t0 aNil_eq) (szl rfl)) aNil_eq)) (szl rfl)) aNil_eq))))))) (szl rfl)
  have k8 : (h8 ++ [O.lst T8])[h7.length]? = some (.lst A7) := get_old (by rw [eh8]; exact get_last)
  have ad9 := add_lst2 k8 get_last (by rw [lA7]; exact Nat.le_of_ble_eq_true rfl)
  obtain ⟨h9, eh9⟩ : ∃ h9, h9 = h8 ++ [O.lst T8] := ⟨_, rfl⟩
  rw [← eh9] at w8 ad9
  have w9 := sSet_eq (i := 3) ((cBin_eq (f := opAdd) (F := cVar 3) (ε := ε7) (x := .ref h7.length) rfl w8).trans ad9)
  obtain ⟨h10, eh10⟩ : ∃ h10, h10 = h9 ++ [O.lst (A7 ++ T8)] := ⟨_, rfl⟩
  rw [← eh10] at w9
  -- chains
  let ε9 : AEnv := [some S, some (.ref n), some (.ref h1.length), some (.ref h9.length), x4, x5, none]
  let T10 : List D := [chainD 7 (.tup [.str "row", .tup []]), chainD 8 (.tup [.str "row", .tup []])]
  have w10 : cLst (aCons (cFn f_l_chain (aCons (cTup (aCons (cC (.str ("row" : Str))) (aCons (cTup aNil) aNil))) (aCons (cC (.int 7)) aNil))) (aCons (cFn f_l_chain (aCons (cTup (aCons (cC (.str ("row" : Str))) (aCons (cTup aNil) aNil))) (aCons (cC (.int 8)) aNil))) aNil)) ε9 h10 = .ok (.ref h10.length) (h10 ++ [.lst T10]) :=
    cLst_eq (ds := T10) (aCons_eq (chainE (j := 7) tr (by omega)) (aCons_eq (chainE (j := 8) tr (by omega)) aNil_eq)) (szl rfl)
  have k10 : (h10 ++ [O.lst T10])[h9.length]? = some (.lst (A7 ++ T8)) := get_old (by rw [eh10]; exact get_last)
  have lT8 : T8.length = 7 := rfl
  have lT10 : T10.length = 2 := rfl
  have ad11 := add_lst2 k10 get_last (by rw [List.length_append, lA7, lT8, lT10]; omega)
  obtain ⟨h11, eh11⟩ : ∃ h11, h11 = h10 ++ [O.lst T10] := ⟨_, rfl⟩
  rw [← eh11] at w10 ad11
  have w11 := sSet_eq (i := 3) ((cBin_eq (f := opAdd) (F := cVar 3) (ε := ε9) (x := .ref h9.length) rfl w10).trans ad11)
  obtain ⟨h12, eh12⟩ : ∃ h12, h12 = h11 ++ [O.lst ((A7 ++ T8) ++ T10)] := ⟨_, rfl⟩
  rw [← eh12] at w11
  -- all of it is good
  have p67 : h6 ++ newsB <+: h12 := by
    rw [eh12, eh11, eh10, eh9, eh8, eh7]
    simp only [List.append_assoc]
    rw [← List.append_assoc]
    exact List.prefix_append _ _
  have p412 : h4 <+: h12 := (p5.trans (by rw [eh6]; exact List.prefix_append _ _)).trans ((List.prefix_append h6 newsB).trans p67)
  have cg : ∀ {d}, d ∈ closedB → Good h12 29 10000000 d := fun hd => (closedB_good hd).mono (by omega) (by omega)
  have all : ∀ d ∈ (A7 ++ T8) ++ T10, Good h12 29 10000000 d := fun d hd => by
    rcases List.mem_append.mp hd with hd | hd
    · rcases List.mem_append.mp hd with hd | hd
      · rw [eA7] at hd
        rcases List.mem_append.mp hd with hd | hd
        · rcases List.mem_append.mp hd with hd | hd
          · exact ((g4 d hd).pre p412).mono (by omega) (by omega)
          · exact (looks_sure (n := n) (m := m) hd).good.mono (by omega) (by omega)
        · exact (thB_good d hd).pre p67
      · refine cg ?_
        simp only [T8, List.mem_cons, List.not_mem_nil, or_false] at hd
        rcases hd with rfl | rfl | rfl | rfl | rfl | rfl | rfl <;> simp only [closedB, List.mem_cons, true_or, or_true]
    · refine cg ?_
      simp only [T10, List.mem_cons, List.not_mem_nil, or_false] at hd
      rcases hd with rfl | rfl <;> simp only [closedB, List.mem_cons, true_or, or_true]
  obtain ⟨h13, p13, e13⟩ := last_ok dV (h := h12) (s := h11.length) (ds := (A7 ++ T8) ++ T10) (x0 := some S) (x1 := some (.ref n)) (x2 := some (.ref h1.length)) (x4 := x4) (x5 := x5) (x6 := none) (by rw [eh12]; exact get_last) (by rw [List.length_append, List.length_append, lA7, lT8, lT10]; omega) all
  refine ⟨h13, runB_ret rfl ?_⟩
  exact (sSeq_nx (sSet_eq (i := 1) ((cFn_eq (A := aCons (cVar 0) aNil) rfl).trans e1))).trans ((sSeq_nx (sSet_eq (i := 2) e2)).trans ((sSeq_nx (sSet_eq (i := 3) e3)).trans ((sSeq_nx e4).trans ((sSeq_nx w7).trans ((sSeq_nx w9).trans ((sSeq_nx w11).trans (sRet_eq e13)))))))
end K02

namespace K02
open Mi L2 PySem PySem.Spec PyProof.Rows
theorem all_mk {l : PySem.W.OpenLaw} {q : Program} {loose : List Str} {w : World} {K : PySem.W.Frag} {h : Heap} {mg mb : Str → Option Value} {mean : ExcName → Option Value} {fa : Addr} (T : Top q (PySem.W.looseW q loose) mean mg mb h) (X : K.In h) (G : h.Ns mainGlobals mg) (hfa : mg "law" = some (.ref fa))
    {f0 : Addr} {od0 an0 : Option Addr} {sl0 : Array (Option Value)} {oc0 kV0 dc0 pm0 cd0 ct0 : Value}
    {f1 : Addr} {od1 an1 : Option Addr} {sl1 : Array (Option Value)} {oc1 kV1 dc1 pm1 cd1 ct1 : Value}
    {f2 : Addr} {od2 an2 : Option Addr} {sl2 : Array (Option Value)} {oc2 kV2 dc2 pm2 cd2 ct2 : Value}
    {f3 : Addr} {od3 an3 : Option Addr} {sl3 : Array (Option Value)} {oc3 kV3 dc3 pm3 cd3 ct3 : Value}
    {f4 : Addr} {od4 an4 : Option Addr} {sl4 : Array (Option Value)} {oc4 kV4 dc4 pm4 cd4 ct4 : Value}
    {f5 : Addr} {od5 an5 : Option Addr} {sl5 : Array (Option Value)} {oc5 kV5 dc5 pm5 cd5 ct5 : Value}
    {f6 : Addr} {od6 an6 : Option Addr} {sl6 : Array (Option Value)} {oc6 kV6 dc6 pm6 cd6 ct6 : Value}
    {f7 : Addr} {od7 an7 : Option Addr} {sl7 : Array (Option Value)} {oc7 kV7 dc7 pm7 cd7 ct7 : Value}
    {f8 : Addr} {od8 an8 : Option Addr} {sl8 : Array (Option Value)} {oc8 kV8 dc8 pm8 cd8 ct8 : Value}
    {f9 : Addr} {od9 an9 : Option Addr} {sl9 : Array (Option Value)} {oc9 kV9 dc9 pm9 cd9 ct9 : Value}
    {f10 : Addr} {od10 an10 : Option Addr} {sl10 : Array (Option Value)} {oc10 kV10 dc10 pm10 cd10 ct10 : Value}
    {f11 : Addr} {od11 an11 : Option Addr} {sl11 : Array (Option Value)} {oc11 kV11 dc11 pm11 cd11 ct11 : Value}
    {f12 : Addr} {od12 an12 : Option Addr} {sl12 : Array (Option Value)} {oc12 kV12 dc12 pm12 cd12 ct12 : Value}
    {f13 : Addr} {od13 an13 : Option Addr} {sl13 : Array (Option Value)} {oc13 kV13 dc13 pm13 cd13 ct13 : Value}
    {f14 : Addr} {od14 an14 : Option Addr} {sl14 : Array (Option Value)} {oc14 kV14 dc14 pm14 cd14 ct14 : Value}
    {f15 : Addr} {od15 an15 : Option Addr} {sl15 : Array (Option Value)} {oc15 kV15 dc15 pm15 ct15 : Value} {c15 P15 : Addr} {dr15 : DefRec} {oq15 : Value} {oe15 : Option Addr} {vs15 : Array Value} {sm15 : Array (Option Value)}
    {f16 : Addr} {od16 an16 : Option Addr} {sl16 : Array (Option Value)} {oc16 kV16 dc16 pm16 cd16 ct16 : Value}
    {f17 : Addr} {od17 an17 : Option Addr} {sl17 : Array (Option Value)} {oc17 kV17 dc17 pm17 cd17 ct17 : Value}
    {f18 : Addr} {od18 an18 : Option Addr} {sl18 : Array (Option Value)} {oc18 kV18 dc18 pm18 ct18 : Value} {c18 P18 : Addr} {dr18 : DefRec} {oq18 : Value} {oe18 : Option Addr} {vs18 : Array Value} {sm18 : Array (Option Value)}
    {f19 : Addr} {od19 an19 : Option Addr} {sl19 : Array (Option Value)} {oc19 kV19 dc19 pm19 cd19 ct19 : Value}
    {f20 : Addr} {od20 an20 : Option Addr} {sl20 : Array (Option Value)} {oc20 kV20 dc20 pm20 cd20 ct20 : Value}
    {f21 : Addr} {od21 an21 : Option Addr} {sl21 : Array (Option Value)} {oc21 kV21 dc21 pm21 cd21 ct21 : Value}
    {f22 : Addr} {od22 an22 : Option Addr} {sl22 : Array (Option Value)} {oc22 kV22 dc22 pm22 cd22 ct22 : Value}
    {f23 : Addr} {od23 an23 : Option Addr} {sl23 : Array (Option Value)} {oc23 kV23 dc23 pm23 cd23 ct23 : Value}
    {f24 : Addr} {od24 an24 : Option Addr} {sl24 : Array (Option Value)} {oc24 kV24 dc24 pm24 cd24 ct24 : Value}
    {f25 : Addr} {od25 an25 : Option Addr} {sl25 : Array (Option Value)} {oc25 kV25 dc25 pm25 cd25 ct25 : Value}
    {f26 : Addr} {od26 an26 : Option Addr} {sl26 : Array (Option Value)} {oc26 kV26 dc26 pm26 cd26 ct26 : Value}
    {f27 : Addr} {od27 an27 : Option Addr} {sl27 : Array (Option Value)} {oc27 kV27 dc27 pm27 cd27 ct27 : Value}
    {f28 : Addr} {od28 an28 : Option Addr} {sl28 : Array (Option Value)} {oc28 kV28 dc28 pm28 cd28 ct28 : Value}
    {f29 : Addr} {od29 an29 : Option Addr} {sl29 : Array (Option Value)} {oc29 kV29 dc29 pm29 cd29 ct29 : Value}
    {tk_GREATEST : Tok}
    {tk_NAME_SIGNS : Tok}
    {tk_PERCENT : Tok}
    {tk_QUOTE : Tok}
    {tk_ROWS_DEEP : Tok}
    {tk_ROW_PARTS : Tok}
    {tk_TEXT_SIGNS : Tok}
    {tk_WORTHS_IN_ALL : Tok}
    (a0 : PySem.W.nsIn K mainGlobals ("_law_begun" : Str) = some (some (.ref f0)))
    (l0 : K.lookup f0 = some ⟨oc0, od0, .func (PySem.W.fnOf ("_law_begun" : Str) ("_law_begun" : Str) (defArgs st_l_begun) (defBody st_l_begun) (defScope st_l_begun) .none kV0 dc0 pm0 an0 cd0 ct0), sl0⟩)
    (c_0 : PySem.W.codeIn K cd0 ("_law_begun" : Str) = true)
    (k0 : PySem.W.keepIn K (.ref f0) = true)
    (a1 : PySem.W.nsIn K mainGlobals ("_law_dealt" : Str) = some (some (.ref f1)))
    (l1 : K.lookup f1 = some ⟨oc1, od1, .func (PySem.W.fnOf ("_law_dealt" : Str) ("_law_dealt" : Str) (defArgs st_l_dealt) (defBody st_l_dealt) (defScope st_l_dealt) .none kV1 dc1 pm1 an1 cd1 ct1), sl1⟩)
    (c_1 : PySem.W.codeIn K cd1 ("_law_dealt" : Str) = true)
    (k1 : PySem.W.keepIn K (.ref f1) = true)
    (a2 : PySem.W.nsIn K mainGlobals ("_law_pick" : Str) = some (some (.ref f2)))
    (l2 : K.lookup f2 = some ⟨oc2, od2, .func (PySem.W.fnOf ("_law_pick" : Str) ("_law_pick" : Str) (defArgs st_l_pick) (defBody st_l_pick) (defScope st_l_pick) .none kV2 dc2 pm2 an2 cd2 ct2), sl2⟩)
    (c_2 : PySem.W.codeIn K cd2 ("_law_pick" : Str) = true)
    (k2 : PySem.W.keepIn K (.ref f2) = true)
    (a3 : PySem.W.nsIn K mainGlobals ("_law_alike_looks" : Str) = some (some (.ref f3)))
    (l3 : K.lookup f3 = some ⟨oc3, od3, .func (PySem.W.fnOf ("_law_alike_looks" : Str) ("_law_alike_looks" : Str) (defArgs st_l_alike_looks) (defBody st_l_alike_looks) (defScope st_l_alike_looks) .none kV3 dc3 pm3 an3 cd3 ct3), sl3⟩)
    (c_3 : PySem.W.codeIn K cd3 ("_law_alike_looks" : Str) = true)
    (k3 : PySem.W.keepIn K (.ref f3) = true)
    (a4 : PySem.W.nsIn K mainGlobals ("_law_label" : Str) = some (some (.ref f4)))
    (l4 : K.lookup f4 = some ⟨oc4, od4, .func (PySem.W.fnOf ("_law_label" : Str) ("_law_label" : Str) (defArgs st_l_label) (defBody st_l_label) (defScope st_l_label) .none kV4 dc4 pm4 an4 cd4 ct4), sl4⟩)
    (c_4 : PySem.W.codeIn K cd4 ("_law_label" : Str) = true)
    (k4 : PySem.W.keepIn K (.ref f4) = true)
    (a5 : PySem.W.nsIn K mainGlobals ("_law_leaf" : Str) = some (some (.ref f5)))
    (l5 : K.lookup f5 = some ⟨oc5, od5, .func (PySem.W.fnOf ("_law_leaf" : Str) ("_law_leaf" : Str) (defArgs st_l_leaf) (defBody st_l_leaf) (defScope st_l_leaf) .none kV5 dc5 pm5 an5 cd5 ct5), sl5⟩)
    (c_5 : PySem.W.codeIn K cd5 ("_law_leaf" : Str) = true)
    (k5 : PySem.W.keepIn K (.ref f5) = true)
    (a6 : PySem.W.nsIn K mainGlobals ("_law_drawn" : Str) = some (some (.ref f6)))
    (l6 : K.lookup f6 = some ⟨oc6, od6, .func (PySem.W.fnOf ("_law_drawn" : Str) ("_law_drawn" : Str) (defArgs st_l_drawn) (defBody st_l_drawn) (defScope st_l_drawn) .none kV6 dc6 pm6 an6 cd6 ct6), sl6⟩)
    (c_6 : PySem.W.codeIn K cd6 ("_law_drawn" : Str) = true)
    (k6 : PySem.W.keepIn K (.ref f6) = true)
    (a7 : PySem.W.nsIn K mainGlobals ("_law_chain" : Str) = some (some (.ref f7)))
    (l7 : K.lookup f7 = some ⟨oc7, od7, .func (PySem.W.fnOf ("_law_chain" : Str) ("_law_chain" : Str) (defArgs st_l_chain) (defBody st_l_chain) (defScope st_l_chain) .none kV7 dc7 pm7 an7 cd7 ct7), sl7⟩)
    (c_7 : PySem.W.codeIn K cd7 ("_law_chain" : Str) = true)
    (k7 : PySem.W.keepIn K (.ref f7) = true)
    (a8 : PySem.W.nsIn K mainGlobals ("_law_wide" : Str) = some (some (.ref f8)))
    (l8 : K.lookup f8 = some ⟨oc8, od8, .func (PySem.W.fnOf ("_law_wide" : Str) ("_law_wide" : Str) (defArgs st_l_wide) (defBody st_l_wide) (defScope st_l_wide) .none kV8 dc8 pm8 an8 cd8 ct8), sl8⟩)
    (c_8 : PySem.W.codeIn K cd8 ("_law_wide" : Str) = true)
    (k8 : PySem.W.keepIn K (.ref f8) = true)
    (a9 : PySem.W.nsIn K mainGlobals ("_law_greatest" : Str) = some (some (.ref f9)))
    (l9 : K.lookup f9 = some ⟨oc9, od9, .func (PySem.W.fnOf ("_law_greatest" : Str) ("_law_greatest" : Str) (defArgs st_l_greatest) (defBody st_l_greatest) (defScope st_l_greatest) .none kV9 dc9 pm9 an9 cd9 ct9), sl9⟩)
    (c_9 : PySem.W.codeIn K cd9 ("_law_greatest" : Str) = true)
    (k9 : PySem.W.keepIn K (.ref f9) = true)
    (a10 : PySem.W.nsIn K mainGlobals ("_law_beyond" : Str) = some (some (.ref f10)))
    (l10 : K.lookup f10 = some ⟨oc10, od10, .func (PySem.W.fnOf ("_law_beyond" : Str) ("_law_beyond" : Str) (defArgs st_l_beyond) (defBody st_l_beyond) (defScope st_l_beyond) .none kV10 dc10 pm10 an10 cd10 ct10), sl10⟩)
    (c_10 : PySem.W.codeIn K cd10 ("_law_beyond" : Str) = true)
    (k10 : PySem.W.keepIn K (.ref f10) = true)
    (a11 : PySem.W.nsIn K mainGlobals ("_law_odd" : Str) = some (some (.ref f11)))
    (l11 : K.lookup f11 = some ⟨oc11, od11, .func (PySem.W.fnOf ("_law_odd" : Str) ("_law_odd" : Str) (defArgs st_l_odd) (defBody st_l_odd) (defScope st_l_odd) .none kV11 dc11 pm11 an11 cd11 ct11), sl11⟩)
    (c_11 : PySem.W.codeIn K cd11 ("_law_odd" : Str) = true)
    (k11 : PySem.W.keepIn K (.ref f11) = true)
    (a12 : PySem.W.nsIn K mainGlobals ("_law_spoilt" : Str) = some (some (.ref f12)))
    (l12 : K.lookup f12 = some ⟨oc12, od12, .func (PySem.W.fnOf ("_law_spoilt" : Str) ("_law_spoilt" : Str) (defArgs st_l_spoilt) (defBody st_l_spoilt) (defScope st_l_spoilt) .none kV12 dc12 pm12 an12 cd12 ct12), sl12⟩)
    (c_12 : PySem.W.codeIn K cd12 ("_law_spoilt" : Str) = true)
    (k12 : PySem.W.keepIn K (.ref f12) = true)
    (a13 : PySem.W.nsIn K mainGlobals ("is_short_row" : Str) = some (some (.ref f13)))
    (l13 : K.lookup f13 = some ⟨oc13, od13, .func (PySem.W.fnOf ("is_short_row" : Str) ("is_short_row" : Str) (defArgs st_is_short_row) (defBody st_is_short_row) (defScope st_is_short_row) .none kV13 dc13 pm13 an13 cd13 ct13), sl13⟩)
    (c_13 : PySem.W.codeIn K cd13 ("is_short_row" : Str) = true)
    (k13 : PySem.W.keepIn K (.ref f13) = true)
    (a14 : PySem.W.nsIn K mainGlobals ("is_whole" : Str) = some (some (.ref f14)))
    (l14 : K.lookup f14 = some ⟨oc14, od14, .func (PySem.W.fnOf ("is_whole" : Str) ("is_whole" : Str) (defArgs st_is_whole) (defBody st_is_whole) (defScope st_is_whole) .none kV14 dc14 pm14 an14 cd14 ct14), sl14⟩)
    (c_14 : PySem.W.codeIn K cd14 ("is_whole" : Str) = true)
    (k14 : PySem.W.keepIn K (.ref f14) = true)
    (a15 : PySem.W.nsIn K mainGlobals ("is_short_text" : Str) = some (some (.ref f15)))
    (l15 : K.lookup f15 = some ⟨oc15, od15, .func (PySem.W.fnOf ("is_short_text" : Str) ("is_short_text" : Str) (defArgs st_is_short_text) (defBody st_is_short_text) (defScope st_is_short_text) .none kV15 dc15 pm15 an15 (.ref c15) ct15), sl15⟩)
    (c_15 : PySem.W.codeIn K (.ref c15) ("is_short_text" : Str) = true)
    (k15 : PySem.W.keepIn K (.ref f15) = true)
    (lc15 : K.lookup c15 = some ⟨oq15, oe15, .fields vs15, sm15⟩)
    (t15 : (vs15[11]? : Option Value) = some (.ref P15))
    (n15 : K.lookup P15 = none)
    (r15 : (recsOf q).find? (fun e => e.name == ("is_short_text" : Str)) = some dr15)
    (a16 : PySem.W.nsIn K mainGlobals ("is_plain_single" : Str) = some (some (.ref f16)))
    (l16 : K.lookup f16 = some ⟨oc16, od16, .func (PySem.W.fnOf ("is_plain_single" : Str) ("is_plain_single" : Str) (defArgs st_is_plain_single) (defBody st_is_plain_single) (defScope st_is_plain_single) .none kV16 dc16 pm16 an16 cd16 ct16), sl16⟩)
    (c_16 : PySem.W.codeIn K cd16 ("is_plain_single" : Str) = true)
    (k16 : PySem.W.keepIn K (.ref f16) = true)
    (a17 : PySem.W.nsIn K mainGlobals ("is_thing" : Str) = some (some (.ref f17)))
    (l17 : K.lookup f17 = some ⟨oc17, od17, .func (PySem.W.fnOf ("is_thing" : Str) ("is_thing" : Str) (defArgs st_is_thing) (defBody st_is_thing) (defScope st_is_thing) .none kV17 dc17 pm17 an17 cd17 ct17), sl17⟩)
    (c_17 : PySem.W.codeIn K cd17 ("is_thing" : Str) = true)
    (k17 : PySem.W.keepIn K (.ref f17) = true)
    (a18 : PySem.W.nsIn K mainGlobals ("is_name" : Str) = some (some (.ref f18)))
    (l18 : K.lookup f18 = some ⟨oc18, od18, .func (PySem.W.fnOf ("is_name" : Str) ("is_name" : Str) (defArgs st_is_name) (defBody st_is_name) (defScope st_is_name) .none kV18 dc18 pm18 an18 (.ref c18) ct18), sl18⟩)
    (c_18 : PySem.W.codeIn K (.ref c18) ("is_name" : Str) = true)
    (k18 : PySem.W.keepIn K (.ref f18) = true)
    (lc18 : K.lookup c18 = some ⟨oq18, oe18, .fields vs18, sm18⟩)
    (t18 : (vs18[11]? : Option Value) = some (.ref P18))
    (n18 : K.lookup P18 = none)
    (r18 : (recsOf q).find? (fun e => e.name == ("is_name" : Str)) = some dr18)
    (a19 : PySem.W.nsIn K mainGlobals ("is_deed_or_kind" : Str) = some (some (.ref f19)))
    (l19 : K.lookup f19 = some ⟨oc19, od19, .func (PySem.W.fnOf ("is_deed_or_kind" : Str) ("is_deed_or_kind" : Str) (defArgs st_is_deed_or_kind) (defBody st_is_deed_or_kind) (defScope st_is_deed_or_kind) .none kV19 dc19 pm19 an19 cd19 ct19), sl19⟩)
    (c_19 : PySem.W.codeIn K cd19 ("is_deed_or_kind" : Str) = true)
    (k19 : PySem.W.keepIn K (.ref f19) = true)
    (a20 : PySem.W.nsIn K mainGlobals ("is_single" : Str) = some (some (.ref f20)))
    (l20 : K.lookup f20 = some ⟨oc20, od20, .func (PySem.W.fnOf ("is_single" : Str) ("is_single" : Str) (defArgs st_is_single) (defBody st_is_single) (defScope st_is_single) .none kV20 dc20 pm20 an20 cd20 ct20), sl20⟩)
    (c_20 : PySem.W.codeIn K cd20 ("is_single" : Str) = true)
    (k20 : PySem.W.keepIn K (.ref f20) = true)
    (a21 : PySem.W.nsIn K mainGlobals ("is_built_of" : Str) = some (some (.ref f21)))
    (l21 : K.lookup f21 = some ⟨oc21, od21, .func (PySem.W.fnOf ("is_built_of" : Str) ("is_built_of" : Str) (defArgs st_is_built_of) (defBody st_is_built_of) (defScope st_is_built_of) .none kV21 dc21 pm21 an21 cd21 ct21), sl21⟩)
    (c_21 : PySem.W.codeIn K cd21 ("is_built_of" : Str) = true)
    (k21 : PySem.W.keepIn K (.ref f21) = true)
    (a22 : PySem.W.nsIn K mainGlobals ("is_worth" : Str) = some (some (.ref f22)))
    (l22 : K.lookup f22 = some ⟨oc22, od22, .func (PySem.W.fnOf ("is_worth" : Str) ("is_worth" : Str) (defArgs st_is_worth) (defBody st_is_worth) (defScope st_is_worth) .none kV22 dc22 pm22 an22 cd22 ct22), sl22⟩)
    (c_22 : PySem.W.codeIn K cd22 ("is_worth" : Str) = true)
    (k22 : PySem.W.keepIn K (.ref f22) = true)
    (a23 : PySem.W.nsIn K mainGlobals ("is_plain" : Str) = some (some (.ref f23)))
    (l23 : K.lookup f23 = some ⟨oc23, od23, .func (PySem.W.fnOf ("is_plain" : Str) ("is_plain" : Str) (defArgs st_is_plain) (defBody st_is_plain) (defScope st_is_plain) .none kV23 dc23 pm23 an23 cd23 ct23), sl23⟩)
    (c_23 : PySem.W.codeIn K cd23 ("is_plain" : Str) = true)
    (k23 : PySem.W.keepIn K (.ref f23) = true)
    (a24 : PySem.W.nsIn K mainGlobals ("_law_is_label" : Str) = some (some (.ref f24)))
    (l24 : K.lookup f24 = some ⟨oc24, od24, .func (PySem.W.fnOf ("_law_is_label" : Str) ("_law_is_label" : Str) (defArgs st_l_is_label) (defBody st_l_is_label) (defScope st_l_is_label) .none kV24 dc24 pm24 an24 cd24 ct24), sl24⟩)
    (c_24 : PySem.W.codeIn K cd24 ("_law_is_label" : Str) = true)
    (k24 : PySem.W.keepIn K (.ref f24) = true)
    (a25 : PySem.W.nsIn K mainGlobals ("_law_leaf_looked" : Str) = some (some (.ref f25)))
    (l25 : K.lookup f25 = some ⟨oc25, od25, .func (PySem.W.fnOf ("_law_leaf_looked" : Str) ("_law_leaf_looked" : Str) (defArgs st_l_leaf_looked) (defBody st_l_leaf_looked) (defScope st_l_leaf_looked) .none kV25 dc25 pm25 an25 cd25 ct25), sl25⟩)
    (c_25 : PySem.W.codeIn K cd25 ("_law_leaf_looked" : Str) = true)
    (k25 : PySem.W.keepIn K (.ref f25) = true)
    (a26 : PySem.W.nsIn K mainGlobals ("_law_looked" : Str) = some (some (.ref f26)))
    (l26 : K.lookup f26 = some ⟨oc26, od26, .func (PySem.W.fnOf ("_law_looked" : Str) ("_law_looked" : Str) (defArgs st_l_looked) (defBody st_l_looked) (defScope st_l_looked) .none kV26 dc26 pm26 an26 cd26 ct26), sl26⟩)
    (c_26 : PySem.W.codeIn K cd26 ("_law_looked" : Str) = true)
    (k26 : PySem.W.keepIn K (.ref f26) = true)
    (a27 : PySem.W.nsIn K mainGlobals ("_law_deemed" : Str) = some (some (.ref f27)))
    (l27 : K.lookup f27 = some ⟨oc27, od27, .func (PySem.W.fnOf ("_law_deemed" : Str) ("_law_deemed" : Str) (defArgs st_l_deemed) (defBody st_l_deemed) (defScope st_l_deemed) .none kV27 dc27 pm27 an27 cd27 ct27), sl27⟩)
    (c_27 : PySem.W.codeIn K cd27 ("_law_deemed" : Str) = true)
    (k27 : PySem.W.keepIn K (.ref f27) = true)
    (a28 : PySem.W.nsIn K mainGlobals ("_law_right" : Str) = some (some (.ref f28)))
    (l28 : K.lookup f28 = some ⟨oc28, od28, .func (PySem.W.fnOf ("_law_right" : Str) ("_law_right" : Str) (defArgs st_l_right) (defBody st_l_right) (defScope st_l_right) .none kV28 dc28 pm28 an28 cd28 ct28), sl28⟩)
    (c_28 : PySem.W.codeIn K cd28 ("_law_right" : Str) = true)
    (k28 : PySem.W.keepIn K (.ref f28) = true)
    (a29 : PySem.W.nsIn K mainGlobals ("law" : Str) = some (some (.ref f29)))
    (l29 : K.lookup f29 = some ⟨oc29, od29, .func (PySem.W.fnOf ("law" : Str) ("law" : Str) (defArgs st_law) (defBody st_law) (defScope st_law) .none kV29 dc29 pm29 an29 cd29 ct29), sl29⟩)
    (c_29 : PySem.W.codeIn K cd29 ("law" : Str) = true)
    (k29 : PySem.W.keepIn K (.ref f29) = true)
    (z_abs : PySem.W.nsIn K mainGlobals ("abs" : Str) = some none)
    (z_all : PySem.W.nsIn K mainGlobals ("all" : Str) = some none)
    (z_bool : PySem.W.nsIn K mainGlobals ("bool" : Str) = some none)
    (z_int : PySem.W.nsIn K mainGlobals ("int" : Str) = some none)
    (z_isinstance : PySem.W.nsIn K mainGlobals ("isinstance" : Str) = some none)
    (z_len : PySem.W.nsIn K mainGlobals ("len" : Str) = some none)
    (z_list : PySem.W.nsIn K mainGlobals ("list" : Str) = some none)
    (z_max : PySem.W.nsIn K mainGlobals ("max" : Str) = some none)
    (z_ord : PySem.W.nsIn K mainGlobals ("ord" : Str) = some none)
    (z_range : PySem.W.nsIn K mainGlobals ("range" : Str) = some none)
    (z_repr : PySem.W.nsIn K mainGlobals ("repr" : Str) = some none)
    (z_str : PySem.W.nsIn K mainGlobals ("str" : Str) = some none)
    (z_sum : PySem.W.nsIn K mainGlobals ("sum" : Str) = some none)
    (z_tuple : PySem.W.nsIn K mainGlobals ("tuple" : Str) = some none)
    (v_GREATEST : PySem.W.nsIn K mainGlobals ("GREATEST" : Str) = some (some (.int (1000000000000000) tk_GREATEST)))
    (v_NAME_SIGNS : PySem.W.nsIn K mainGlobals ("NAME_SIGNS" : Str) = some (some (.int (8) tk_NAME_SIGNS)))
    (v_PERCENT : PySem.W.nsIn K mainGlobals ("PERCENT" : Str) = some (some (.int (37) tk_PERCENT)))
    (v_QUOTE : PySem.W.nsIn K mainGlobals ("QUOTE" : Str) = some (some (.int (39) tk_QUOTE)))
    (v_ROWS_DEEP : PySem.W.nsIn K mainGlobals ("ROWS_DEEP" : Str) = some (some (.int (8) tk_ROWS_DEEP)))
    (v_ROW_PARTS : PySem.W.nsIn K mainGlobals ("ROW_PARTS" : Str) = some (some (.int (40) tk_ROW_PARTS)))
    (v_TEXT_SIGNS : PySem.W.nsIn K mainGlobals ("TEXT_SIGNS" : Str) = some (some (.int (20) tk_TEXT_SIGNS)))
    (v_WORTHS_IN_ALL : PySem.W.nsIn K mainGlobals ("WORTHS_IN_ALL" : Str) = some (some (.int (200) tk_WORTHS_IN_ALL)))
    (dif : f20 ≠ f16)
    (nsm : K.lookup sysModules = none) (ins : importsNone q = true)
    : LawG l w K 35 63 "_law_script" mg fa h := by
  have e := hfa.symm.trans (PySem.W.mg_of X G a29)
  cases e
  have D0 : Kd K mg ("_law_begun" : Str) st_l_begun _ _ _ := ⟨⟨_, _, _, _, _, _, _, _, rfl, l0⟩, ⟨k0, c_0⟩, PySem.W.mg_of X G a0⟩
  have D1 : Kd K mg ("_law_dealt" : Str) st_l_dealt _ _ _ := ⟨⟨_, _, _, _, _, _, _, _, rfl, l1⟩, ⟨k1, c_1⟩, PySem.W.mg_of X G a1⟩
  have D2 : Kd K mg ("_law_pick" : Str) st_l_pick _ _ _ := ⟨⟨_, _, _, _, _, _, _, _, rfl, l2⟩, ⟨k2, c_2⟩, PySem.W.mg_of X G a2⟩
  have D3 : Kd K mg ("_law_alike_looks" : Str) st_l_alike_looks _ _ _ := ⟨⟨_, _, _, _, _, _, _, _, rfl, l3⟩, ⟨k3, c_3⟩, PySem.W.mg_of X G a3⟩
  have D4 : Kd K mg ("_law_label" : Str) st_l_label _ _ _ := ⟨⟨_, _, _, _, _, _, _, _, rfl, l4⟩, ⟨k4, c_4⟩, PySem.W.mg_of X G a4⟩
  have D5 : Kd K mg ("_law_leaf" : Str) st_l_leaf _ _ _ := ⟨⟨_, _, _, _, _, _, _, _, rfl, l5⟩, ⟨k5, c_5⟩, PySem.W.mg_of X G a5⟩
  have D6 : Kd K mg ("_law_drawn" : Str) st_l_drawn _ _ _ := ⟨⟨_, _, _, _, _, _, _, _, rfl, l6⟩, ⟨k6, c_6⟩, PySem.W.mg_of X G a6⟩
  have D7 : Kd K mg ("_law_chain" : Str) st_l_chain _ _ _ := ⟨⟨_, _, _, _, _, _, _, _, rfl, l7⟩, ⟨k7, c_7⟩, PySem.W.mg_of X G a7⟩
  have D8 : Kd K mg ("_law_wide" : Str) st_l_wide _ _ _ := ⟨⟨_, _, _, _, _, _, _, _, rfl, l8⟩, ⟨k8, c_8⟩, PySem.W.mg_of X G a8⟩
  have D9 : Kd K mg ("_law_greatest" : Str) st_l_greatest _ _ _ := ⟨⟨_, _, _, _, _, _, _, _, rfl, l9⟩, ⟨k9, c_9⟩, PySem.W.mg_of X G a9⟩
  have D10 : Kd K mg ("_law_beyond" : Str) st_l_beyond _ _ _ := ⟨⟨_, _, _, _, _, _, _, _, rfl, l10⟩, ⟨k10, c_10⟩, PySem.W.mg_of X G a10⟩
  have D11 : Kd K mg ("_law_odd" : Str) st_l_odd _ _ _ := ⟨⟨_, _, _, _, _, _, _, _, rfl, l11⟩, ⟨k11, c_11⟩, PySem.W.mg_of X G a11⟩
  have D12 : Kd K mg ("_law_spoilt" : Str) st_l_spoilt _ _ _ := ⟨⟨_, _, _, _, _, _, _, _, rfl, l12⟩, ⟨k12, c_12⟩, PySem.W.mg_of X G a12⟩
  have D13 : Kd K mg ("is_short_row" : Str) st_is_short_row _ _ _ := ⟨⟨_, _, _, _, _, _, _, _, rfl, l13⟩, ⟨k13, c_13⟩, PySem.W.mg_of X G a13⟩
  have D14 : Kd K mg ("is_whole" : Str) st_is_whole _ _ _ := ⟨⟨_, _, _, _, _, _, _, _, rfl, l14⟩, ⟨k14, c_14⟩, PySem.W.mg_of X G a14⟩
  have D15 : Kd K mg ("is_short_text" : Str) st_is_short_text _ _ _ := ⟨⟨_, _, _, _, _, _, _, _, rfl, l15⟩, ⟨k15, c_15⟩, PySem.W.mg_of X G a15⟩
  have D16 : Kd K mg ("is_plain_single" : Str) st_is_plain_single _ _ _ := ⟨⟨_, _, _, _, _, _, _, _, rfl, l16⟩, ⟨k16, c_16⟩, PySem.W.mg_of X G a16⟩
  have D17 : Kd K mg ("is_thing" : Str) st_is_thing _ _ _ := ⟨⟨_, _, _, _, _, _, _, _, rfl, l17⟩, ⟨k17, c_17⟩, PySem.W.mg_of X G a17⟩
  have D18 : Kd K mg ("is_name" : Str) st_is_name _ _ _ := ⟨⟨_, _, _, _, _, _, _, _, rfl, l18⟩, ⟨k18, c_18⟩, PySem.W.mg_of X G a18⟩
  have D19 : Kd K mg ("is_deed_or_kind" : Str) st_is_deed_or_kind _ _ _ := ⟨⟨_, _, _, _, _, _, _, _, rfl, l19⟩, ⟨k19, c_19⟩, PySem.W.mg_of X G a19⟩
  have D20 : Kd K mg ("is_single" : Str) st_is_single _ _ _ := ⟨⟨_, _, _, _, _, _, _, _, rfl, l20⟩, ⟨k20, c_20⟩, PySem.W.mg_of X G a20⟩
  have D21 : Kd K mg ("is_built_of" : Str) st_is_built_of _ _ _ := ⟨⟨_, _, _, _, _, _, _, _, rfl, l21⟩, ⟨k21, c_21⟩, PySem.W.mg_of X G a21⟩
  have D22 : Kd K mg ("is_worth" : Str) st_is_worth _ _ _ := ⟨⟨_, _, _, _, _, _, _, _, rfl, l22⟩, ⟨k22, c_22⟩, PySem.W.mg_of X G a22⟩
  have D23 : Kd K mg ("is_plain" : Str) st_is_plain _ _ _ := ⟨⟨_, _, _, _, _, _, _, _, rfl, l23⟩, ⟨k23, c_23⟩, PySem.W.mg_of X G a23⟩
  have D24 : Kd K mg ("_law_is_label" : Str) st_l_is_label _ _ _ := ⟨⟨_, _, _, _, _, _, _, _, rfl, l24⟩, ⟨k24, c_24⟩, PySem.W.mg_of X G a24⟩
  have D25 : Kd K mg ("_law_leaf_looked" : Str) st_l_leaf_looked _ _ _ := ⟨⟨_, _, _, _, _, _, _, _, rfl, l25⟩, ⟨k25, c_25⟩, PySem.W.mg_of X G a25⟩
  have D26 : Kd K mg ("_law_looked" : Str) st_l_looked _ _ _ := ⟨⟨_, _, _, _, _, _, _, _, rfl, l26⟩, ⟨k26, c_26⟩, PySem.W.mg_of X G a26⟩
  have D27 : Kd K mg ("_law_deemed" : Str) st_l_deemed _ _ _ := ⟨⟨_, _, _, _, _, _, _, _, rfl, l27⟩, ⟨k27, c_27⟩, PySem.W.mg_of X G a27⟩
  have D28 : Kd K mg ("_law_right" : Str) st_l_right _ _ _ := ⟨⟨_, _, _, _, _, _, _, _, rfl, l28⟩, ⟨k28, c_28⟩, PySem.W.mg_of X G a28⟩
  have D29 : Kd K mg ("law" : Str) st_law _ _ _ := ⟨⟨_, _, _, _, _, _, _, _, rfl, l29⟩, ⟨k29, c_29⟩, PySem.W.mg_of X G a29⟩
  have Tx : Txt K mg := ⟨PySem.W.mg_none_of X G z_abs, PySem.W.mg_none_of X G z_all, PySem.W.mg_none_of X G z_bool, PySem.W.mg_none_of X G z_int, PySem.W.mg_none_of X G z_isinstance, PySem.W.mg_none_of X G z_len, PySem.W.mg_none_of X G z_list, PySem.W.mg_none_of X G z_max, PySem.W.mg_none_of X G z_ord, PySem.W.mg_none_of X G z_range, PySem.W.mg_none_of X G z_repr, PySem.W.mg_none_of X G z_str, PySem.W.mg_none_of X G z_sum, PySem.W.mg_none_of X G z_tuple, ⟨_, PySem.W.mg_of X G v_GREATEST, ⟨_, rfl⟩⟩, ⟨_, PySem.W.mg_of X G v_NAME_SIGNS, ⟨_, rfl⟩⟩, ⟨_, PySem.W.mg_of X G v_PERCENT, ⟨_, rfl⟩⟩, ⟨_, PySem.W.mg_of X G v_QUOTE, ⟨_, rfl⟩⟩, ⟨_, PySem.W.mg_of X G v_ROWS_DEEP, ⟨_, rfl⟩⟩, ⟨_, PySem.W.mg_of X G v_ROW_PARTS, ⟨_, rfl⟩⟩, ⟨_, PySem.W.mg_of X G v_TEXT_SIGNS, ⟨_, rfl⟩⟩, ⟨_, PySem.W.mg_of X G v_WORTHS_IN_ALL, ⟨_, rfl⟩⟩⟩
  have tb15 := PySem.W.tab_of T X r15 (Mi.tabIn_of a15 l15 rfl lc15 t15)
  have tb18 := PySem.W.tab_of T X r18 (Mi.tabIn_of a18 l18 rfl lc18 t18)
  obtain ⟨V, eV⟩ : ∃ V : FV, V = ⟨f20, f16⟩ := ⟨_, rfl⟩
  have hV : HV V mg := by rw [eV]; exact ⟨PySem.W.mg_of X G a20, PySem.W.mg_of X G a16⟩
  have dV : V.a_is_single ≠ V.a_is_plain_single := by rw [eV]; exact dif
  refine ⟨PySem.W.fnOf "law" "law" (defArgs st_law) (defBody st_law) (defScope st_law) .none kV29 dc29 pm29 an29 cd29 ct29, [], [(c15, P15), (c18, P18)], (f_law V), (by intro p hp; simp only [List.mem_cons, List.not_mem_nil, or_false] at hp; rcases hp with rfl | rfl <;> first | exact tb15.2 | exact tb18.2), (by intro p hp; simp only [List.mem_cons, List.not_mem_nil, or_false] at hp; rcases hp with rfl | rfl <;> first | exact n15 | exact n18), (by intro p hp; simp only [List.mem_cons, List.not_mem_nil, or_false] at hp; rcases hp with rfl | rfl <;> first | exact tb15.1 | exact tb18.1), nsm, (let ⟨mm, z, _⟩ := (T.seer ins).mods; ⟨mm, z⟩), fun s v => .of_eq rfl, fun ns hl hb => law_ok dV hl hb, fun base _ _ TB => ?_⟩
  have TB15 := TB (c15, P15) (by simp)
  have hP15 : P15 ∈ [(c15, P15), (c18, P18)].map (·.2) := by simp
  have TB18 := TB (c18, P18) (by simp)
  have hP18 : P18 ∈ [(c15, P15), (c18, P18)].map (·.2) := by simp
  have C_l_begun := ok_l_begun (P := l.prog) (w := w) (base := base) (cls := []) (ts := [(c15, P15), (c18, P18)].map (·.2)) Tx D0
  have C_l_dealt := ok_l_dealt (P := l.prog) (w := w) (base := base) (cls := []) (ts := [(c15, P15), (c18, P18)].map (·.2)) Tx D1
  have C_l_pick := ok_l_pick (P := l.prog) (w := w) (base := base) (cls := []) (ts := [(c15, P15), (c18, P18)].map (·.2)) Tx C_l_dealt D2
  have C_l_alike_looks := ok_l_alike_looks (P := l.prog) (w := w) (base := base) (cls := []) (ts := [(c15, P15), (c18, P18)].map (·.2)) Tx D3
  have C_l_label := ok_l_label (P := l.prog) (w := w) (base := base) (cls := []) (ts := [(c15, P15), (c18, P18)].map (·.2)) Tx C_l_pick D4
  have C_l_leaf := ok_l_leaf (P := l.prog) (w := w) (base := base) (cls := []) (ts := [(c15, P15), (c18, P18)].map (·.2)) Tx C_l_dealt C_l_pick C_l_label D5
  have C_l_drawn := ok_l_drawn (P := l.prog) (w := w) (base := base) (cls := []) (ts := [(c15, P15), (c18, P18)].map (·.2)) Tx C_l_dealt C_l_leaf C_l_pick C_l_alike_looks D6 30
  have C_l_chain := ok_l_chain (P := l.prog) (w := w) (base := base) (cls := []) (ts := [(c15, P15), (c18, P18)].map (·.2)) Tx D7
  have C_l_wide := ok_l_wide (P := l.prog) (w := w) (base := base) (cls := []) (ts := [(c15, P15), (c18, P18)].map (·.2)) Tx D8
  have C_l_greatest := ok_l_greatest (P := l.prog) (w := w) (base := base) (cls := []) (ts := [(c15, P15), (c18, P18)].map (·.2)) Tx C_l_leaf C_l_chain C_l_wide D9
  have C_l_beyond := ok_l_beyond (P := l.prog) (w := w) (base := base) (cls := []) (ts := [(c15, P15), (c18, P18)].map (·.2)) Tx C_l_leaf C_l_chain C_l_wide D10
  have C_l_odd := ok_l_odd (P := l.prog) (w := w) (base := base) (cls := []) (ts := [(c15, P15), (c18, P18)].map (·.2)) Tx C_l_pick D11
  have C_l_spoilt := ok_l_spoilt (P := l.prog) (w := w) (base := base) (cls := []) (ts := [(c15, P15), (c18, P18)].map (·.2)) Tx C_l_dealt C_l_odd D12 30
  have C_is_short_row := ok_is_short_row (P := l.prog) (w := w) (base := base) (cls := []) (ts := [(c15, P15), (c18, P18)].map (·.2)) Tx D13
  have C_is_whole := ok_is_whole (P := l.prog) (w := w) (base := base) (cls := []) (ts := [(c15, P15), (c18, P18)].map (·.2)) Tx D14
  have C_is_short_text := ok_is_short_text (P := l.prog) (w := w) (base := base) (cls := []) (ts := [(c15, P15), (c18, P18)].map (·.2)) Tx TB15 hP15 D15
  have C_is_plain_single := ok_is_plain_single (P := l.prog) (w := w) (base := base) (cls := []) (ts := [(c15, P15), (c18, P18)].map (·.2)) Tx C_is_whole C_is_short_text D16
  have C_is_thing := ok_is_thing (P := l.prog) (w := w) (base := base) (cls := []) (ts := [(c15, P15), (c18, P18)].map (·.2)) Tx C_is_whole D17
  have C_is_name := ok_is_name (P := l.prog) (w := w) (base := base) (cls := []) (ts := [(c15, P15), (c18, P18)].map (·.2)) Tx TB18 hP18 D18
  have C_is_deed_or_kind := ok_is_deed_or_kind (P := l.prog) (w := w) (base := base) (cls := []) (ts := [(c15, P15), (c18, P18)].map (·.2)) Tx C_is_name D19
  have C_is_single := ok_is_single (P := l.prog) (w := w) (base := base) (cls := []) (ts := [(c15, P15), (c18, P18)].map (·.2)) Tx C_is_plain_single C_is_thing C_is_deed_or_kind D20
  have C_is_built_of := ok_is_built_of (P := l.prog) (w := w) (base := base) (cls := []) (ts := [(c15, P15), (c18, P18)].map (·.2)) Tx hV C_is_short_row C_is_single C_is_plain_single D21
  have C_is_worth := ok_is_worth (P := l.prog) (w := w) (base := base) (cls := []) (ts := [(c15, P15), (c18, P18)].map (·.2)) Tx hV C_is_built_of D22
  have C_is_plain := ok_is_plain (P := l.prog) (w := w) (base := base) (cls := []) (ts := [(c15, P15), (c18, P18)].map (·.2)) Tx hV C_is_built_of D23
  have C_l_is_label := ok_l_is_label (P := l.prog) (w := w) (base := base) (cls := []) (ts := [(c15, P15), (c18, P18)].map (·.2)) Tx D24
  have C_l_leaf_looked := ok_l_leaf_looked (P := l.prog) (w := w) (base := base) (cls := []) (ts := [(c15, P15), (c18, P18)].map (·.2)) Tx C_l_is_label D25
  have C_l_looked := ok_l_looked (P := l.prog) (w := w) (base := base) (cls := []) (ts := [(c15, P15), (c18, P18)].map (·.2)) Tx C_l_leaf_looked D26 30
  have C_l_deemed := ok_l_deemed (P := l.prog) (w := w) (base := base) (cls := []) (ts := [(c15, P15), (c18, P18)].map (·.2)) Tx C_l_looked D27
  have C_l_right := ok_l_right (P := l.prog) (w := w) (base := base) (cls := []) (ts := [(c15, P15), (c18, P18)].map (·.2)) Tx hV C_is_plain C_is_worth C_l_deemed D28
  exact fn_law (P := l.prog) (w := w) (cls := []) Tx hV C_l_begun C_l_dealt C_l_drawn C_l_greatest C_l_beyond C_l_spoilt C_l_pick C_l_alike_looks C_l_chain C_l_right D29
end K02
open PySem PySem.W PyProof.Rows in
set_option maxRecDepth 100000 in
set_option maxHeartbeats 0 in
theorem PySem.Challenge.cw_everso_k02_worths_of_anything_holds : PySem.Challenge.rw_everso_k02_worths_of_anything.Holds := by
  w_on; o_law; k_head; (case hw => w_witness2)
  k_fill
  refine Mi.walkG (l := PySem.Challenge.rw_everso_k02_worths_of_anything) (n := 63) (k := 35) (x := "_law_script") rfl (by decide) rfl ⟨rfl, by decide, by decide⟩ (fun w h Y => PySem.W.kIn_of Y) ?F
  case F =>
    intro w mg mb mean fa h T Y KX G hmg
    refine' K02.all_mk T KX G hmg ?a0 ?l0 ?c_0 ?k0 ?a1 ?l1 ?c_1 ?k1 ?a2 ?l2 ?c_2 ?k2 ?a3 ?l3 ?c_3 ?k3 ?a4 ?l4 ?c_4 ?k4 ?a5 ?l5 ?c_5 ?k5 ?a6 ?l6 ?c_6 ?k6 ?a7 ?l7 ?c_7 ?k7 ?a8 ?l8 ?c_8 ?k8 ?a9 ?l9 ?c_9 ?k9 ?a10 ?l10 ?c_10 ?k10 ?a11 ?l11 ?c_11 ?k11 ?a12 ?l12 ?c_12 ?k12 ?a13 ?l13 ?c_13 ?k13 ?a14 ?l14 ?c_14 ?k14 ?a15 ?l15 ?c_15 ?k15 ?lc15 ?t15 ?n15 ?r15 ?a16 ?l16 ?c_16 ?k16 ?a17 ?l17 ?c_17 ?k17 ?a18 ?l18 ?c_18 ?k18 ?lc18 ?t18 ?n18 ?r18 ?a19 ?l19 ?c_19 ?k19 ?a20 ?l20 ?c_20 ?k20 ?a21 ?l21 ?c_21 ?k21 ?a22 ?l22 ?c_22 ?k22 ?a23 ?l23 ?c_23 ?k23 ?a24 ?l24 ?c_24 ?k24 ?a25 ?l25 ?c_25 ?k25 ?a26 ?l26 ?c_26 ?k26 ?a27 ?l27 ?c_27 ?k27 ?a28 ?l28 ?c_28 ?k28 ?a29 ?l29 ?c_29 ?k29 ?z_abs ?z_all ?z_bool ?z_int ?z_isinstance ?z_len ?z_list ?z_max ?z_ord ?z_range ?z_repr ?z_str ?z_sum ?z_tuple ?v_GREATEST ?v_NAME_SIGNS ?v_PERCENT ?v_QUOTE ?v_ROWS_DEEP ?v_ROW_PARTS ?v_TEXT_SIGNS ?v_WORTHS_IN_ALL ?dif ?nsm ?ins
    (case a0 => k_is)
    (case l0 => k_is)
    (case c_0 => k_is)
    (case k0 => k_is)
    (case a1 => k_is)
    (case l1 => k_is)
    (case c_1 => k_is)
    (case k1 => k_is)
    (case a2 => k_is)
    (case l2 => k_is)
    (case c_2 => k_is)
    (case k2 => k_is)
    (case a3 => k_is)
    (case l3 => k_is)
    (case c_3 => k_is)
    (case k3 => k_is)
    (case a4 => k_is)
    (case l4 => k_is)
    (case c_4 => k_is)
    (case k4 => k_is)
    (case a5 => k_is)
    (case l5 => k_is)
    (case c_5 => k_is)
    (case k5 => k_is)
    (case a6 => k_is)
    (case l6 => k_is)
    (case c_6 => k_is)
    (case k6 => k_is)
    (case a7 => k_is)
    (case l7 => k_is)
    (case c_7 => k_is)
    (case k7 => k_is)
    (case a8 => k_is)
    (case l8 => k_is)
    (case c_8 => k_is)
    (case k8 => k_is)
    (case a9 => k_is)
    (case l9 => k_is)
    (case c_9 => k_is)
    (case k9 => k_is)
    (case a10 => k_is)
    (case l10 => k_is)
    (case c_10 => k_is)
    (case k10 => k_is)
    (case a11 => k_is)
    (case l11 => k_is)
    (case c_11 => k_is)
    (case k11 => k_is)
    (case a12 => k_is)
    (case l12 => k_is)
    (case c_12 => k_is)
    (case k12 => k_is)
    (case a13 => k_is)
    (case l13 => k_is)
    (case c_13 => k_is)
    (case k13 => k_is)
    (case a14 => k_is)
    (case l14 => k_is)
    (case c_14 => k_is)
    (case k14 => k_is)
    (case a15 => k_is)
    (case l15 => k_is)
    (case c_15 => k_is)
    (case k15 => k_is)
    (case lc15 => k_is)
    (case t15 => first | rfl | kernel_rfl)
    (case n15 => first | rfl | kernel_rfl)
    (case r15 => first | rfl | kernel_rfl)
    (case a16 => k_is)
    (case l16 => k_is)
    (case c_16 => k_is)
    (case k16 => k_is)
    (case a17 => k_is)
    (case l17 => k_is)
    (case c_17 => k_is)
    (case k17 => k_is)
    (case a18 => k_is)
    (case l18 => k_is)
    (case c_18 => k_is)
    (case k18 => k_is)
    (case lc18 => k_is)
    (case t18 => first | rfl | kernel_rfl)
    (case n18 => first | rfl | kernel_rfl)
    (case r18 => first | rfl | kernel_rfl)
    (case a19 => k_is)
    (case l19 => k_is)
    (case c_19 => k_is)
    (case k19 => k_is)
    (case a20 => k_is)
    (case l20 => k_is)
    (case c_20 => k_is)
    (case k20 => k_is)
    (case a21 => k_is)
    (case l21 => k_is)
    (case c_21 => k_is)
    (case k21 => k_is)
    (case a22 => k_is)
    (case l22 => k_is)
    (case c_22 => k_is)
    (case k22 => k_is)
    (case a23 => k_is)
    (case l23 => k_is)
    (case c_23 => k_is)
    (case k23 => k_is)
    (case a24 => k_is)
    (case l24 => k_is)
    (case c_24 => k_is)
    (case k24 => k_is)
    (case a25 => k_is)
    (case l25 => k_is)
    (case c_25 => k_is)
    (case k25 => k_is)
    (case a26 => k_is)
    (case l26 => k_is)
    (case c_26 => k_is)
    (case k26 => k_is)
    (case a27 => k_is)
    (case l27 => k_is)
    (case c_27 => k_is)
    (case k27 => k_is)
    (case a28 => k_is)
    (case l28 => k_is)
    (case c_28 => k_is)
    (case k28 => k_is)
    (case a29 => k_is)
    (case l29 => k_is)
    (case c_29 => k_is)
    (case k29 => k_is)
    (case z_abs => k_is)
    (case z_all => k_is)
    (case z_bool => k_is)
    (case z_int => k_is)
    (case z_isinstance => k_is)
    (case z_len => k_is)
    (case z_list => k_is)
    (case z_max => k_is)
    (case z_ord => k_is)
    (case z_range => k_is)
    (case z_repr => k_is)
    (case z_str => k_is)
    (case z_sum => k_is)
    (case z_tuple => k_is)
    (case v_GREATEST => k_is)
    (case v_NAME_SIGNS => k_is)
    (case v_PERCENT => k_is)
    (case v_QUOTE => k_is)
    (case v_ROWS_DEEP => k_is)
    (case v_ROW_PARTS => k_is)
    (case v_TEXT_SIGNS => k_is)
    (case v_WORTHS_IN_ALL => k_is)
    (case dif => decide)
    (case nsm => first | rfl | kernel_rfl)
    (case ins => first | rfl | kernel_rfl)

