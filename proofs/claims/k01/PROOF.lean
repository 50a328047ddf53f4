import PyProof.Rows.All
import HandS.ForMost
import HandS.ForExc
import HandS.AnyAll
import HandS.IsInst
import HandS.Style
import HandS.TupAny
import HandS.TupMul
import HandS.Flow
import HandS.Deep
import HandS.Text
import HandS.ForDict
import HandS.EndTab
import HandS.EndBits
import HandS.Dict
import HandS.Words
import PySem.Challenge.RW_everso_k01_names_of_anything
set_option Elab.async false
set_option linter.all false
set_option maxRecDepth 100000
set_option maxHeartbeats 0
/-! Mi0: a small store semantics over the layer: values, stores, what stands for what. -/
namespace Mi
open L2 PySem PySem.Spec PyProof.Rows

/-- a value: tuples (and lists that nobody changes: the script) are inline, what may change stands at a number of the store -/
inductive D where
  | non | bl (b : Bool) | int (i : Int) | str (x : Str) | tup (xs : List D) | rol (xs : List D) | ref (n : Nat) | ty (n : String) | own (C : Addr)
/-- what stands at a number -/
inductive O where
  | lst (xs : List D) | dic (kvs : List (Key × D)) | ins (c : Nat) (fs : List (Str × D))
abbrev AH := List O
/-- an exception: its class (an own one by its number, or a built-in one), its fields -/
inductive Cl where
  | own (c : Nat) | ty (n : String)
structure Exn where
  cl : Cl
  fs : List (Str × D)
inductive Res (α : Type) where
  | ok (a : α) (h : AH) | exc (x : Exn) (h : AH) | stuck
def Res.bind {α β : Type} (r : Res α) (f : α → AH → Res β) : Res β :=
  match r with
  | .ok a h => f a h
  | .exc x h => .exc x h
  | .stuck => .stuck
@[simp] theorem Res.bind_ok {α β : Type} (a : α) (h : AH) (f : α → AH → Res β) : (Res.ok a h).bind f = f a h := rfl
@[simp] theorem Res.bind_exc {α β : Type} (x : Exn) (h : AH) (f : α → AH → Res β) : (Res.exc (α := α) x h).bind f = .exc x h := rfl
@[simp] theorem Res.bind_stuck {α β : Type} (f : α → AH → Res β) : (Res.stuck (α := α)).bind f = .stuck := rfl
abbrev AEnv := List (Option D)

/-- a list that nobody changes -/
def SqR (K : PySem.W.Frag) (H : Hp) (a : Addr) (xs : List V) : Prop :=
  (∃ o, H a = some (.frz o (.lst xs))) ∨
    ∃ (ob : Obj) (zs : Array Value) (k : Nat), K.lookup a = some ob ∧ ob.cls = .type "list" ∧ ob.dict = none ∧ ob.data = .seq zs k ∧ zs.size ≤ sizeLine ∧ Vals xs zs.toList
theorem SqR.sq {K : PySem.W.Frag} {H : Hp} {a : Addr} {xs : List V} (h : SqR K H a xs) : SqL K H a xs := by
  rcases h with ⟨o, h⟩ | h
  · exact .inl (.inr ⟨o, h⟩)
  · exact .inr h
section
variable (K : PySem.W.Frag)
mutual
/-- v stands for d -/
inductive RV (ρ : List Addr) (H : Hp) : V → D → Prop where
  | non : RV ρ H .non .non
  | bl (b : Bool) : RV ρ H (.bl b) (.bl b)
  | int (i : Int) : RV ρ H (.int i) (.int i)
  | str (x : Str) : RV ρ H (.str x) (.str x)
  | tup {a : Addr} {xs : List V} {ds : List D} : SqT K H a xs → RVs ρ H xs ds → RV ρ H (.ref a) (.tup ds)
  | rol {a : Addr} {xs : List V} {ds : List D} : SqR K H a xs → RVs ρ H xs ds → RV ρ H (.ref a) (.rol ds)
  | ref {a : Addr} {n : Nat} : ρ[n]? = some a → RV ρ H (.ref a) (.ref n)
  | ty (n : String) : RV ρ H (.ty n) (.ty n)
  | own (C : Addr) : RV ρ H (.ref C) (.own C)
inductive RVs (ρ : List Addr) (H : Hp) : List V → List D → Prop where
  | nil : RVs ρ H [] []
  | cons {x : V} {d : D} {xs : List V} {ds : List D} : RV ρ H x d → RVs ρ H xs ds → RVs ρ H (x :: xs) (d :: ds)
end
def RKs (ρ : List Addr) (H : Hp) : List (Key × V) → List (Key × D) → Prop := Paired fun p q => p.1 = q.1 ∧ RV K ρ H p.2 q.2
def RFs (ρ : List Addr) (H : Hp) : List (Str × V) → List (Str × D) → Prop := Paired fun p q => p.1 = q.1 ∧ RV K ρ H p.2 q.2
/-- what stands at a -/
def RO (cls : List Addr) (ρ : List Addr) (H : Hp) (a : Addr) : O → Prop
  | .lst ds => ∃ xs, H a = some (.lst xs) ∧ RVs K ρ H xs ds
  | .dic kvs => ∃ xs, H a = some (.dK xs) ∧ RKs K ρ H xs kvs
  | .ins c fs => ∃ C dx xs, cls[c]? = some C ∧ H a = some (.ins C dx xs) ∧ RFs K ρ H xs fs
/-- the store h, its numbers standing at ρ -/
structure RH (cls : List Addr) (ts : List Addr) (ρ : List Addr) (H : Hp) (h : AH) : Prop where
  len : ρ.length = h.length
  nd : ρ.Nodup
  obj : ∀ (n : Nat) (a : Addr) (o : O), ρ[n]? = some a → h[n]? = some o → RO K cls ρ H a o
  tab : ∀ P ∈ ts, P ∉ ρ ∧ ∃ ps : Array Value, H P = some (.tbl ps) ∧ TriplesOk ps.toList
/-- the slots stand for the names' values -/
def RE (ρ : List Addr) (H : Hp) (σ : L2.St) (ε : AEnv) : Prop := ε.length = σ.length ∧ ∀ (i : Nat) (d : D), ε[i]? = some (some d) → ∃ v, σ[i]? = some (some v) ∧ RV K ρ H v d
end
/-- the world goes on: numbers stay, new ones stand at new places, what no number stands at is as it was -/
structure Ext (ts : List Addr) (ρ ρ' : List Addr) (H H' : Hp) : Prop where
  pre : ρ <+: ρ'
  new : ∀ a ∈ ρ', a ∉ ρ → H a = none
  keep : ∀ a o, H a = some o → a ∉ ρ → a ∉ ts → H' a = some o
  tup : ∀ a xs, H a = some (.tup xs) → H' a = some (.tup xs)
  frz : ∀ a o u, H a = some (.frz o u) → H' a = some (.frz o u)
  there : ∀ a, H' a = none → H a = none
theorem Ext.refl {ts ρ : List Addr} {H : Hp} : Ext ts ρ ρ H H := ⟨List.prefix_refl _, fun _ h n => absurd h n, fun _ _ e _ _ => e, fun _ _ e => e, fun _ _ _ e => e, fun _ e => e⟩
theorem Ext.get {ts ρ ρ' : List Addr} {H H' : Hp} (e : Ext ts ρ ρ' H H') {n : Nat} {a : Addr} (h : ρ[n]? = some a) : ρ'[n]? = some a := by
  obtain ⟨r, rfl⟩ := e.pre
  rw [List.getElem?_append_left (List.getElem?_eq_some_iff.mp h).1]
  exact h
theorem Ext.sub {ts ρ ρ' : List Addr} {H H' : Hp} (e : Ext ts ρ ρ' H H') {a : Addr} (h : a ∈ ρ) : a ∈ ρ' := e.pre.subset h
theorem Ext.trans {ts ρ ρ1 ρ2 : List Addr} {H H1 H2 : Hp} (a : Ext ts ρ ρ1 H H1) (b : Ext ts ρ1 ρ2 H1 H2) : Ext ts ρ ρ2 H H2 where
  pre := a.pre.trans b.pre
  new := fun c h n => by
    by_cases h1 : c ∈ ρ1
    · exact a.new c h1 n
    · exact a.there c (b.new c h h1)
  keep := fun c o e n ht => by
    have z := a.keep c o e n ht
    refine b.keep c o z (fun h1 => ?_) ht
    rw [a.new c h1 n] at e
    cases e
  tup := fun c xs e => b.tup c xs (a.tup c xs e)
  frz := fun c o u e => b.frz c o u (a.frz c o u e)
  there := fun c e => a.there c (b.there c e)
theorem Ext.sqT {K : PySem.W.Frag} {ts ρ ρ' : List Addr} {H H' : Hp} (e : Ext ts ρ ρ' H H') {a : Addr} {xs : List V} (h : SqT K H a xs) : SqT K H' a xs := by
  rcases h with (z | ⟨o, z⟩) | z
  · exact .inl (.inl (e.tup _ _ z))
  · exact .inl (.inr ⟨o, e.frz _ _ _ z⟩)
  · exact .inr z
theorem Ext.sqR {K : PySem.W.Frag} {ts ρ ρ' : List Addr} {H H' : Hp} (e : Ext ts ρ ρ' H H') {a : Addr} {xs : List V} (h : SqR K H a xs) : SqR K H' a xs := by
  rcases h with ⟨o, h⟩ | h
  · exact .inl ⟨o, e.frz _ _ _ h⟩
  · exact .inr h
section
variable {K : PySem.W.Frag} {ts ρ ρ' : List Addr} {H H' : Hp}
mutual
theorem RV.mono (e : Ext ts ρ ρ' H H') : ∀ {v : V} {d : D}, RV K ρ H v d → RV K ρ' H' v d
  | _, _, .non => .non
  | _, _, .bl b => .bl b
  | _, _, .int i => .int i
  | _, _, .str x => .str x
  | _, _, .tup h r => .tup (e.sqT h) (RVs.mono e r)
  | _, _, .rol h r => .rol (e.sqR h) (RVs.mono e r)
  | _, _, .ref h => .ref (e.get h)
  | _, _, .ty n => .ty n
  | _, _, .own C => .own C
theorem RVs.mono (e : Ext ts ρ ρ' H H') : ∀ {xs : List V} {ds : List D}, RVs K ρ H xs ds → RVs K ρ' H' xs ds
  | _, _, .nil => .nil
  | _, _, .cons h r => .cons (RV.mono e h) (RVs.mono e r)
end
theorem RE.mono {σ : L2.St} {ε : AEnv} (e : Ext ts ρ ρ' H H') (h : RE K ρ H σ ε) : RE K ρ' H' σ ε :=
  ⟨h.1, fun i d q => let ⟨v, q1, r⟩ := h.2 i d q; ⟨v, q1, r.mono e⟩⟩
theorem RVs.length : ∀ {xs : List V} {ds : List D}, RVs K ρ H xs ds → xs.length = ds.length
  | _, _, .nil => rfl
  | _, _, .cons _ r => congrArg Nat.succ (RVs.length r)
theorem RVs.append : ∀ {xs ys : List V} {ds es : List D}, RVs K ρ H xs ds → RVs K ρ H ys es → RVs K ρ H (xs ++ ys) (ds ++ es)
  | _, _, _, _, .nil, s => s
  | _, _, _, _, .cons h r, s => .cons h (RVs.append r s)
theorem RVs.get : ∀ {xs : List V} {ds : List D} {i : Nat} {d : D}, RVs K ρ H xs ds → ds[i]? = some d → ∃ v, xs[i]? = some v ∧ RV K ρ H v d
  | _, _, _, _, .nil, e => absurd e (by simp)
  | _, _, 0, _, .cons h _, e => by simp at e; subst e; exact ⟨_, rfl, h⟩
  | _, _, i + 1, d, .cons _ r, e => by
    obtain ⟨v, h1, h2⟩ := RVs.get (i := i) (d := d) r (by simpa using e)
    exact ⟨v, by simpa using h1, h2⟩
theorem RVs.take : ∀ {xs : List V} {ds : List D} (n : Nat), RVs K ρ H xs ds → RVs K ρ H (xs.take n) (ds.take n)
  | _, _, 0, _ => .nil
  | _, _, _ + 1, .nil => .nil
  | _, _, n + 1, .cons h r => .cons h (RVs.take n r)
theorem RVs.drop : ∀ {xs : List V} {ds : List D} (n : Nat), RVs K ρ H xs ds → RVs K ρ H (xs.drop n) (ds.drop n)
  | _, _, 0, r => r
  | _, _, _ + 1, .nil => .nil
  | _, _, n + 1, .cons _ r => RVs.drop n r
theorem RVs.set {v : V} {d : D} (h : RV K ρ H v d) : ∀ {xs : List V} {ds : List D} (i : Nat), RVs K ρ H xs ds → RVs K ρ H (xs.set i v) (ds.set i d)
  | _, _, _, .nil => .nil
  | _, _, 0, .cons _ r => .cons h r
  | _, _, i + 1, .cons q r => .cons q (RVs.set h i r)
theorem RVs.reverse {xs : List V} {ds : List D} (h : RVs K ρ H xs ds) : RVs K ρ H xs.reverse ds.reverse := by
  induction xs generalizing ds with
  | nil => cases h; exact .nil
  | cons x xs ih =>
    cases h with
    | cons a b =>
      simp only [List.reverse_cons]
      exact (ih b).append (.cons a .nil)
theorem RVs.dropLast {xs : List V} {ds : List D} (h : RVs K ρ H xs ds) : RVs K ρ H xs.dropLast ds.dropLast := by
  rw [List.dropLast_eq_take, List.dropLast_eq_take, h.length]
  exact h.take _
theorem RVs.rep {xs : List V} {ds : List D} (h : RVs K ρ H xs ds) : ∀ k : Nat, RVs K ρ H (List.replicate k xs).flatten (List.replicate k ds).flatten
  | 0 => .nil
  | k + 1 => by
    simp only [List.replicate_succ, List.flatten_cons]
    exact h.append (RVs.rep h k)
theorem RKs.mono {xs : List (Key × V)} {ds : List (Key × D)} (e : Ext ts ρ ρ' H H') (h : RKs K ρ H xs ds) : RKs K ρ' H' xs ds := Paired.mapP h fun _ _ q => ⟨q.1, q.2.mono e⟩
theorem RFs.mono {xs : List (Str × V)} {ds : List (Str × D)} (e : Ext ts ρ ρ' H H') (h : RFs K ρ H xs ds) : RFs K ρ' H' xs ds := Paired.mapP h fun _ _ q => ⟨q.1, q.2.mono e⟩
end
end Mi

namespace Mi
open L2 PySem PySem.Spec PyProof.Rows

section
variable {K : PySem.W.Frag} {cls ts ρ ρ' : List Addr} {H H' : Hp} {h : AH}
theorem RO.mono {a : Addr} (e : Ext ts ρ ρ' H H') (k : ∀ o, H a = some o → H' a = some o) : ∀ {o : O}, RO K cls ρ H a o → RO K cls ρ' H' a o
  | .lst ds, ⟨xs, h1, r⟩ => ⟨xs, k _ h1, r.mono e⟩
  | .dic kvs, ⟨xs, h1, r⟩ => ⟨xs, k _ h1, r.mono e⟩
  | .ins c fs, ⟨C, dx, xs, h0, h1, r⟩ => ⟨C, dx, xs, h0, k _ h1, r.mono e⟩
theorem RO.there {a : Addr} {o : O} (r : RO K cls ρ H a o) : ∃ u, H a = some u ∧ Mut (some u) := by
  cases o with
  | lst ds =>
    obtain ⟨xs, h1, _⟩ := r
    exact ⟨_, h1, trivial⟩
  | dic kvs =>
    obtain ⟨xs, h1, _⟩ := r
    exact ⟨_, h1, trivial⟩
  | ins c fs =>
    obtain ⟨_, _, xs, _, h1, _⟩ := r
    exact ⟨_, h1, trivial⟩
theorem RH.at (r : RH K cls ts ρ H h) {n : Nat} {o : O} (e : h[n]? = some o) : ∃ a, ρ[n]? = some a ∧ RO K cls ρ H a o := by
  have hn := (List.getElem?_eq_some_iff.mp e).1
  have hn' : n < ρ.length := by rw [r.len]; exact hn
  exact ⟨ρ[n], List.getElem?_eq_getElem hn', r.obj n _ o (List.getElem?_eq_getElem hn') e⟩
theorem RH.ref (r : RH K cls ts ρ H h) {n : Nat} {o : O} {a : Addr} (q : ρ[n]? = some a) (e : h[n]? = some o) : RO K cls ρ H a o := r.obj n a o q e

/-- a new thing is laid that no number stands for -/
theorem ext_other {p : Addr} {u : HO} (hp : H p = none) : Ext ts ρ ρ H (upd H p u) :=
  ⟨List.prefix_refl _, fun _ h n => absurd h n, fun a o e _ _ => by rw [upd_ne (ne_of_none e hp)]; exact e, fun a o e => by rw [upd_ne (ne_of_none e hp)]; exact e,
    fun a o w e => by rw [upd_ne (ne_of_none e hp)]; exact e, fun a e => by
      by_cases z : a = p
      · rw [z]; exact hp
      · rw [upd_ne z] at e; exact e⟩
theorem RH.keepAll (r : RH K cls ts ρ H h) (e : Ext ts ρ ρ H H') (k : ∀ a o, H a = some o → H' a = some o) : RH K cls ts ρ H' h :=
  ⟨r.len, r.nd, fun n a o q1 q2 => (r.obj n a o q1 q2).mono e (k a), fun P hP => let ⟨a, ps, b, c⟩ := r.tab P hP; ⟨a, ps, k _ _ b, c⟩⟩
theorem RH.other (r : RH K cls ts ρ H h) {p : Addr} {u : HO} (hp : H p = none) : RH K cls ts ρ (upd H p u) h :=
  r.keepAll (ext_other hp) fun a o e => by rw [upd_ne (ne_of_none e hp)]; exact e
theorem RH.fresh_not (r : RH K cls ts ρ H h) {p : Addr} (hp : H p = none) : p ∉ ts := fun hm => by
  obtain ⟨_, ps, b, _⟩ := r.tab p hm
  rw [hp] at b
  cases b
/-- what a number stands for is there, and may change -/
theorem RH.mem (r : RH K cls ts ρ H h) {a : Addr} (hm : a ∈ ρ) : ∃ u, H a = some u ∧ Mut (some u) := by
  obtain ⟨n, hn, e⟩ := List.getElem_of_mem hm
  have hn' : n < h.length := by rw [← r.len]; exact hn
  exact (r.obj n a h[n] (by rw [← e]; exact List.getElem?_eq_getElem hn) (List.getElem?_eq_getElem hn')).there
theorem RH.not_in (r : RH K cls ts ρ H h) {p : Addr} (hp : H p = none) : p ∉ ρ := fun hm => by
  obtain ⟨u, e, _⟩ := r.mem hm
  rw [hp] at e
  cases e
/-- a new thing at a new number -/
theorem ext_new {p : Addr} {u : HO} (hp : H p = none) : Ext ts ρ (ρ ++ [p]) H (upd H p u) := by
  have e := ext_other (ts := ts) (ρ := ρ) (u := u) hp
  refine ⟨List.prefix_append _ _, fun a h n => ?_, e.keep, e.tup, e.frz, e.there⟩
  rcases List.mem_append.mp h with z | z
  · exact absurd z n
  · rw [List.mem_singleton.mp z]; exact hp
theorem RH.new (r : RH K cls ts ρ H h) {p : Addr} {u : HO} {o : O} (hp : H p = none) (ho : RO K cls (ρ ++ [p]) (upd H p u) p o) : RH K cls ts (ρ ++ [p]) (upd H p u) (h ++ [o]) := by
  have e := ext_new (ts := ts) (ρ := ρ) (u := u) hp
  refine ⟨by rw [List.length_append, List.length_append, r.len] <;> rfl, ?_, fun n a o' q1 q2 => ?_, fun P hP => ?_⟩
  · rw [List.nodup_append]
    refine ⟨r.nd, by simp, fun a ha b hb => ?_⟩
    rw [List.mem_singleton.mp hb]
    intro z
    subst z
    exact r.not_in hp ha
  · by_cases hn : n < h.length
    · rw [List.getElem?_append_left hn] at q2
      rw [List.getElem?_append_left (by rw [r.len]; exact hn)] at q1
      exact (r.obj n a o' q1 q2).mono e fun w z => by rw [upd_ne (ne_of_none z hp)]; exact z
    · have hl : n = h.length := by
        have := (List.getElem?_eq_some_iff.mp q2).1
        rw [List.length_append, List.length_singleton] at this
        omega
      subst hl
      rw [List.getElem?_append_right (Nat.le_refl _)] at q2
      rw [← r.len, List.getElem?_append_right (Nat.le_refl _)] at q1
      simp at q1 q2
      subst q1 q2
      exact ho
  · obtain ⟨a, ps, b, c⟩ := r.tab P hP
    refine ⟨fun hm => ?_, ps, ?_, c⟩
    · rcases List.mem_append.mp hm with z | z
      · exact a z
      · rw [List.mem_singleton.mp z, hp] at b; cases b
    · rw [upd_ne (ne_of_none b hp)]; exact b
theorem get_new {p : Addr} : (ρ ++ [p])[ρ.length]? = some p := by
  rw [List.getElem?_append_right (Nat.le_refl _)]
  simp
/-- what stands at a number is put otherwise -/
theorem ext_put {a : Addr} {u : HO} (ha : a ∈ ρ) (r : RH K cls ts ρ H h) : Ext ts ρ ρ H (upd H a u) := by
  obtain ⟨w, e, m⟩ := r.mem ha
  have nt : ∀ b v, H b = some v → ¬ Mut (some v) → b ≠ a := fun b v q nm z => by
    subst z
    rw [e] at q
    cases q
    exact nm m
  refine ⟨List.prefix_refl _, fun _ h n => absurd h n, fun b o q n _ => ?_, fun b xs q => ?_, fun b o w q => ?_, fun b q => ?_⟩
  · have nb : b ≠ a := fun z => n (by rw [z]; exact ha)
    rw [upd_ne nb]; exact q
  · rw [upd_ne (nt b _ q fun z => z)]; exact q
  · rw [upd_ne (nt b _ q fun z => z)]; exact q
  · by_cases z : b = a
    · rw [z, upd_same] at q; cases q
    · rw [upd_ne z] at q; exact q
theorem RH.put (r : RH K cls ts ρ H h) {n : Nat} {a : Addr} {u : HO} {o : O} (hn : ρ[n]? = some a) (ho : RO K cls ρ (upd H a u) a o) : RH K cls ts ρ (upd H a u) (h.set n o) := by
  have ha : a ∈ ρ := List.mem_of_getElem? hn
  have e := ext_put (u := u) ha r
  refine ⟨by rw [List.length_set]; exact r.len, r.nd, fun m b o' q1 q2 => ?_, fun P hP => ?_⟩
  · by_cases z : n = m
    · subst z
      rw [hn] at q1
      cases q1
      have hl := (List.getElem?_eq_some_iff.mp q2).1
      rw [List.length_set] at hl
      rw [List.getElem?_set_self hl] at q2
      cases q2
      exact ho
    · rw [List.getElem?_set_ne z] at q2
      refine (r.obj m b o' q1 q2).mono e fun w q => ?_
      rw [upd_ne ?_]
      · exact q
      · intro z'
        subst z'
        obtain ⟨l1, e1⟩ := List.getElem?_eq_some_iff.mp hn
        obtain ⟨l2, e2⟩ := List.getElem?_eq_some_iff.mp q1
        exact z ((List.getElem_inj r.nd).mp (e1.trans e2.symm))
  · obtain ⟨x, ps, b, c⟩ := r.tab P hP
    have nb : P ≠ a := fun z => x (by rw [z]; exact ha)
    exact ⟨x, ps, by rw [upd_ne nb]; exact b, c⟩
end

/-! ### what is told of an exception -/
def RX (K : PySem.W.Frag) (cls : List Addr) (ρ : List Addr) (H : Hp) (c : Value) (dd : Option Addr) (x : Exn) : Prop :=
  (match x.cl with
   | .own k => ∃ C, cls[k]? = some C ∧ c = .ref C
   | .ty n => c = .type n) ∧
  ((x.fs = [] ∧ dd = none) ∨ ∃ d fs, dd = some d ∧ H d = some (.xd fs) ∧ RFs K ρ H fs x.fs)

/-! ### readings by a function over the store -/
section
variable {α β γ δ : Type}
def Post (K : PySem.W.Frag) (cls ts : List Addr) (rel : List Addr → Hp → β → α → Prop) (W : Value → Option Addr → Hp → Prop) (ρ : List Addr) (H : Hp) (r : Res α) (Q : β → Hp → Prop) : Prop :=
  match r with
  | .ok d h' => ∀ ρ' H' v, Ext ts ρ ρ' H H' → RH K cls ts ρ' H' h' → rel ρ' H' v d → Q v H'
  | .exc x h' => ∀ ρ' H' c dd, Ext ts ρ ρ' H H' → RH K cls ts ρ' H' h' → RX K cls ρ' H' c dd x → W c dd H'
  | .stuck => False
theorem Post.ext {K : PySem.W.Frag} {cls ts ρ ρ1 : List Addr} {H H1 : Hp} {rel : List Addr → Hp → β → α → Prop} {W : Value → Option Addr → Hp → Prop} {r : Res α} {Q : β → Hp → Prop} (e : Ext ts ρ ρ1 H H1) (p : Post K cls ts rel W ρ H r Q) : Post K cls ts rel W ρ1 H1 r Q := by
  cases r with
  | ok d h' => exact fun ρ' H' v e' => p ρ' H' v (e.trans e')
  | exc x h' => exact fun ρ' H' c dd e' => p ρ' H' c dd (e.trans e')
  | stuck => exact p
def tG (K : PySem.W.Frag) (cls ts : List Addr) (rel : List Addr → Hp → β → α → Prop) (W : WX) (F : AEnv → AH → Res α) : L2.St → Hp → (β → Hp → Prop) → Prop :=
  fun σ H Q => ∃ ρ ε h, RH K cls ts ρ H h ∧ RE K ρ H σ ε ∧ Post K cls ts rel (fun c dd H' => W c dd σ H') ρ H (F ε h) Q
/-- THE STEP: the first part is gone, then what is behind it -/
theorem tG_bind {K : PySem.W.Frag} {cls ts ρ : List Addr} {H : Hp} {rel : List Addr → Hp → β → α → Prop} {rel2 : List Addr → Hp → δ → γ → Prop} {W : WX} {F : AEnv → AH → Res α} {G : α → AH → Res γ} {σ : L2.St} {ε : AEnv} {h : AH} {Q : δ → Hp → Prop} {Q' : β → Hp → Prop}
    (hH : RH K cls ts ρ H h) (hE : RE K ρ H σ ε) (hp : Post K cls ts rel2 (fun c dd H' => W c dd σ H') ρ H ((F ε h).bind G) Q)
    (k : ∀ ρ1 H1 v h1 a, F ε h = .ok a h1 → Ext ts ρ ρ1 H H1 → RH K cls ts ρ1 H1 h1 → rel ρ1 H1 v a → RE K ρ1 H1 σ ε → Post K cls ts rel2 (fun c dd H' => W c dd σ H') ρ1 H1 (G a h1) Q → Q' v H1) : tG K cls ts rel W F σ H Q' := by
  refine ⟨ρ, ε, h, hH, hE, ?_⟩
  cases q : F ε h with
  | ok a h1 =>
    rw [q] at hp
    exact fun ρ1 H1 v e r rv => k ρ1 H1 v h1 a q e r rv (hE.mono e) (hp.ext e)
  | exc x h1 =>
    rw [q] at hp
    exact hp
  | stuck =>
    rw [q] at hp
    exact hp
theorem tG_imp {K : PySem.W.Frag} {cls ts : List Addr} {rel : List Addr → Hp → β → α → Prop} {W : WX} {F : AEnv → AH → Res α} {σ : L2.St} {H : Hp} {Q Q' : β → Hp → Prop} (h : tG K cls ts rel W F σ H Q) (k : ∀ v H', Q v H' → Q' v H') : tG K cls ts rel W F σ H Q' := by
  obtain ⟨ρ, ε, h, hH, hE, hp⟩ := h
  refine ⟨ρ, ε, h, hH, hE, ?_⟩
  cases q : F ε h with
  | ok a h1 =>
    rw [q] at hp
    exact fun ρ1 H1 v e r rv => k _ _ (hp ρ1 H1 v e r rv)
  | exc x h1 =>
    rw [q] at hp
    exact hp
  | stuck =>
    rw [q] at hp
    exact hp
end
abbrev EF := AEnv → AH → Res D
abbrev TF := AEnv → AH → Res Bool
abbrev AF := AEnv → AH → Res (List D)
abbrev relD (K : PySem.W.Frag) : List Addr → Hp → V → D → Prop := fun ρ H v d => RV K ρ H v d
abbrev relB : List Addr → Hp → Bool → Bool → Prop := fun _ _ b a => b = a
abbrev relL (K : PySem.W.Frag) : List Addr → Hp → List V → List D → Prop := fun ρ H v d => RVs K ρ H v d
abbrev tE (K : PySem.W.Frag) (cls ts : List Addr) (W : WX) (F : EF) : TE := tG K cls ts (relD K) W F
abbrev tT (K : PySem.W.Frag) (cls ts : List Addr) (W : WX) (F : TF) : TT := tG K cls ts relB W F
abbrev tA (K : PySem.W.Frag) (cls ts : List Addr) (W : WX) (F : AF) : TA := tG K cls ts (relL K) W F
end Mi

namespace Mi
open L2 PySem PySem.Spec PyProof.Rows

/-! ### ends -/
section
variable {K : PySem.W.Frag} {cls ts ρ : List Addr} {H : Hp} {h h' : AH} {W : Value → Option Addr → Hp → Prop} {Q : VK} {v : V} {d : D} {xs : List V} {ds : List D}
theorem post_val (r : RH K cls ts ρ H h) (rv : RV K ρ H v d) (p : Post K cls ts (relD K) W ρ H (.ok d h) Q) : Q v H := p ρ H v .refl r rv
theorem post_newL (r : RH K cls ts ρ H h) (rv : RVs K ρ H xs ds) (p : Post K cls ts (relD K) W ρ H (.ok (.ref h.length) (h ++ [.lst ds])) Q) : ∀ a, H a = none → Q (.ref a) (upd H a (.lst xs)) := fun a ha => by
  have e := ext_new (ts := ts) (ρ := ρ) (u := .lst xs) ha
  exact p (ρ ++ [a]) _ _ e (r.new ha ⟨xs, upd_same, rv.mono e⟩) (.ref (by rw [← r.len]; exact get_new))
theorem post_newD {kvs : List (Key × D)} {xs : List (Key × V)} (r : RH K cls ts ρ H h) (rv : RKs K ρ H xs kvs) (p : Post K cls ts (relD K) W ρ H (.ok (.ref h.length) (h ++ [.dic kvs])) Q) : ∀ a, H a = none → Q (.ref a) (upd H a (.dK xs)) := fun a ha => by
  have e := ext_new (ts := ts) (ρ := ρ) (u := .dK xs) ha
  exact p (ρ ++ [a]) _ _ e (r.new ha ⟨xs, upd_same, rv.mono e⟩) (.ref (by rw [← r.len]; exact get_new))
theorem post_newT (r : RH K cls ts ρ H h) (rv : RVs K ρ H xs ds) (p : Post K cls ts (relD K) W ρ H (.ok (.tup ds) h) Q) : ∀ a, H a = none → Q (.ref a) (upd H a (.tup xs)) := fun a ha => by
  have e := ext_other (ts := ts) (ρ := ρ) (u := .tup xs) ha
  exact p ρ _ _ e (r.other ha) (.tup (SqT.of upd_same) (rv.mono e))
/-- a list at a number is put otherwise, something is told -/
theorem post_put {n : Nat} {a : Addr} {us : List V} (r : RH K cls ts ρ H h) (hn : ρ[n]? = some a) (rv : RVs K ρ H xs ds) (rd : RV K ρ H v d) (p : Post K cls ts (relD K) W ρ H (.ok d (h.set n (.lst ds))) Q) : Q v (upd H a (.lst xs)) := by
  have e := ext_put (u := .lst xs) (List.mem_of_getElem? hn) r
  exact p ρ _ _ e (r.put hn ⟨xs, upd_same, rv.mono e⟩) (rd.mono e)
/-- a list at a number -/
theorem RH.lst (r : RH K cls ts ρ H h) {n : Nat} {a : Addr} (q : ρ[n]? = some a) (e : h[n]? = some (.lst ds)) : ∃ xs, H a = some (.lst xs) ∧ RVs K ρ H xs ds := r.obj n a _ q e
theorem RH.dic (r : RH K cls ts ρ H h) {n : Nat} {a : Addr} {ds : List (Key × D)} (q : ρ[n]? = some a) (e : h[n]? = some (.dic ds)) : ∃ xs, H a = some (.dK xs) ∧ RKs K ρ H xs ds := r.obj n a _ q e
end

/-! ### operations on two values -/
abbrev Op2 := D → D → AH → Res D
def OpS (K : PySem.W.Frag) (cls ts : List Addr) (r : R2) (f : Op2) : Prop :=
  ∀ (W : Value → Option Addr → Hp → Prop) (ρ : List Addr) (H : Hp) (h : AH) (x y : V) (dx dy : D) (Q : VK), RH K cls ts ρ H h → RV K ρ H x dx → RV K ρ H y dy → Post K cls ts (relD K) W ρ H (f dx dy h) Q → r x y H Q
def cBin (f : Op2) (a b : EF) : EF := fun ε h => (a ε h).bind fun x h1 => (b ε h1).bind fun y h2 => f x y h2

def opAdd : Op2
  | .int i, .int j, h => .ok (.int (i + j)) h
  | .str a, .str b, h => if a.length + b.length ≤ sizeLine then .ok (.str (a ++ b)) h else .stuck
  | .tup xs, .tup ys, h => if xs.length + ys.length ≤ sizeLine then .ok (.tup (xs ++ ys)) h else .stuck
  | .ref a, .ref b, h => match h[a]?, h[b]? with
    | some (.lst xs), some (.lst ys) => if xs.length + ys.length ≤ sizeLine then .ok (.ref h.length) (h ++ [.lst (xs ++ ys)]) else .stuck
    | _, _ => .stuck
  | _, _, _ => .stuck
def rAddM (K : PySem.W.Frag) : R2 := fun x y H Q => rI0 (fun i j => .int (i + j)) x y H Q ∨ (∃ i j, x = .str i ∧ y = .str j ∧ i.length + j.length ≤ sizeLine ∧ Q (.str (i ++ j)) H) ∨ rCatA K x y H Q ∨ rCat x y H Q
theorem op_addM {X : Cx} : OpR X (binaryOp .Add) (rAddM X.K) := op_add.or (op_add_str.or (op_catA.or op_cat))
theorem opAdd_ok {K : PySem.W.Frag} {cls ts : List Addr} : OpS K cls ts (rAddM K) opAdd := by
  intro W ρ H h x y dx dy Q r rx ry p
  cases rx with
  | int i =>
    cases ry <;> first | exact p.elim | skip
    exact .inl ⟨_, _, rfl, rfl, post_val r (.int _) p⟩
  | str a =>
    cases ry <;> first | exact p.elim | skip
    rename_i b
    by_cases c : a.length + b.length ≤ sizeLine
    · simp only [opAdd, if_pos c] at p
      exact .inr (.inl ⟨_, _, rfl, rfl, c, post_val r (.str _) p⟩)
    · simp only [opAdd, if_neg c] at p
      exact p.elim
  | tup h1 r1 =>
    cases ry <;> first | exact p.elim | skip
    rename_i a xs ds b ys es h2 r2
    by_cases c : ds.length + es.length ≤ sizeLine
    · simp only [opAdd, if_pos c] at p
      refine .inr (.inr (.inl ⟨_, _, _, _, rfl, rfl, h1, h2, by rw [r1.length, r2.length]; exact c, fun z => ?_, fun _ z => ?_, fun _ _ => post_newT r (r1.append r2) p⟩))
      · subst z
        cases r1
        exact post_val r (.tup h2 r2) p
      · subst z
        cases r2
        rw [List.append_nil] at p
        exact post_val r (.tup h1 r1) p
    · simp only [opAdd, if_neg c] at p
      exact p.elim
  | ref q1 =>
    cases ry <;> first | exact p.elim | skip
    rename_i a n b m q2
    simp only [opAdd] at p
    split at p <;> first | exact p.elim | skip
    rename_i xs ys e1 e2
    split at p <;> first | exact p.elim | skip
    rename_i c
    obtain ⟨us, k1, r1⟩ := r.lst q1 e1
    obtain ⟨ws, k2, r2⟩ := r.lst q2 e2
    exact .inr (.inr (.inr ⟨_, _, _, _, rfl, rfl, k1, k2, by rw [r1.length, r2.length]; exact c, post_newL r (r1.append r2) p⟩))
  | _ => exact p.elim

/-- ints alone -/
def opII (C : Int → Int → Bool) (g : Int → Int → Int) : Op2
  | .int i, .int j, h => if C i j then .ok (.int (g i j)) h else .stuck
  | _, _, _ => .stuck
theorem opII_ok {K : PySem.W.Frag} {cls ts : List Addr} {C : Int → Int → Prop} {c : Int → Int → Bool} {g : Int → Int → Int} (hc : ∀ i j, c i j = true → C i j) : OpS K cls ts (rI C fun i j => .int (g i j)) (opII c g) := by
  intro W ρ H h x y dx dy Q r rx ry p
  cases rx <;> first | exact p.elim | skip
  cases ry <;> first | exact p.elim | skip
  rename_i i j
  simp only [opII] at p
  split at p <;> first | exact p.elim | skip
  rename_i q
  exact ⟨_, _, rfl, rfl, hc _ _ q, post_val r (.int _) p⟩
def opSub : Op2 := opII (fun _ _ => true) (· - ·)
theorem op_subM {X : Cx} : OpR X (binaryOp .Sub) (rI (fun _ _ => True) fun i j => .int (i - j)) := opI fun _ _ _ _ _ _ _ _ q => sub_int q
theorem opSub_ok {K : PySem.W.Frag} {cls ts : List Addr} : OpS K cls ts (rI (fun _ _ => True) fun i j => .int (i - j)) opSub := opII_ok fun _ _ _ => trivial
def opFdiv : Op2 := opII (fun _ j => j != 0 && decide (j.natAbs < 1073741824)) Int.fdiv
theorem opFdiv_ok {K : PySem.W.Frag} {cls ts : List Addr} : OpS K cls ts (rI CDivN fun i j => .int (i.fdiv j)) opFdiv := opII_ok fun i j h => by
  simp only [Bool.and_eq_true, bne_iff_ne, decide_eq_true_eq] at h
  exact h
def opMod : Op2 := opII (fun _ j => j != 0) Int.fmod
theorem opMod_ok {K : PySem.W.Frag} {cls ts : List Addr} : OpS K cls ts (rI (fun _ j => j ≠ 0) fun i j => .int (i.fmod j)) opMod := opII_ok fun i j h => by
  simp only [bne_iff_ne] at h
  exact h
def opPow : Op2 := opII (fun i j => decide (0 ≤ j) && decide (j ≤ 1000000) && decide (i.natAbs < 2 ^ 64)) fun i j => i ^ j.toNat
theorem opPow_ok {K : PySem.W.Frag} {cls ts : List Addr} : OpS K cls ts (rI CPow fun i j => .int (i ^ j.toNat)) opPow := opII_ok fun i j hq => by
  simp only [Bool.and_eq_true, decide_eq_true_eq] at hq
  exact ⟨hq.1.1, hq.1.2, hq.2⟩
def small64 (i : Int) : Bool := decide (-(2 ^ 64) < i) && decide (i < 2 ^ 64)
/-- how a text is said again and again -/
def strRep (a : Str) (k : Nat) : Str := ⟨(List.replicate k a.cps.toList).flatten.toArray⟩
theorem foldl_cat (a : Array Nat) : ∀ (k : Nat) (b : Array Nat), ((List.replicate k a).foldl (· ++ ·) b).toList = b.toList ++ (List.replicate k a.toList).flatten
  | 0, b => by simp
  | k + 1, b => by
    rw [show List.replicate (k + 1) a = a :: List.replicate k a from rfl, List.foldl_cons, foldl_cat a k (b ++ a)]
    simp [List.replicate_succ]
theorem strRep_eq (a : Str) (k : Nat) : (⟨(List.replicate k a.cps).foldl (· ++ ·) #[]⟩ : Str) = strRep a k := by
  unfold strRep
  congr 1
  apply Array.toList_inj.mp
  rw [foldl_cat]
  simp
theorem strRep_length (a : Str) (k : Nat) : (strRep a k).length = k * a.length := by
  unfold strRep Str.length
  simp [List.length_flatten]
def rRepS : R2 := fun x y H Q => ∃ (a : Str) (k : Int), x = .str a ∧ y = .int k ∧ 2 ≤ k ∧ k ≤ 10000 ∧ 1 ≤ a.length ∧ a.length ≤ 1000 ∧ Q (.str (strRep a k.toNat)) H
theorem op_repS {X : Cx} : OpR X (binaryOp .Mult) rRepS := by
  rintro pins s σ H x y v u Q I rx ry ⟨a, k, rfl, rfl, h1, h2, h3, h4, q⟩
  obtain ⟨t, rfl⟩ := rx
  obtain ⟨t', rfl⟩ := ry
  have n1 : ¬ k < 1 := by omega
  have nk : (k == 1 || a.length == 0) = false := by
    rw [Bool.or_eq_false_iff]
    exact ⟨beq_eq_false_iff_ne.mpr (by omega), beq_eq_false_iff_ne.mpr (by omega)⟩
  have lm : a.length * k.toNat ≤ 10000000 := Nat.le_trans (Nat.mul_le_mul h4 (show k.toNat ≤ 10000 by omega)) (by omega)
  refine PySem.P.mul_str ?_ (fun _ _ z => ?_) (fun _ _ => ?_) ?_
  · rw [Bool.or_eq_false_iff]
    exact ⟨decide_eq_false (by omega), decide_eq_false (by omega)⟩
  · have : (1000 : Int) ≤ (2 ^ 63 - 1) / k := by
      rw [Int.le_ediv_iff_mul_le (by omega)]
      omega
    omega
  · exact decide_eq_false (by rw [sizeLine_eq]; omega)
  · rw [if_neg n1, nk, if_neg Bool.false_ne_true, strRep_eq]
    refine ⟨?_, .str (strRep a k.toNat), H, I.tok _, ⟨_, rfl⟩, q⟩
    rw [strRep_length, Nat.mul_comm, sizeLine_eq]
    omega
def opMul : Op2
  | .int i, .int j, h => if small64 i || small64 j then .ok (.int (i * j)) h else .stuck
  | .str a, .int k, h => if decide (2 ≤ k) && decide (k ≤ 10000) && decide (1 ≤ a.length) && decide (a.length ≤ 1000) then .ok (.str (strRep a k.toNat)) h else .stuck
  | .tup xs, .int k, h => if !xs.isEmpty && decide (2 ≤ k) && decide (k ≤ 1000) && decide (xs.length ≤ 1000) then .ok (.tup (List.replicate k.toNat xs).flatten) h else .stuck
  | .ref a, .int k, h => match h[a]? with
    | some (.lst xs) => if decide (-(2 ^ 63) ≤ k) && decide (k < 2 ^ 63) && decide (xs.length * k.toNat ≤ sizeLine) then .ok (.ref h.length) (h ++ [.lst (List.replicate k.toNat xs).flatten]) else .stuck
    | _ => .stuck
  | _, _, _ => .stuck
def rMulM (K : PySem.W.Frag) : R2 := fun x y H Q => rI CMul (fun i j => .int (i * j)) x y H Q ∨ rRepT K x y H Q ∨ rRep x y H Q ∨ rRepS x y H Q
theorem op_mulM {X : Cx} : OpR X (binaryOp .Mult) (rMulM X.K) := op_mul.or (op_repT.or (op_rep.or op_repS))
theorem opMul_ok {K : PySem.W.Frag} {cls ts : List Addr} : OpS K cls ts (rMulM K) opMul := by
  intro W ρ H h x y dx dy Q r rx ry p
  cases rx with
  | int i =>
    cases ry <;> first | exact p.elim | skip
    rename_i j
    simp only [opMul] at p
    split at p <;> first | exact p.elim | skip
    rename_i c
    refine .inl ⟨_, _, rfl, rfl, ?_, post_val r (.int _) p⟩
    simp only [small64, Bool.or_eq_true, Bool.and_eq_true, decide_eq_true_eq] at c
    exact c
  | str a =>
    cases ry <;> first | exact p.elim | skip
    rename_i k
    simp only [opMul] at p
    split at p <;> first | exact p.elim | skip
    rename_i c
    simp only [Bool.and_eq_true, decide_eq_true_eq] at c
    exact .inr (.inr (.inr ⟨_, _, rfl, rfl, c.1.1.1, c.1.1.2, c.1.2, c.2, post_val r (.str _) p⟩))
  | tup h1 r1 =>
    cases ry <;> first | exact p.elim | skip
    rename_i a xs ds k
    simp only [opMul] at p
    split at p <;> first | exact p.elim | skip
    rename_i c
    simp only [Bool.and_eq_true, decide_eq_true_eq] at c
    refine .inr (.inl ⟨_, _, _, rfl, rfl, h1, ?_, c.1.1.2, c.1.2, by rw [r1.length]; exact c.2, post_newT r (r1.rep _) p⟩)
    intro z
    subst z
    cases r1
    simp at c
  | ref q1 =>
    cases ry <;> first | exact p.elim | skip
    rename_i a n k
    simp only [opMul] at p
    split at p <;> first | exact p.elim | skip
    rename_i xs e1
    split at p <;> first | exact p.elim | skip
    rename_i c
    simp only [Bool.and_eq_true, decide_eq_true_eq] at c
    obtain ⟨us, k1, r1⟩ := r.lst q1 e1
    exact .inr (.inr (.inl ⟨_, _, _, rfl, rfl, k1, c.1.1, c.1.2, by rw [r1.length]; exact c.2, post_newL r (r1.rep _) p⟩))
  | _ => exact p.elim
end Mi

namespace Mi
open L2 PySem PySem.Spec PyProof.Rows

/-! ### the forms of expressions -/
def cC (d : D) : EF := fun _ h => .ok d h
def cVar (i : Nat) : EF := fun ε h => match ε[i]? with
  | some (some d) => .ok d h
  | _ => .stuck
def aNil : AF := fun _ h => .ok [] h
def aCons (a : EF) (r : AF) : AF := fun ε h => (a ε h).bind fun d h1 => (r ε h1).bind fun ds h2 => .ok (d :: ds) h2
def cTup (A : AF) : EF := fun ε h => (A ε h).bind fun ds h1 => if ds.length ≤ sizeLine then .ok (.tup ds) h1 else .stuck
def cLst (A : AF) : EF := fun ε h => (A ε h).bind fun ds h1 => if ds.length ≤ sizeLine then .ok (.ref h1.length) (h1 ++ [.lst ds]) else .stuck
def truD (d : D) (h : AH) : Option Bool :=
  match d with
  | .non => some false
  | .bl b => some b
  | .int i => some (i != 0)
  | .str x => if x.length ≤ sizeLine then some (x.length != 0) else none
  | .tup xs => some (!xs.isEmpty)
  | .rol xs => some (!xs.isEmpty)
  | .ref n => match h[n]? with
    | some (.lst xs) => some (!xs.isEmpty)
    | some (.dic kvs) => some (!kvs.isEmpty)
    | _ => none
  | _ => none
def tTru (F : EF) : TF := fun ε h => (F ε h).bind fun d h1 => match truD d h1 with
  | some b => .ok b h1
  | none => .stuck
def asBl (d : D) (h : AH) : Res Bool :=
  match d with
  | .bl b => .ok b h
  | _ => .stuck
def tVal (F : EF) : TF := fun ε h => (F ε h).bind asBl
def tAnd' (a b : TF) : TF := fun ε h => (a ε h).bind fun c h1 => if c = true then b ε h1 else .ok false h1
def tOr' (a b : TF) : TF := fun ε h => (a ε h).bind fun c h1 => if c = true then .ok true h1 else b ε h1
def tNot' (a : TF) : TF := fun ε h => (a ε h).bind fun c h1 => .ok (!c) h1
def cIf (t : TF) (a b : EF) : EF := fun ε h => (t ε h).bind fun c h1 => if c = true then a ε h1 else b ε h1
/-- and, or as values -/
def cAnd (a b : EF) : EF := fun ε h => (a ε h).bind fun d h1 => match truD d h1 with
  | some true => b ε h1
  | some false => .ok d h1
  | none => .stuck
def cOr (a b : EF) : EF := fun ε h => (a ε h).bind fun d h1 => match truD d h1 with
  | some true => .ok d h1
  | some false => b ε h1
  | none => .stuck
def cNot (a : EF) : EF := fun ε h => (a ε h).bind fun d h1 => match truD d h1 with
  | some b => .ok (.bl (!b)) h1
  | none => .stuck
/-- a op b op' c, b gone once -/
def cChain (f g : Op2) (a b c : EF) : EF := fun ε h => (a ε h).bind fun x h1 => (b ε h1).bind fun y h2 => (f x y h2).bind fun z h3 => match z with
  | .bl true => (c ε h3).bind fun w h4 => g y w h4
  | .bl false => .ok (.bl false) h3
  | _ => .stuck

section
variable {X : Cx} {W : WX} {cls ts : List Addr} {a b c e : Expr} {Fa Fb Fc F : EF} {Ta Tb : TF} {A : AF} {es : List Expr} {pos : Pos}
abbrev E' (X : Cx) (cls ts : List Addr) (W : WX) (e : Expr) (F : EF) : Prop := PE X e (tE X.K cls ts W F)
abbrev T' (X : Cx) (cls ts : List Addr) (W : WX) (e : Expr) (F : TF) : Prop := PT X e (tT X.K cls ts W F)
abbrev A' (X : Cx) (cls ts : List Addr) (W : WX) (es : List Expr) (F : AF) : Prop := PA X es (tA X.K cls ts W F)
theorem e_c {d : D} {v : V} (hv : ∀ K ρ H, RV K ρ H v d) (h : PE X e (L2.tC v)) : E' X cls ts W e (cC d) :=
  ⟨fun pins s σ H Q I ⟨ρ, ε, hh, hH, hE, p⟩ => h.run pins s σ H Q I (post_val hH (hv _ _ _) p)⟩
theorem e_int {i j pos} : E' X cls ts W (.Constant (.int i) j pos) (cC (.int i)) := e_c (fun _ _ _ => .int i) pe_int
theorem e_str {i j pos} : E' X cls ts W (.Constant (.str i) j pos) (cC (.str i)) := e_c (fun _ _ _ => .str i) pe_str
theorem e_bl {i j pos} : E' X cls ts W (.Constant (.bool i) j pos) (cC (.bl i)) := e_c (fun _ _ _ => .bl i) pe_bl
theorem e_non {j pos} : E' X cls ts W (.Constant .none j pos) (cC .non) := e_c (fun _ _ _ => .non) pe_non
theorem e_glob {x : Str} {d : D} {v : V} {u : Value} (hg : Gl X x) (hm : X.mg x = some u) (r : RelV v u) (hv : ∀ K ρ H, RV K ρ H v d) (hd : (x == ("__debug__" : Str)) = false := by decide) : E' X cls ts W (.Name x pos) (cC d) := e_c hv (pe_glob hg hm r hd)
theorem e_var (i : Nat) {x : Str} (hN : X.N[i]? = some x := by rfl) (hv : Vis X.env.scope x := by first | exact Or.inl rfl | exact Or.inr (Or.inl rfl) | exact Or.inr (Or.inr rfl)) (hd : (x == ("__debug__" : Str)) = false := by decide)
    (hcd : (x == ("__classdict__" : Str)) = false := by decide) : E' X cls ts W (.Name x pos) (cVar i) := by
  refine ⟨fun pins s σ H Q I ⟨ρ, ε, hh, hH, hE, p⟩ => (pe_var hN hv hd hcd).run pins s σ H Q I ?_⟩
  unfold cVar at p
  split at p
  · rename_i d q
    obtain ⟨v, e, r⟩ := hE.2 i d q
    exact ⟨v, e, post_val hH r p⟩
  · exact p.elim
theorem e_bin {op : Operator} {r : R2} {f : Op2} (ho : OpR X (binaryOp op) r) (os : OpS X.K cls ts r f) (ha : E' X cls ts W a Fa) (hb : E' X cls ts W b Fb) : E' X cls ts W (.BinOp a op b pos) (cBin f Fa Fb) :=
  ⟨fun pins s σ H Q I ⟨ρ, ε, h, hH, hE, p⟩ => (pe_op ho ha hb).run pins s σ H Q I (tG_bind hH hE p fun ρ1 H1 x h1 dx _ e1 hH1 rx hE1 p1 =>
    tG_bind hH1 hE1 p1 fun ρ2 H2 y h2 dy _ e2 hH2 ry hE2 p2 => os _ _ _ _ _ _ _ _ _ hH2 (rx.mono e2) ry p2)⟩
theorem e_cmp {op : CmpOp} {r : R2} {f : Op2} (ho : OpR X (compareOp op) r) (os : OpS X.K cls ts r f) (ha : E' X cls ts W a Fa) (hb : E' X cls ts W b Fb) (hm : behindInMarks op b = false) : E' X cls ts W (.Compare a [op] [b] pos) (cBin f Fa Fb) :=
  ⟨fun pins s σ H Q I ⟨ρ, ε, h, hH, hE, p⟩ => (pe_cmpR ho ha hb hm).run pins s σ H Q I (tG_bind hH hE p fun ρ1 H1 x h1 dx _ e1 hH1 rx hE1 p1 =>
    tG_bind hH1 hE1 p1 fun ρ2 H2 y h2 dy _ e2 hH2 ry hE2 p2 => os _ _ _ _ _ _ _ _ _ hH2 (rx.mono e2) ry p2)⟩
theorem bl_of {K : PySem.W.Frag} {cls ts ρ : List Addr} {H : Hp} {h : AH} {W : Value → Option Addr → Hp → Prop} {d : D} {v : V} {Q : Bool → Hp → Prop} (r : RH K cls ts ρ H h) (rv : RV K ρ H v d)
    (p : Post K cls ts relB W ρ H (asBl d h) Q) : ∃ k, v = .bl k ∧ Q k H := by
  cases rv <;> first | exact p.elim | skip
  exact ⟨_, rfl, p _ _ _ .refl r rfl⟩
theorem t_cmp {op : CmpOp} {r : R2} {f : Op2} (ho : OpR X (compareOp op) r) (os : OpS X.K cls ts r f) (ha : E' X cls ts W a Fa) (hb : E' X cls ts W b Fb) (hm : behindInMarks op b = false) : T' X cls ts W (.Compare a [op] [b] pos) (tVal (cBin f Fa Fb)) := by
  refine ⟨fun pins s σ H Q I ⟨ρ, ε, h, hH, hE, p⟩ => (pt_cmpR ho ha hb hm).run pins s σ H Q I ?_⟩
  unfold tVal at p
  have q : tE X.K cls ts W (cBin f Fa Fb) σ H (fun x H' => ∃ k, x = .bl k ∧ Q k H') := tG_bind hH hE p fun ρ1 H1 x h1 dx _ e1 hH1 rx hE1 p1 => bl_of hH1 rx p1
  obtain ⟨ρ', ε', h', hH', hE', p'⟩ := q
  exact tG_bind hH' hE' p' fun ρ1 H1 x h1 dx _ e1 hH1 rx hE1 p1 =>
    tG_bind hH1 hE1 p1 fun ρ2 H2 y h2 dy _ e2 hH2 ry hE2 p2 => os _ _ _ _ _ _ _ _ _ hH2 (rx.mono e2) ry p2
theorem t_val (ha : E' X cls ts W e F) (he : ∀ whole, isTrue e X.env whole = (do let v ← whole; standAt e.pos; holding [v] (truthy v)) := by intro _; rfl) : T' X cls ts W e (tVal F) :=
  ⟨fun pins s σ H Q I ⟨ρ, ε, h, hH, hE, p⟩ => (pt_val ha he).run pins s σ H Q I (tG_bind hH hE p fun ρ1 H1 x h1 dx _ e1 hH1 rx hE1 p1 => bl_of hH1 rx p1)⟩
theorem truD_ok {K : PySem.W.Frag} {ρ : List Addr} {H : Hp} {h : AH} {d : D} {v : V} {b : Bool} (r : RH K cls ts ρ H h) (rv : RV K ρ H v d) (q : truD d h = some b) : TruV K v H b := by
  have emp : ∀ {xs : List V} {ds : List D}, RVs K ρ H xs ds → (!ds.isEmpty) = !xs.isEmpty := fun r => by cases r <;> rfl
  cases rv with
  | non => cases q; rfl
  | bl b => cases q; rfl
  | int i => cases q; rfl
  | str x =>
    simp only [truD] at q
    split at q <;> cases q
    rename_i c
    refine ⟨c, ?_⟩
    rw [Bool.eq_iff_iff, bne_iff_ne, bne_iff_ne]
    omega
  | tup h1 r1 =>
    cases q
    exact .inr (.inl ⟨_, h1, emp r1⟩)
  | rol h1 r1 =>
    cases q
    exact .inl ⟨_, h1.sq, emp r1⟩
  | ref q1 =>
    simp only [truD] at q
    split at q <;> cases q
    · rename_i xs e
      obtain ⟨us, k1, r1⟩ := r.lst q1 e
      exact .inl ⟨_, SqL.of k1, emp r1⟩
    · rename_i xs e
      obtain ⟨us, k1, r1⟩ := r.dic q1 e
      refine .inr (.inr ⟨_, k1, ?_⟩)
      cases r1 <;> rfl
  | _ => cases q
theorem t_tru (ha : E' X cls ts W e F) (he : ∀ whole, isTrue e X.env whole = (do let v ← whole; standAt e.pos; holding [v] (truthy v)) := by intro _; rfl) : T' X cls ts W e (tTru F) := by
  refine ⟨fun pins s σ H Q I ⟨ρ, ε, h, hH, hE, p⟩ => (pt_truth ha he).run pins s σ H Q I (tG_bind hH hE p fun ρ1 H1 x h1 dx _ e1 hH1 rx hE1 p1 => ?_)⟩
  split at p1
  · rename_i b q
    exact ⟨b, truD_ok hH1 rx q, p1 _ _ _ .refl hH1 rfl⟩
  · exact p1.elim
theorem t_not (ha : T' X cls ts W a Ta) : T' X cls ts W (.UnaryOp .Not a pos) (tNot' Ta) :=
  ⟨fun pins s σ H Q I ⟨ρ, ε, h, hH, hE, p⟩ => (pt_not ha).run pins s σ H Q I (tG_bind hH hE p fun ρ1 H1 x h1 dx _ e1 hH1 rx hE1 p1 => p1 _ _ _ .refl hH1 (by rw [rx]))⟩
abbrev W' (X : Cx) (cls ts : List Addr) (W : WX) (e : Expr) (F : TF) : Prop := PW X e (tT X.K cls ts W F)
theorem w_and1 (ha : T' X cls ts W a Ta) : W' X cls ts W (.BoolOp .And [a] pos) Ta := pw_and1 ha
theorem w_or1 (ha : T' X cls ts W a Ta) : W' X cls ts W (.BoolOp .Or [a] pos) Ta := pw_or1 ha
theorem w_and {rest : List Expr} (ha : T' X cls ts W a Ta) (hb : W' X cls ts W (.BoolOp .And (b :: rest) pos) Tb) : W' X cls ts W (.BoolOp .And (a :: b :: rest) pos) (tAnd' Ta Tb) := by
  refine ⟨fun wh pins s σ H Q I ⟨ρ, ε, h, hH, hE, p⟩ => (pw_and ha hb).run wh pins s σ H Q I (tG_bind hH hE p fun ρ1 H1 x h1 dx _ e1 hH1 rx hE1 p1 => ?_)⟩
  cases rx
  cases x with
  | true => exact ⟨_, _, _, hH1, hE1, p1⟩
  | false => exact p1 _ _ _ .refl hH1 rfl
theorem w_or {rest : List Expr} (ha : T' X cls ts W a Ta) (hb : W' X cls ts W (.BoolOp .Or (b :: rest) pos) Tb) : W' X cls ts W (.BoolOp .Or (a :: b :: rest) pos) (tOr' Ta Tb) := by
  refine ⟨fun wh pins s σ H Q I ⟨ρ, ε, h, hH, hE, p⟩ => (pw_or ha hb).run wh pins s σ H Q I (tG_bind hH hE p fun ρ1 H1 x h1 dx _ e1 hH1 rx hE1 p1 => ?_)⟩
  cases rx
  cases x with
  | false => exact ⟨_, _, _, hH1, hE1, p1⟩
  | true => exact p1 _ _ _ .refl hH1 rfl
theorem t_pw (h : W' X cls ts W e Ta) : T' X cls ts W e Ta := h.pt
theorem e_ifExp (hc : T' X cls ts W c Ta) (ha : E' X cls ts W a Fa) (hb : E' X cls ts W b Fb) : E' X cls ts W (.IfExp c a b pos) (cIf Ta Fa Fb) := by
  refine ⟨fun pins s σ H Q I ⟨ρ, ε, h, hH, hE, p⟩ => (pe_ifExp hc ha hb).run pins s σ H Q I (tG_bind hH hE p fun ρ1 H1 x h1 dx _ e1 hH1 rx hE1 p1 => ?_)⟩
  cases rx
  cases x with
  | true => exact ⟨_, _, _, hH1, hE1, p1⟩
  | false => exact ⟨_, _, _, hH1, hE1, p1⟩
theorem e_one {op : BoolOp} (ha : E' X cls ts W a Fa) : E' X cls ts W (.BoolOp op [a] pos) Fa := pe_one ha
theorem e_and {rest : List Expr} (ha : E' X cls ts W a Fa) (hb : E' X cls ts W (.BoolOp .And (b :: rest) pos) Fb) : E' X cls ts W (.BoolOp .And (a :: b :: rest) pos) (cAnd Fa Fb) := by
  refine ⟨fun pins s σ H Q I ⟨ρ, ε, h, hH, hE, p⟩ => (pe_andT ha hb).run pins s σ H Q I (tG_bind hH hE p fun ρ1 H1 x h1 dx _ e1 hH1 rx hE1 p1 => ?_)⟩
  split at p1
  · rename_i q
    exact ⟨true, truD_ok hH1 rx q, iteT ⟨_, _, _, hH1, hE1, p1⟩⟩
  · rename_i q
    exact ⟨false, truD_ok hH1 rx q, iteF (post_val hH1 rx p1)⟩
  · exact p1.elim
theorem e_or {rest : List Expr} (ha : E' X cls ts W a Fa) (hb : E' X cls ts W (.BoolOp .Or (b :: rest) pos) Fb) : E' X cls ts W (.BoolOp .Or (a :: b :: rest) pos) (cOr Fa Fb) := by
  refine ⟨fun pins s σ H Q I ⟨ρ, ε, h, hH, hE, p⟩ => (pe_orT ha hb).run pins s σ H Q I (tG_bind hH hE p fun ρ1 H1 x h1 dx _ e1 hH1 rx hE1 p1 => ?_)⟩
  split at p1
  · rename_i q
    exact ⟨true, truD_ok hH1 rx q, iteT (post_val hH1 rx p1)⟩
  · rename_i q
    exact ⟨false, truD_ok hH1 rx q, iteF ⟨_, _, _, hH1, hE1, p1⟩⟩
  · exact p1.elim
theorem e_not (ha : E' X cls ts W a Fa) : E' X cls ts W (.UnaryOp .Not a pos) (cNot Fa) := by
  refine ⟨fun pins s σ H Q I ⟨ρ, ε, h, hH, hE, p⟩ => (pe_notT ha).run pins s σ H Q I (tG_bind hH hE p fun ρ1 H1 x h1 dx _ e1 hH1 rx hE1 p1 => ?_)⟩
  split at p1
  · rename_i b q
    exact ⟨b, truD_ok hH1 rx q, post_val hH1 (.bl _) p1⟩
  · exact p1.elim
theorem chain_ok {r r' : R2} {f g : Op2} (os : OpS X.K cls ts r f) (os' : OpS X.K cls ts r' g) {σ : L2.St} {H : Hp} {Q : VK} (p : tE X.K cls ts W (cChain f g Fa Fb Fc) σ H Q) :
    tChain r r' (tE X.K cls ts W Fa) (tE X.K cls ts W Fb) (tE X.K cls ts W Fc) σ H Q := by
  obtain ⟨ρ, ε, h, hH, hE, p⟩ := p
  refine tG_bind hH hE p fun ρ1 H1 x h1 dx _ e1 hH1 rx hE1 p1 => tG_bind hH1 hE1 p1 fun ρ2 H2 y h2 dy _ e2 hH2 ry hE2 p2 => ?_
  have p2' : Post X.K cls ts (relD X.K) (fun c dd H' => W c dd σ H') ρ2 H2 ((f dx dy h2).bind fun z h3 => match z with
    | .bl true => (Fc ε h3).bind fun w h4 => g dy w h4
    | .bl false => .ok (.bl false) h3
    | _ => .stuck) Q := p2
  refine os (fun c dd H' => W c dd σ H') ρ2 H2 h2 x y dx dy _ hH2 (rx.mono e2) ry ?_
  cases q : f dx dy h2 with
  | stuck => rw [q] at p2'; exact p2'
  | exc x' h' => rw [q] at p2'; exact p2'
  | ok z h3 =>
    rw [q] at p2'
    intro ρ3 H3 v e3 hH3 rz
    have p3 := p2'.ext e3
    simp only [Res.bind_ok] at p3
    cases rz <;> first | exact p3.elim | skip
    rename_i k
    cases k with
    | true =>
      exact ⟨true, rfl, iteT (tG_bind hH3 (hE2.mono e3) p3 fun ρ4 H4 w h4 dw _ e4 hH4 rw' hE4 p4 => os' _ _ _ _ _ _ _ _ _ hH4 (ry.mono (e3.trans e4)) rw' p4)⟩
    | false => exact ⟨false, rfl, iteF (post_val hH3 (.bl _) p3)⟩
theorem e_chain {op op' : CmpOp} {r r' : R2} {f g : Op2} (ho : OpR X (compareOp op) r) (os : OpS X.K cls ts r f) (ho' : OpR X (compareOp op') r') (os' : OpS X.K cls ts r' g) (ha : E' X cls ts W a Fa) (hb : E' X cls ts W b Fb) (hc : E' X cls ts W c Fc)
    (hm : lastMarks [op, op'] [b, c] = false := by with_unfolding_all rfl) : E' X cls ts W (.Compare a [op, op'] [b, c] pos) (cChain f g Fa Fb Fc) :=
  ⟨fun pins s σ H Q I p => (pe_chain ho ho' ha hb hc hm).run pins s σ H Q I (chain_ok os os' p)⟩
theorem t_chain {op op' : CmpOp} {r r' : R2} {f g : Op2} (ho : OpR X (compareOp op) r) (os : OpS X.K cls ts r f) (ho' : OpR X (compareOp op') r') (os' : OpS X.K cls ts r' g) (ha : E' X cls ts W a Fa) (hb : E' X cls ts W b Fb) (hc : E' X cls ts W c Fc)
    (hm : lastMarks [op, op'] [b, c] = false := by with_unfolding_all rfl) : T' X cls ts W (.Compare a [op, op'] [b, c] pos) (tVal (cChain f g Fa Fb Fc)) := by
  refine ⟨fun pins s σ H Q I ⟨ρ, ε, h, hH, hE, p⟩ => (pt_chain ho ho' ha hb hc hm).run pins s σ H Q I (chain_ok os os' ?_)⟩
  exact tG_bind hH hE p fun ρ1 H1 x h1 dx _ e1 hH1 rx hE1 p1 => bl_of hH1 rx p1
theorem a_nil : A' X cls ts W [] aNil := ⟨fun pos pins s σ H Q I ⟨ρ, ε, h, hH, hE, p⟩ => pa_nil.run pos pins s σ H Q I (p _ _ _ .refl hH .nil)⟩
theorem a_cons (ha : E' X cls ts W e Fa) (hr : A' X cls ts W es A) (hs : starEach (e :: es) X.env = (false, eval e X.env) :: starEach es X.env := by rfl) : A' X cls ts W (e :: es) (aCons Fa A) :=
  ⟨fun pos pins s σ H Q I ⟨ρ, ε, h, hH, hE, p⟩ => (pa_cons ha hr hs).run pos pins s σ H Q I (tG_bind hH hE p fun ρ1 H1 x h1 dx _ e1 hH1 rx hE1 p1 =>
    tG_bind hH1 hE1 p1 fun ρ2 H2 y h2 dy _ e2 hH2 ry hE2 p2 => p2 _ _ _ .refl hH2 (.cons (rx.mono e2) ry))⟩
theorem e_tup {x1} (h : A' X cls ts W es A) : E' X cls ts W (.Tuple es x1 pos) (cTup A) := by
  refine ⟨fun pins s σ H Q I ⟨ρ, ε, hh, hH, hE, p⟩ => (pe_tup h).run pins s σ H Q I (tG_bind hH hE p fun ρ1 H1 x h1 dx _ e1 hH1 rx hE1 p1 => ?_)⟩
  split at p1
  · rename_i c
    exact ⟨by rw [rx.length]; exact c, post_newT hH1 rx p1⟩
  · exact p1.elim
theorem e_lst (h : A' X cls ts W es A) : E' X cls ts W (.List es pos) (cLst A) := by
  refine ⟨fun pins s σ H Q I ⟨ρ, ε, hh, hH, hE, p⟩ => (pe_lst h).run pins s σ H Q I (tG_bind hH hE p fun ρ1 H1 x h1 dx _ e1 hH1 rx hE1 p1 => ?_)⟩
  split at p1
  · rename_i c
    exact ⟨by rw [rx.length]; exact c, post_newL hH1 rx p1⟩
  · exact p1.elim
end
end Mi

namespace Mi
open L2 PySem PySem.Spec PyProof.Rows

/-! ### data as a whole -/
def omap {α β : Type} (f : α → Option β) : List α → Option (List β)
  | [] => some []
  | x :: xs => match f x, omap f xs with
    | some y, some ys => some (y :: ys)
    | _, _ => none
def pd : Nat → AH → D → Option PyData
  | _, _, .non => some .none
  | _, _, .bl b => some (.bool b)
  | _, _, .int i => some (.int i)
  | _, _, .str x => some (.str x)
  | 0, _, _ => none
  | n + 1, h, .tup xs => (omap (pd n h) xs).map .tuple
  | n + 1, h, .rol xs => (omap (pd n h) xs).map .list
  | n + 1, h, .ref r => match h[r]? with
    | some (.lst xs) => (omap (pd n h) xs).map .list
    | _ => none
  | _, _, _ => none
section
variable {K : PySem.W.Frag} {cls ts ρ : List Addr} {H : Hp} {h : AH}
theorem dpAll_of {f : D → Option PyData} (ih : ∀ v d p, RV K ρ H v d → f d = some p → Dp K H v p) : ∀ {xs : List V} {ds : List D} {ps : List PyData}, RVs K ρ H xs ds → omap f ds = some ps → DpAll K H xs ps
  | _, _, _, .nil, e => by cases e; exact .nil
  | x :: xs, d :: ds, ps, .cons r rs, e => by
    unfold omap at e
    split at e <;> cases e
    rename_i y ys q1 q2
    exact .cons (ih _ _ _ r q1) (dpAll_of ih rs q2)
theorem dp_of (r : RH K cls ts ρ H h) : ∀ (n : Nat) (v : V) (d : D) (p : PyData), RV K ρ H v d → pd n h d = some p → Dp K H v p := by
  intro n
  induction n with
  | zero =>
    intro v d p rv e
    cases rv <;> simp only [pd] at e <;> cases e
    · exact .non
    · exact .bl _
    · exact .int _
    · exact .str _
  | succ n ih =>
    intro v d p rv e
    cases rv with
    | non => cases e; exact .non
    | bl b => cases e; exact .bl b
    | int i => cases e; exact .int i
    | str x => cases e; exact .str x
    | tup h1 r1 =>
      simp only [pd, Option.map_eq_some_iff] at e
      obtain ⟨ps, q, rfl⟩ := e
      exact .tup h1 (dpAll_of ih r1 q)
    | rol h1 r1 =>
      simp only [pd, Option.map_eq_some_iff] at e
      obtain ⟨ps, q, rfl⟩ := e
      exact .lst h1.sq (dpAll_of ih r1 q)
    | ref q1 =>
      simp only [pd] at e
      split at e <;> first | (cases e; done) | skip
      rename_i xs e1
      obtain ⟨ps, q, rfl⟩ := Option.map_eq_some_iff.mp e
      obtain ⟨us, k1, r1⟩ := r.lst q1 e1
      exact .lst (SqL.of k1) (dpAll_of ih r1 q)
    | _ => cases e
end
/-- flat values -/
def flat : D → Option V
  | .non => some .non
  | .bl b => some (.bl b)
  | .int i => some (.int i)
  | .str x => some (.str x)
  | _ => none
section
variable {K : PySem.W.Frag} {cls ts ρ : List Addr} {H : Hp} {h : AH}
theorem flat_of {v w : V} {d : D} (r : RV K ρ H v d) (e : flat d = some w) : v = w ∧ flatV w = true := by
  cases r <;> cases e <;> exact ⟨rfl, rfl⟩
theorem flats_of : ∀ {xs ws : List V} {ds : List D}, RVs K ρ H xs ds → omap flat ds = some ws → xs = ws ∧ ws.all flatV = true
  | _, _, _, .nil, e => by cases e; exact ⟨rfl, rfl⟩
  | x :: xs, ws, d :: ds, .cons r rs, e => by
    unfold omap at e
    split at e <;> cases e
    rename_i y ys q1 q2
    obtain ⟨rfl, f1⟩ := flat_of r q1
    obtain ⟨rfl, f2⟩ := flats_of rs q2
    exact ⟨rfl, by rw [List.all_cons, f1, f2] <;> rfl⟩
end
/-- scalars compared: as == does it -/
def scalEq : D → D → Option Bool
  | .int i, .int j => some (decide (i = j))
  | .str a, .str b => some (decide (a = b))
  | .bl a, .bl b => some (decide (a = b))
  | .non, .non => some true
  | .int _, .str _ => some false
  | .str _, .int _ => some false
  | .non, .int _ => some false
  | .non, .str _ => some false
  | .non, .bl _ => some false
  | .int _, .non => some false
  | .str _, .non => some false
  | .bl _, .non => some false
  | .bl _, .str _ => some false
  | .str _, .bl _ => some false
  | _, _ => none
def opEq : Op2 := fun x y h => match scalEq x y with
  | some b => .ok (.bl b) h
  | none => match pd 66 h x, pd 66 h y with
    | some p, some q => if SeqAt.shaped p = true ∧ SeqAt.shaped q = true then .ok (.bl (PyData.eqv p q)) h else .stuck
    | _, _ => .stuck
def opNe : Op2 := fun x y h => match scalEq x y with
  | some b => .ok (.bl (!b)) h
  | none => match pd 66 h x, pd 66 h y with
    | some p, some q => if SeqAt.shaped p = true ∧ SeqAt.shaped q = true then .ok (.bl (!PyData.eqv p q)) h else .stuck
    | _, _ => .stuck
def rEqM (K : PySem.W.Frag) : R2 := fun x y H Q => rEq x y H Q ∨ rEqD K x y H Q
def rNeM (K : PySem.W.Frag) : R2 := fun x y H Q => rNe x y H Q ∨ rNeD K x y H Q
theorem op_eqM {X : Cx} (hu : X.A.units + 64 < cLine) : OpR X (compareOp .Eq) (rEqM X.K) := op_eq.or (op_eqD hu)
theorem op_neM {X : Cx} (hu : X.A.units + 64 < cLine) : OpR X (compareOp .NotEq) (rNeM X.K) := op_ne.or (op_neD hu)
section
variable {K : PySem.W.Frag} {cls ts ρ : List Addr} {H : Hp} {h : AH}
theorem scal_of {x y : V} {dx dy : D} {b : Bool} (rx : RV K ρ H x dx) (ry : RV K ρ H y dy) (e : scalEq dx dy = some b) : scal x y = true ∧ b = decide (x = y) := by
  cases rx <;> cases ry <;> simp only [scalEq, Option.some.injEq, reduceCtorEq] at e <;> first | (subst e; refine ⟨rfl, ?_⟩; simp)
theorem opEq_ok : OpS K cls ts (rEqM K) opEq := by
  intro W ρ H h x y dx dy Q r rx ry p
  unfold opEq at p
  split at p
  · rename_i b e
    obtain ⟨s1, rfl⟩ := scal_of rx ry e
    exact .inl ⟨s1, post_val r (.bl _) p⟩
  · split at p <;> first | exact p.elim | skip
    rename_i p1 p2 q1 q2
    split at p <;> first | exact p.elim | skip
    rename_i c
    exact .inr ⟨p1, p2, dp_of r _ _ _ _ rx q1, dp_of r _ _ _ _ ry q2, c.1, c.2, post_val r (.bl _) p⟩
theorem opNe_ok : OpS K cls ts (rNeM K) opNe := by
  intro W ρ H h x y dx dy Q r rx ry p
  unfold opNe at p
  split at p
  · rename_i b e
    obtain ⟨s1, rfl⟩ := scal_of rx ry e
    exact .inl ⟨s1, post_val r (.bl _) p⟩
  · split at p <;> first | exact p.elim | skip
    rename_i p1 p2 q1 q2
    split at p <;> first | exact p.elim | skip
    rename_i c
    exact .inr ⟨p1, p2, dp_of r _ _ _ _ rx q1, dp_of r _ _ _ _ ry q2, c.1, c.2, post_val r (.bl _) p⟩
end
def ltS (a b : Str) : Bool := decide (a.cps.toList < b.cps.toList)
def opLt : Op2
  | .int i, .int j, h => .ok (.bl (decide (i < j))) h
  | .str a, .str b, h => .ok (.bl (ltS a b)) h
  | _, _, _ => .stuck
def opLe : Op2
  | .int i, .int j, h => .ok (.bl (decide (i ≤ j))) h
  | .str a, .str b, h => .ok (.bl (!ltS b a)) h
  | _, _, _ => .stuck
def opGt : Op2
  | .int i, .int j, h => .ok (.bl (decide (j < i))) h
  | .str a, .str b, h => .ok (.bl (ltS b a)) h
  | _, _, _ => .stuck
def opGe : Op2
  | .int i, .int j, h => .ok (.bl (decide (j ≤ i))) h
  | .str a, .str b, h => .ok (.bl (!ltS a b)) h
  | _, _, _ => .stuck
def rOrd (f : Int → Int → Bool) (g : Str → Str → Bool) : R2 := fun x y H Q => rI0 (fun i j => .bl (f i j)) x y H Q ∨ ∃ i j, x = .str i ∧ y = .str j ∧ Q (.bl (g i j)) H
theorem op_ltM {X : Cx} : OpR X (compareOp .Lt) (rOrd (fun i j => decide (i < j)) ltS) := op_lt.or op_lt_str
theorem op_leM {X : Cx} : OpR X (compareOp .LtE) (rOrd (fun i j => decide (i ≤ j)) fun a b => !ltS b a) := op_le.or op_le_str
theorem op_gtM {X : Cx} : OpR X (compareOp .Gt) (rOrd (fun i j => decide (j < i)) fun a b => ltS b a) := op_gt.or op_gt_str
theorem op_geM {X : Cx} : OpR X (compareOp .GtE) (rOrd (fun i j => decide (j ≤ i)) fun a b => !ltS a b) := op_ge.or op_ge_str
section
variable {K : PySem.W.Frag} {cls ts : List Addr}
theorem ord_ok {f : Int → Int → Bool} {g : Str → Str → Bool} {op : Op2} (h1 : ∀ i j h, op (.int i) (.int j) h = .ok (.bl (f i j)) h) (h2 : ∀ i j h, op (.str i) (.str j) h = .ok (.bl (g i j)) h)
    (h3 : ∀ x y h, (∀ i j, ¬ (x = .int i ∧ y = .int j)) → (∀ i j, ¬ (x = .str i ∧ y = .str j)) → op x y h = .stuck) : OpS K cls ts (rOrd f g) op := by
  intro W ρ H h x y dx dy Q r rx ry p
  cases rx with
  | int i =>
    cases ry with
    | int j =>
      rw [h1] at p
      exact .inl ⟨_, _, rfl, rfl, post_val r (.bl _) p⟩
    | _ =>
      rw [h3 _ _ _ (by intro i j ⟨_, z⟩; cases z) (by intro i j ⟨z, _⟩; cases z)] at p
      exact p.elim
  | str i =>
    cases ry with
    | str j =>
      rw [h2] at p
      exact .inr ⟨_, _, rfl, rfl, post_val r (.bl _) p⟩
    | _ =>
      rw [h3 _ _ _ (by intro i j ⟨z, _⟩; cases z) (by intro i j ⟨_, z⟩; cases z)] at p
      exact p.elim
  | _ =>
    rw [h3 _ _ _ (by intro i j ⟨z, _⟩; cases z) (by intro i j ⟨z, _⟩; cases z)] at p
    exact p.elim
theorem opLt_ok : OpS K cls ts (rOrd (fun i j => decide (i < j)) ltS) opLt := ord_ok (fun _ _ _ => rfl) (fun _ _ _ => rfl) fun x y h a b => by
  cases x <;> cases y <;> first | rfl | exact absurd ⟨rfl, rfl⟩ (a _ _) | exact absurd ⟨rfl, rfl⟩ (b _ _)
theorem opLe_ok : OpS K cls ts (rOrd (fun i j => decide (i ≤ j)) fun a b => !ltS b a) opLe := ord_ok (fun _ _ _ => rfl) (fun _ _ _ => rfl) fun x y h a b => by
  cases x <;> cases y <;> first | rfl | exact absurd ⟨rfl, rfl⟩ (a _ _) | exact absurd ⟨rfl, rfl⟩ (b _ _)
theorem opGt_ok : OpS K cls ts (rOrd (fun i j => decide (j < i)) fun a b => ltS b a) opGt := ord_ok (fun _ _ _ => rfl) (fun _ _ _ => rfl) fun x y h a b => by
  cases x <;> cases y <;> first | rfl | exact absurd ⟨rfl, rfl⟩ (a _ _) | exact absurd ⟨rfl, rfl⟩ (b _ _)
theorem opGe_ok : OpS K cls ts (rOrd (fun i j => decide (j ≤ i)) fun a b => !ltS a b) opGe := ord_ok (fun _ _ _ => rfl) (fun _ _ _ => rfl) fun x y h a b => by
  cases x <;> cases y <;> first | rfl | exact absurd ⟨rfl, rfl⟩ (a _ _) | exact absurd ⟨rfl, rfl⟩ (b _ _)
end
/-- is, is not: with None; of truths; of two things of the store -/
def isD : D → D → AH → Option Bool
  | .non, .non, _ => some true
  | .bl _, .non, _ => some false
  | .int _, .non, _ => some false
  | .str _, .non, _ => some false
  | .tup _, .non, _ => some false
  | .rol _, .non, _ => some false
  | .ref _, .non, _ => some false
  | .bl a, .bl b, _ => some (decide (a = b))
  | .ref a, .ref b, h => match h[a]?, h[b]? with
    | some (.lst _), some (.lst _) => some (decide (a = b))
    | some (.lst _), some (.ins _ _) => some (decide (a = b))
    | some (.ins _ _), some (.lst _) => some (decide (a = b))
    | some (.ins _ _), some (.ins _ _) => some (decide (a = b))
    | _, _ => none
  | _, _, _ => none
def opIs : Op2 := fun x y h => match isD x y h with
  | some b => .ok (.bl b) h
  | none => .stuck
def opIsNot : Op2 := fun x y h => match isD x y h with
  | some b => .ok (.bl (!b)) h
  | none => .stuck
def rIsA (n : Bool) : R2 := fun x y H Q => (y = .non ∧ Q (.bl (if n then !decide (x = .non) else decide (x = .non))) H) ∨ (∃ a b : Bool, x = .bl a ∧ y = .bl b ∧ Q (.bl (if n then !decide (a = b) else decide (a = b))) H) ∨
  ∃ a b oa ob, x = .ref a ∧ y = .ref b ∧ H a = some oa ∧ isObj oa = true ∧ H b = some ob ∧ isObj ob = true ∧ Q (.bl (if n then !decide (a = b) else decide (a = b))) H
theorem op_isM {X : Cx} : OpR X (compareOp .Is) (rIsA false) := op_isN.or (op_isBl.or op_is_ref)
theorem op_isNotM {X : Cx} : OpR X (compareOp .IsNot) (rIsA true) := op_notN.or (op_notBl.or op_isnot_ref)
section
variable {K : PySem.W.Frag} {cls ts ρ : List Addr} {H : Hp} {h : AH}
theorem isObj_of {a : Addr} {o : O} (r : RO K cls ρ H a o) (ho : (∃ ds, o = .lst ds) ∨ ∃ c fs, o = .ins c fs) : ∃ u, H a = some u ∧ isObj u = true := by
  rcases ho with ⟨ds, rfl⟩ | ⟨c, fs, rfl⟩
  · obtain ⟨xs, k, _⟩ := r
    exact ⟨_, k, rfl⟩
  · obtain ⟨_, _, _, _, k, _⟩ := r
    exact ⟨_, k, rfl⟩
theorem isD_ok {n : Bool} {x y : V} {dx dy : D} {b : Bool} {Q : VK} (r : RH K cls ts ρ H h) (rx : RV K ρ H x dx) (ry : RV K ρ H y dy) (e : isD dx dy h = some b) (q : Q (.bl (if n then !b else b)) H) : rIsA n x y H Q := by
  cases ry with
  | non =>
    refine .inl ⟨rfl, ?_⟩
    have : b = decide (x = .non) := by
      cases rx <;> cases e <;> simp
    rw [this] at q
    exact q
  | bl b2 =>
    cases rx <;> cases e
    exact .inr (.inl ⟨_, _, rfl, rfl, q⟩)
  | ref q2 =>
    cases rx with
    | ref q1 =>
      rename_i a2 n2 a1 n1
      have key : ∀ {o1 o2 : O}, h[n1]? = some o1 → h[n2]? = some o2 → ((∃ ds, o1 = .lst ds) ∨ ∃ c fs, o1 = .ins c fs) → ((∃ ds, o2 = .lst ds) ∨ ∃ c fs, o2 = .ins c fs) → b = decide (n1 = n2) → rIsA n (.ref a1) (.ref a2) H Q := fun {o1 o2} e1 e2 k1 k2 eb => by
        obtain ⟨u1, w1, i1⟩ := isObj_of (r.ref q1 e1) k1
        obtain ⟨u2, w2, i2⟩ := isObj_of (r.ref q2 e2) k2
        refine .inr (.inr ⟨a1, a2, u1, u2, rfl, rfl, w1, i1, w2, i2, ?_⟩)
        have : b = decide (a1 = a2) := by
          rw [eb, Bool.eq_iff_iff, decide_eq_true_iff, decide_eq_true_iff]
          constructor
          · intro z
            subst z
            rw [q1] at q2
            exact Option.some.inj q2
          · intro z
            subst z
            obtain ⟨l1, z1⟩ := List.getElem?_eq_some_iff.mp q1
            obtain ⟨l2, z2⟩ := List.getElem?_eq_some_iff.mp q2
            exact (List.getElem_inj r.nd).mp (z1.trans z2.symm)
        rw [← this]
        exact q
      simp only [isD] at e
      split at e <;> cases e
      · rename_i e1 e2; exact key e1 e2 (.inl ⟨_, rfl⟩) (.inl ⟨_, rfl⟩) rfl
      · rename_i e1 e2; exact key e1 e2 (.inl ⟨_, rfl⟩) (.inr ⟨_, _, rfl⟩) rfl
      · rename_i e1 e2; exact key e1 e2 (.inr ⟨_, _, rfl⟩) (.inl ⟨_, rfl⟩) rfl
      · rename_i e1 e2; exact key e1 e2 (.inr ⟨_, _, rfl⟩) (.inr ⟨_, _, rfl⟩) rfl
    | _ => cases e
  | _ => cases rx <;> cases e
theorem opIs_ok : OpS K cls ts (rIsA false) opIs := by
  intro W ρ H h x y dx dy Q r rx ry p
  unfold opIs at p
  split at p <;> first | exact p.elim | skip
  rename_i b e
  exact isD_ok r rx ry e (post_val r (.bl _) p)
theorem opIsNot_ok : OpS K cls ts (rIsA true) opIsNot := by
  intro W ρ H h x y dx dy Q r rx ry p
  unfold opIsNot at p
  split at p <;> first | exact p.elim | skip
  rename_i b e
  exact isD_ok r rx ry e (post_val r (.bl _) p)
end
/-- what a list, a tuple holds -/
def seqD : D → AH → Option (List D)
  | .tup xs, _ => some xs
  | .rol xs, _ => some xs
  | .ref n, h => match h[n]? with
    | some (.lst xs) => some xs
    | _ => none
  | _, _ => none
theorem seq_of {K : PySem.W.Frag} {cls ts ρ : List Addr} {H : Hp} {h : AH} {v : V} {d : D} {ds : List D} (r : RH K cls ts ρ H h) (rv : RV K ρ H v d) (e : seqD d h = some ds) : ∃ a xs, v = .ref a ∧ (SqL K H a xs ∨ SqT K H a xs) ∧ RVs K ρ H xs ds := by
  cases rv with
  | tup h1 r1 => cases e; exact ⟨_, _, rfl, .inr h1, r1⟩
  | rol h1 r1 => cases e; exact ⟨_, _, rfl, .inl h1.sq, r1⟩
  | ref q1 =>
    simp only [seqD] at e
    split at e <;> cases e
    rename_i e1
    obtain ⟨us, k1, r1⟩ := r.lst q1 e1
    exact ⟨_, _, rfl, .inl (SqL.of k1), r1⟩
  | _ => cases e
/-- in, not in: flat things in a row of flat ones; data in a list; a text in a text -/
def inD (x y : D) (h : AH) : Option Bool :=
  match y with
  | .str z => match x with
    | .str i => some (!(Builtin.Str.occurrences z i 0 z.length 1).isEmpty)
    | _ => none
  | _ => match seqD y h with
    | none => none
    | some ds => match flat x, omap flat ds with
      | some v, some vs => some (inV v vs)
      | _, _ => match pd 66 h x, pd 66 h y with
        | some p, some (.list ps) => if SeqAt.shaped p = true ∧ SeqAt.shaped (.list ps) = true then some (ps.any fun z => PyData.eqv z p) else none
        | _, _ => none
def opIn : Op2 := fun x y h => match inD x y h with
  | some b => .ok (.bl b) h
  | none => .stuck
def opNotIn : Op2 := fun x y h => match inD x y h with
  | some b => .ok (.bl (!b)) h
  | none => .stuck
def rInM (K : PySem.W.Frag) : R2 := fun x y H Q => rIn K false x y H Q ∨ (∃ i j, x = .str i ∧ y = .str j ∧ Q (.bl (!(Builtin.Str.occurrences j i 0 j.length 1).isEmpty)) H) ∨ rInD K x y H Q
def rNotInM (K : PySem.W.Frag) : R2 := fun x y H Q => rIn K true x y H Q ∨ (∃ i j, x = .str i ∧ y = .str j ∧ Q (.bl (!(!(Builtin.Str.occurrences j i 0 j.length 1).isEmpty))) H) ∨ rNotInD K x y H Q
theorem op_inM {X : Cx} (hu : X.A.units + 65 < cLine) : OpR X (compareOp .In) (rInM X.K) := op_in_seq.or (op_in_str.or (op_inD hu))
theorem op_notInM {X : Cx} (hu : X.A.units + 65 < cLine) : OpR X (compareOp .NotIn) (rNotInM X.K) := op_notIn_seq.or (op_notin_str.or (op_notInD hu))
section
variable {K : PySem.W.Frag} {cls ts ρ : List Addr} {H : Hp} {h : AH}
theorem inD_ok {x y : V} {dx dy : D} {b : Bool} {Q : VK} (r : RH K cls ts ρ H h) (rx : RV K ρ H x dx) (ry : RV K ρ H y dy) (e : inD dx dy h = some b) : (Q (.bl b) H → rInM K x y H Q) ∧ (Q (.bl (!b)) H → rNotInM K x y H Q) := by
  unfold inD at e
  split at e
  · split at e <;> cases e
    cases rx
    cases ry
    exact ⟨fun q => .inr (.inl ⟨_, _, rfl, rfl, q⟩), fun q => .inr (.inl ⟨_, _, rfl, rfl, q⟩)⟩
  · split at e <;> first | (cases e; done) | skip
    rename_i ds es
    obtain ⟨a, xs, rfl, hs, rs⟩ := seq_of r ry es
    split at e
    · rename_i w ws q1 q2
      cases e
      obtain ⟨rfl, f1⟩ := flat_of rx q1
      obtain ⟨rfl, f2⟩ := flats_of rs q2
      exact ⟨fun q => .inl ⟨_, _, rfl, hs, f1, f2, q⟩, fun q => .inl ⟨_, _, rfl, hs, f1, f2, q⟩⟩
    · split at e <;> first | (cases e; done) | skip
      rename_i p ps q1 q2
      split at e <;> cases e
      rename_i c
      exact ⟨fun q => .inr (.inr ⟨_, _, dp_of r _ _ _ _ rx q1, dp_of r _ _ _ _ ry q2, c.1, c.2, q⟩), fun q => .inr (.inr ⟨_, _, dp_of r _ _ _ _ rx q1, dp_of r _ _ _ _ ry q2, c.1, c.2, q⟩)⟩
theorem opIn_ok : OpS K cls ts (rInM K) opIn := by
  intro W ρ H h x y dx dy Q r rx ry p
  unfold opIn at p
  split at p <;> first | exact p.elim | skip
  rename_i b e
  exact (inD_ok r rx ry e).1 (post_val r (.bl _) p)
theorem opNotIn_ok : OpS K cls ts (rNotInM K) opNotIn := by
  intro W ρ H h x y dx dy Q r rx ry p
  unfold opNotIn at p
  split at p <;> first | exact p.elim | skip
  rename_i b e
  exact (inD_ok r rx ry e).2 (post_val r (.bl _) p)
end
end Mi

namespace Mi
open L2 PySem PySem.Spec PyProof.Rows

/-! ### items and cuts -/
def opIx : Op2
  | .str z, .int i, h => if z.length ≤ sizeLine then match atI z.cps.toList i with
      | some c => .ok (.str ⟨#[c]⟩) h
      | none => .stuck
    else .stuck
  | c, .int i, h => match seqD c h with
    | some ds => match atI ds i with
      | some d => .ok d h
      | none => .stuck
    | none => .stuck
  | _, _, _ => .stuck
theorem RVs.at {K : PySem.W.Frag} {ρ : List Addr} {H : Hp} {xs : List V} {ds : List D} {i : Int} {d : D} (r : RVs K ρ H xs ds) (e : atI ds i = some d) : ∃ v, atI xs i = some v ∧ RV K ρ H v d := by
  unfold atI at e ⊢
  rw [r.length]
  obtain ⟨j, hj, e⟩ := Option.bind_eq_some_iff.mp e
  rw [hj]
  exact r.get e
theorem opIx_ok {K : PySem.W.Frag} {cls ts : List Addr} : OpS K cls ts (rIx K) opIx := by
  intro W ρ H h x y dx dy Q r rx ry p
  cases ry with
  | int i =>
    have seq : ∀ {c : D}, RV K ρ H x c → Post K cls ts (relD K) W ρ H (match seqD c h with
        | some ds => match atI ds i with
          | some d => .ok d h
          | none => .stuck
        | none => .stuck) Q → rIx K x (.int i) H Q := fun {c} rc p => by
      split at p <;> first | exact p.elim | skip
      rename_i ds e
      split at p <;> first | exact p.elim | skip
      rename_i d e2
      obtain ⟨a, xs, rfl, hs, rs⟩ := seq_of r rc e
      obtain ⟨v, hv, rv⟩ := rs.at e2
      rcases hs with hs | hs
      · exact .inl ⟨_, _, _, _, rfl, rfl, hs, hv, post_val r rv p⟩
      · exact .inr (.inl ⟨_, _, _, _, rfl, rfl, hs, hv, post_val r rv p⟩)
    cases rx with
    | str z =>
      simp only [opIx] at p
      split at p <;> first | exact p.elim | skip
      rename_i c
      split at p <;> first | exact p.elim | skip
      rename_i k e
      exact .inr (.inr ⟨_, _, _, rfl, rfl, c, e, post_val r (.str _) p⟩)
    | tup h1 r1 => exact seq (.tup h1 r1) p
    | rol h1 r1 => exact seq (.rol h1 r1) p
    | ref q1 => exact seq (.ref q1) p
    | _ => exact p.elim
  | _ => cases rx <;> exact p.elim
abbrev OF := AEnv → AH → Res (Option Int)
def oNone : OF := fun _ h => .ok none h
def oSome (F : EF) : OF := fun ε h => (F ε h).bind fun d h1 => match d with
  | .int i => .ok (some i) h1
  | _ => .stuck
def cutL {α : Type} (xs : List α) (lo hi : Option Int) : List α := (xs.drop (HT.sIx xs.length 0 lo)).take (HT.sIx xs.length xs.length hi - HT.sIx xs.length 0 lo)
def cutD (c : D) (lo hi : Option Int) (h : AH) : Res D :=
  match c with
  | .str z => if z.length ≤ sizeLine then .ok (.str (cutS z lo hi)) h else .stuck
  | .tup xs => .ok (.tup (cutL xs lo hi)) h
  | .rol xs => .ok (.ref h.length) (h ++ [.lst (cutL xs lo hi)])
  | .ref n => match h[n]? with
    | some (.lst xs) => .ok (.ref h.length) (h ++ [.lst (cutL xs lo hi)])
    | _ => .stuck
  | _ => .stuck
def cCut (F : EF) (lo hi : OF) : EF := fun ε h => (F ε h).bind fun c h1 => (lo ε h1).bind fun l h2 => (hi ε h2).bind fun u h3 => cutD c l u h3
def revD (c : D) (h : AH) : Res D :=
  match c with
  | .rol xs => .ok (.ref h.length) (h ++ [.lst xs.reverse])
  | .ref n => match h[n]? with
    | some (.lst xs) => .ok (.ref h.length) (h ++ [.lst xs.reverse])
    | _ => .stuck
  | _ => .stuck
def cRev (F : EF) : EF := fun ε h => (F ε h).bind revD
def rSlM (K : PySem.W.Frag) : V → Option Int → Option Int → Hp → VK → Prop := fun x lo hi H Q => rSlS x lo hi H Q ∨ rSlA K x lo hi H Q ∨ rSlL K x lo hi H Q
theorem cut_rel {K : PySem.W.Frag} {ρ : List Addr} {H : Hp} {xs : List V} {ds : List D} (r : RVs K ρ H xs ds) (lo hi : Option Int) : RVs K ρ H (cutV xs lo hi) (cutL ds lo hi) := by
  unfold cutV cutL
  rw [r.length]
  exact (r.drop _).take _
section
variable {X : Cx} {W : WX} {cls ts : List Addr} {a b c e : Expr} {Fa Fb Fc F : EF} {A : AF} {es : List Expr} {pos : Pos} {lo hi : OF}
theorem e_ix (ha : E' X cls ts W a Fa) (hb : E' X cls ts W b Fb) (hs : PlainIx b := by exact fun _ _ => rfl) : E' X cls ts W (.Subscript a b pos) (cBin opIx Fa Fb) :=
  ⟨fun pins s σ H Q I ⟨ρ, ε, h, hH, hE, p⟩ => (pe_ix ix_seq ha hb hs).run pins s σ H Q I (tG_bind hH hE p fun ρ1 H1 x h1 dx _ e1 hH1 rx hE1 p1 =>
    tG_bind hH1 hE1 p1 fun ρ2 H2 y h2 dy _ e2 hH2 ry hE2 p2 => opIx_ok _ _ _ _ _ _ _ _ _ hH2 (rx.mono e2) ry p2)⟩
abbrev relO : List Addr → Hp → Option Int → Option Int → Prop := fun _ _ b a => b = a
abbrev O' (X : Cx) (cls ts : List Addr) (W : WX) (e : Option Expr) (F : OF) : Prop := PO X e (tG X.K cls ts relO W F)
theorem o_none : O' X cls ts W none oNone := ⟨fun pins s σ H Q I ⟨ρ, ε, h, hH, hE, p⟩ => po_none.run pins s σ H Q I (p _ _ _ .refl hH rfl)⟩
theorem o_some (h : E' X cls ts W e F) : O' X cls ts W (some e) (oSome F) := by
  refine ⟨fun pins s σ H Q I ⟨ρ, ε, hh, hH, hE, p⟩ => (po_some h).run pins s σ H Q I (tG_bind hH hE p fun ρ1 H1 x h1 dx _ e1 hH1 rx hE1 p1 => ?_)⟩
  cases rx <;> first | exact p1.elim | skip
  exact ⟨_, rfl, p1 _ _ _ .refl hH1 rfl⟩
theorem cut_ok {K : PySem.W.Frag} {W : Value → Option Addr → Hp → Prop} {ρ : List Addr} {H : Hp} {h : AH} {x : V} {d : D} {l u : Option Int} {Q : VK} (r : RH K cls ts ρ H h) (rx : RV K ρ H x d) (p : Post K cls ts (relD K) W ρ H (cutD d l u h) Q) : rSlM K x l u H Q := by
  cases rx with
  | str z =>
    simp only [cutD] at p
    split at p <;> first | exact p.elim | skip
    rename_i c
    exact .inl ⟨_, rfl, c, post_val r (.str _) p⟩
  | tup h1 r1 =>
    refine .inr (.inl ⟨_, _, rfl, h1, fun z => ?_, fun _ => post_newT r (cut_rel r1 l u) p⟩)
    have e : cutL (‹List D› : List D) l u = ‹List D› := by
      unfold cutL
      rw [← r1.length, z.1, z.2, List.drop_zero, Nat.sub_zero, r1.length]
      exact List.take_length
    simp only [cutD] at p
    rw [e] at p
    exact post_val r (.tup h1 r1) p
  | rol h1 r1 => exact .inr (.inr ⟨_, _, rfl, h1.sq, post_newL r (cut_rel r1 l u) p⟩)
  | ref q1 =>
    simp only [cutD] at p
    split at p <;> first | exact p.elim | skip
    rename_i xs e1
    obtain ⟨us, k1, r1⟩ := r.lst q1 e1
    exact .inr (.inr ⟨_, _, rfl, SqL.of k1, post_newL r (cut_rel r1 l u) p⟩)
  | _ => exact p.elim
theorem e_cut {lo' hi' : Option Expr} {p2 : Pos} (he : E' X cls ts W e F) (hl : O' X cls ts W lo' lo) (hu : O' X cls ts W hi' hi) : E' X cls ts W (.Subscript e (.Slice lo' hi' none p2) pos) (cCut F lo hi) :=
  ⟨fun pins s σ H Q I ⟨ρ, ε, h, hH, hE, p⟩ => (pe_slice (sl_str.or (sl_tupA.or sl_list)) he hl hu).run pins s σ H Q I (tG_bind hH hE p fun ρ1 H1 x h1 dx _ e1 hH1 rx hE1 p1 =>
    tG_bind hH1 hE1 p1 fun ρ2 H2 y h2 dy _ e2 hH2 ry hE2 p2 => tG_bind hH2 hE2 p2 fun ρ3 H3 z h3 dz _ e3 hH3 rz hE3 p3 => by
      cases ry
      cases rz
      exact cut_ok hH3 (rx.mono (e2.trans e3)) p3)⟩
theorem e_rev {k : Nat} {p1 p2 p3 : Pos} (he : E' X cls ts W e F) : E' X cls ts W (.Subscript e (.Slice none none (some (.UnaryOp .USub (.Constant (.int 1) k p1) p2)) p3) pos) (cRev F) := by
  refine ⟨fun pins s σ H Q I ⟨ρ, ε, h, hH, hE, p⟩ => (pe_revL he).run pins s σ H Q I (tG_bind hH hE p fun ρ1 H1 x h1 dx _ e1 hH1 rx hE1 p1 => ?_)⟩
  cases rx with
  | rol h1 r1 => exact ⟨_, _, rfl, h1.sq, post_newL hH1 r1.reverse p1⟩
  | ref q1 =>
    simp only [revD] at p1
    split at p1 <;> first | exact p1.elim | skip
    rename_i xs e1
    obtain ⟨us, k1, r1⟩ := hH1.lst q1 e1
    exact ⟨_, _, rfl, SqL.of k1, post_newL hH1 r1.reverse p1⟩
  | _ => exact p1.elim
end

/-! ### built-ins called by their names -/
abbrev OpN := List D → AH → Res D
def CallS (K : PySem.W.Frag) (cls ts : List Addr) (r : List V → Hp → VK → Prop) (f : OpN) : Prop :=
  ∀ (W : Value → Option Addr → Hp → Prop) (ρ : List Addr) (H : Hp) (h : AH) (xs : List V) (ds : List D) (Q : VK), RH K cls ts ρ H h → RVs K ρ H xs ds → Post K cls ts (relD K) W ρ H (f ds h) Q → r xs H Q
def cCall (f : OpN) (A : AF) : EF := fun ε h => (A ε h).bind f
section
variable {X : Cx} {W : WX} {cls ts : List Addr} {e : Expr} {A : AF} {es : List Expr} {p pos : Pos} {x : Str} {id T : String} {r : List V → Hp → VK → Prop} {f : OpN}
theorem e_callB (hc : CallR X (.builtin id) r) (os : CallS X.K cls ts r f) (hg : Gl X x) (hm : X.mg x = none) (hv : bootBuiltins x = some (.builtin id)) (ha : A' X cls ts W (e :: es) A) (hn : x ≠ "__name__" := by decide) (hdb : (x == ("__debug__" : Str)) = false := by decide)
    (he : starEach (e :: es) X.env = (false, eval e X.env) :: starEach es X.env := by rfl) (hpl : (backTo pos (starEach es X.env)).any (·.1) = false := by rfl) : E' X cls ts W (.Call (.Name x p) (e :: es) [] pos) (cCall f A) :=
  ⟨fun pins s σ H Q I ⟨ρ, ε, h, hH, hE, q⟩ => (pe_callB hc hg hm hv ha hn hdb he hpl).run pins s σ H Q I (tG_bind hH hE q fun ρ1 H1 x h1 dx _ e1 hH1 rx hE1 p1 => os _ _ _ _ _ _ _ hH1 rx p1)⟩
theorem e_callTy (hc : CallR X (.type T) r) (os : CallS X.K cls ts r f) (hg : Gl X x) (hm : X.mg x = none) (hv : bootBuiltins x = some (.type T)) (ha : A' X cls ts W (e :: es) A) (hn : x ≠ "__name__" := by decide) (hdb : (x == ("__debug__" : Str)) = false := by decide)
    (he : starEach (e :: es) X.env = (false, eval e X.env) :: starEach es X.env := by rfl) (hpl : (backTo pos (starEach es X.env)).any (·.1) = false := by rfl) : E' X cls ts W (.Call (.Name x p) (e :: es) [] pos) (cCall f A) :=
  ⟨fun pins s σ H Q I ⟨ρ, ε, h, hH, hE, q⟩ => (pe_callTy hc hg hm hv ha hn hdb he hpl).run pins s σ H Q I (tG_bind hH hE q fun ρ1 H1 x h1 dx _ e1 hH1 rx hE1 p1 => os _ _ _ _ _ _ _ hH1 rx p1)⟩
end
theorem RVs.one {K : PySem.W.Frag} {ρ : List Addr} {H : Hp} {xs : List V} {d : D} (r : RVs K ρ H xs [d]) : ∃ v, xs = [v] ∧ RV K ρ H v d := by
  cases r with
  | cons a b => cases b; exact ⟨_, rfl, a⟩
theorem RVs.two {K : PySem.W.Frag} {ρ : List Addr} {H : Hp} {xs : List V} {d e : D} (r : RVs K ρ H xs [d, e]) : ∃ v w, xs = [v, w] ∧ RV K ρ H v d ∧ RV K ρ H w e := by
  cases r with
  | cons a b => obtain ⟨w, rfl, c⟩ := RVs.one b; exact ⟨_, w, rfl, a, c⟩
/-- len -/
def fLen : OpN
  | [.str x], h => if x.length ≤ sizeLine then .ok (.int x.length) h else .stuck
  | [.ref n], h => match h[n]? with
    | some (.lst xs) => .ok (.int xs.length) h
    | some (.dic kvs) => .ok (.int kvs.length) h
    | _ => .stuck
  | [.tup xs], h => .ok (.int xs.length) h
  | [.rol xs], h => .ok (.int xs.length) h
  | _, _ => .stuck
def rLenM (K : PySem.W.Frag) : List V → Hp → VK → Prop := fun xs H Q => (∃ x n, xs = [x] ∧ LenV K x H n ∧ Q (.int n) H) ∨ ∃ p kvs, xs = [.ref p] ∧ H p = some (.dK kvs) ∧ Q (.int kvs.length) H
theorem call_lenM {X : Cx} : CallR X (.builtin "len") (rLenM X.K) := CallR.or call_len fun pins s σ H xs us Q I r h => by
  obtain ⟨p, kvs, rfl, e, q⟩ := h
  exact call_lenD pins s σ H [.ref p] us Q I r ⟨p, kvs, rfl, e, q⟩
theorem len_ok {K : PySem.W.Frag} {cls ts : List Addr} : CallS K cls ts (rLenM K) fLen := by
  intro W ρ H h xs ds Q r rs p
  unfold fLen at p
  split at p
  · obtain ⟨v, rfl, rv⟩ := rs.one
    cases rv
    split at p <;> first | exact p.elim | skip
    rename_i c
    exact .inl ⟨_, _, rfl, ⟨c, rfl⟩, post_val r (.int _) p⟩
  · obtain ⟨v, rfl, rv⟩ := rs.one
    cases rv with
    | ref q1 =>
      split at p <;> first | exact p.elim | skip
      · rename_i xs e
        obtain ⟨us, k1, r1⟩ := r.lst q1 e
        exact .inl ⟨_, us.length, rfl, .inl ⟨_, SqL.of k1, rfl⟩, by rw [r1.length]; exact post_val r (.int _) p⟩
      · rename_i xs e
        obtain ⟨us, k1, r1⟩ := r.dic q1 e
        exact .inr ⟨_, us, rfl, k1, by rw [Paired.length r1]; exact post_val r (.int _) p⟩
  · obtain ⟨v, rfl, rv⟩ := rs.one
    cases rv with
    | tup h1 r1 => exact .inl ⟨_, _, rfl, .inr ⟨_, h1, rfl⟩, by rw [r1.length]; exact post_val r (.int _) p⟩
  · obtain ⟨v, rfl, rv⟩ := rs.one
    cases rv with
    | rol h1 r1 => exact .inl ⟨_, _, rfl, .inl ⟨_, h1.sq, rfl⟩, by rw [r1.length]; exact post_val r (.int _) p⟩
  · exact p.elim
end Mi

namespace Mi
open L2 PySem PySem.Spec PyProof.Rows

/-! ### repr -/
def keyP : Key → PyData
  | .inl i => .int i
  | .inr x => .str x
/-- a dict of flat things that stands alone -/
def pdDict (h : AH) : D → Option PyData
  | .ref n => match h[n]? with
    | some (.dic kvs) => match omap (fun p : Key × D => match pd 0 h p.2 with
        | some v => some (keyP p.1, v)
        | none => none) kvs with
      | some ps => some (.dict ps)
      | none => none
    | _ => none
  | _ => none
def reprD (d : D) (h : AH) : Option Str :=
  match pd 60 h d with
  | some p => if p.showable = true ∧ p.shown.length ≤ sizeLine then some p.shown else none
  | none => match pdDict h d with
    | some p => if p.showable = true ∧ p.shown.length ≤ sizeLine then some p.shown else none
    | none => none
def fRepr : OpN
  | [d], h => match reprD d h with
    | some x => .ok (.str x) h
    | none => .stuck
  | _, _ => .stuck
theorem pd_depth {f : D → Option PyData} {n : Nat} (ih : ∀ d p, f d = some p → p.depth ≤ n) : ∀ {ds : List D} {ps : List PyData}, omap f ds = some ps → PyData.depthAll ps ≤ n
  | [], _, e => by cases e; exact Nat.zero_le _
  | d :: ds, _, e => by
    unfold omap at e
    split at e <;> first | (cases e; done) | skip
    rename_i y ys q1 q2
    cases e
    simp only [PyData.depthAll]
    exact Nat.max_le.mpr ⟨ih _ _ q1, pd_depth ih q2⟩
theorem depth_of {h : AH} : ∀ (n : Nat) (d : D) (p : PyData), pd n h d = some p → p.depth ≤ n := by
  intro n
  induction n with
  | zero =>
    intro d p e
    cases d <;> simp only [pd] at e <;> cases e <;> exact Nat.zero_le _
  | succ n ih =>
    intro d p e
    cases d with
    | tup xs =>
      simp only [pd, Option.map_eq_some_iff] at e
      obtain ⟨ps, q, rfl⟩ := e
      simp only [PyData.depth]
      exact Nat.succ_le_succ (pd_depth ih q)
    | rol xs =>
      simp only [pd, Option.map_eq_some_iff] at e
      obtain ⟨ps, q, rfl⟩ := e
      simp only [PyData.depth]
      exact Nat.succ_le_succ (pd_depth ih q)
    | ref r =>
      simp only [pd] at e
      split at e <;> first | (cases e; done) | skip
      obtain ⟨ps, q, rfl⟩ := Option.map_eq_some_iff.mp e
      simp only [PyData.depth]
      exact Nat.succ_le_succ (pd_depth ih q)
    | _ => first | (cases e; done) | (cases e; exact Nat.zero_le _)
theorem pd_noDicts {f : D → Option PyData} (ih : ∀ d p, f d = some p → p.hasDict = false) : ∀ {ds : List D} {ps : List PyData}, omap f ds = some ps → PyData.hasDictAll ps = false
  | [], _, e => by cases e; simp only [PyData.hasDictAll]
  | d :: ds, _, e => by
    unfold omap at e
    split at e <;> first | (cases e; done) | skip
    rename_i y ys q1 q2
    cases e
    simp only [PyData.hasDictAll, ih _ _ q1, pd_noDicts ih q2, Bool.or_false]
theorem pd_noDict {h : AH} : ∀ (n : Nat) (d : D) (p : PyData), pd n h d = some p → p.hasDict = false := by
  intro n
  induction n with
  | zero =>
    intro d p e
    cases d <;> simp only [pd] at e <;> cases e <;> simp only [PyData.hasDict]
  | succ n ih =>
    intro d p e
    cases d with
    | tup xs =>
      simp only [pd, Option.map_eq_some_iff] at e
      obtain ⟨ps, q, rfl⟩ := e
      simp only [PyData.hasDict]
      exact pd_noDicts ih q
    | rol xs =>
      simp only [pd, Option.map_eq_some_iff] at e
      obtain ⟨ps, q, rfl⟩ := e
      simp only [PyData.hasDict]
      exact pd_noDicts ih q
    | ref r =>
      simp only [pd] at e
      split at e <;> first | (cases e; done) | skip
      obtain ⟨ps, q, rfl⟩ := Option.map_eq_some_iff.mp e
      simp only [PyData.hasDict]
      exact pd_noDicts ih q
    | _ => first | (cases e; done) | (cases e; simp only [PyData.hasDict])
theorem repr_scalar {M : Program} {w : World} {A : Around} {E : Value → Shared → Prop} {s : Shared} {K : PySem.W.Frag} {ρ : List Addr} {H : Hp} {v : V} {u : Value} {d : D} {p : PyData} {h : AH} {Q : Value → Shared → Prop} (rv : RV K ρ H v d) (ru : RelV v u) (e : pd 0 h d = some p) (hs : p.showable = true) (hz : p.shown.length ≤ sizeLine)
    (q : ∀ t k, Q (.str p.shown t) { s with toks := k }) : wpAny (model M w) A (call (.builtin "repr") [u]) Q E s := by
  cases rv <;> simp only [pd] at e <;> cases e
  · cases ru
    simp only [PyData.shown] at q
    exact PySem.P.repr_of_none (q _ _)
  · cases ru
    simp only [PyData.shown] at q
    exact PySem.P.repr_of_bool (q _ _)
  · obtain ⟨t, rfl⟩ := ru
    simp only [PyData.shown] at q
    exact PySem.P.repr_of_int (by simpa [PyData.showable] using hs) (q _ _)
  · obtain ⟨t, rfl⟩ := ru
    simp only [PyData.shown] at q hz
    exact PySem.P.repr_of_str (q _ _) hz
/-- the reading of repr: any data by what it is -/
def rReprM (K : PySem.W.Frag) : List V → Hp → VK → Prop := fun xs H Q => ∃ (cls ts ρ : List Addr) (h : AH) (v : V) (d : D) (x : Str), xs = [v] ∧ RH K cls ts ρ H h ∧ RV K ρ H v d ∧ reprD d h = some x ∧ Q (.str x) H
theorem reads_scalar {K : PySem.W.Frag} {ρ : List Addr} {H : Hp} {hh : Heap} {h : AH} {v : V} {u : Value} {d : D} {p : PyData} (rv : RV K ρ H v d) (ru : RelV v u) (e : pd 0 h d = some p) : Reads hh u p [] := by
  cases rv <;> simp only [pd] at e <;> cases e
  · cases ru; exact .none
  · cases ru; exact .bool _
  · obtain ⟨t, rfl⟩ := ru; exact .int _ _
  · obtain ⟨t, rfl⟩ := ru; exact .str _ _
theorem keys_read {P : Program} {w : World} {H : Hp} {K : PySem.W.Frag} {ρ : List Addr} {hh : Heap} {h : AH} : ∀ {es : List DictEntry} {vs : List (Key × Value)} {xs : List (Key × V)} {kvs : List (Key × D)} {ps : List (PyData × PyData)},
    PySem.Pairs (mixKind P w) es vs → KV xs vs → RKs K ρ H xs kvs → omap (fun p : Key × D => match pd 0 h p.2 with
        | some v => some (keyP p.1, v)
        | none => none) kvs = some ps →
    ReadsAll hh (es.map (·.key)) (ps.map (·.1)) [] ∧ ReadsAll hh (es.map (·.val)) (ps.map (·.2)) []
  | _, _, _, _, _, .nil, a, b, c => by
    cases a
    cases b
    cases c
    exact ⟨.nil, .nil⟩
  | _, _, _, _, _, .cons (e := en) (kv := kv) k1 k2 rest, a, b, c => by
    cases a with
    | cons a1 a2 =>
      cases b with
      | cons b1 b2 =>
        unfold omap at c
        split at c <;> first | (cases c; done) | skip
        rename_i y ys q1 q2
        cases c
        split at q1 <;> cases q1
        rename_i v e
        obtain ⟨i1, i2⟩ := keys_read (hh := hh) rest a2 b2 q2
        refine ⟨.cons (as := []) ?_ i1, .cons (as := []) ?_ i2⟩
        · show Reads hh en.key (keyP _) []
          rw [← b1.1, a1.1]
          rcases keyIs_shape k1 with ⟨i, t, ek, ev⟩ | ⟨x, t, ek, ev⟩
          · rw [ek, ev]; exact .int _ _
          · rw [ek, ev]; exact .str _ _
        · show Reads hh en.val v []
          rw [k2]
          exact reads_scalar b1.2 a1.2 e
section
variable {X : Cx}
theorem call_reprM (hg : X.A.guards = some []) (hu : X.A.units + 64 < cLine) : CallR X (.builtin "repr") (rReprM X.K) := by
  rintro pins s σ H xs us Q I r ⟨cls, ts, ρ, hh, v, d, x, rfl, rH, rv, e, q⟩
  obtain ⟨w, rfl, ru⟩ := vals1 r
  unfold reprD at e
  split at e
  · rename_i p ep
    split at e <;> cases e
    rename_i c
    have dp := dp_of rH _ _ _ _ rv ep
    obtain ⟨as, rd⟩ := Dp.reads I _ _ _ dp ru
    have end_ : ∀ h' u tk, (∀ b o, s.heap.get? b = some o → h'.get? b = some o) → EP X pins σ Q (.str p.shown u) { s with heap := h', toks := tk } := fun h' u tk hk => ⟨.str p.shown, H, I.kept hk, ⟨_, rfl⟩, q⟩
    cases ru' : v with
    | ref a =>
      subst ru'
      obtain rfl : w = Value.ref a := ru
      exact repr_of_reads' rd c.1 (PyData.noDict_hsm (pd_noDict _ _ _ ep)) hg (by have := depth_of _ _ _ ep; omega) (fun _ _ e => e) (fun h' u tk hk => end_ h' u tk hk) c.2
    | _ =>
      subst ru'
      have e0 : pd 0 hh d = some p := by cases rv <;> simpa [pd] using ep
      exact repr_scalar rv ru e0 c.1 c.2 fun t k => end_ s.heap t k fun _ _ e => e
  · split at e <;> first | (cases e; done) | skip
    rename_i p ep
    split at e <;> cases e
    rename_i c
    cases d <;> simp only [pdDict] at ep <;> first | (cases ep; done) | skip
    rename_i n
    split at ep <;> first | (cases ep; done) | skip
    rename_i kvs e1
    split at ep <;> cases ep
    rename_i ps e2
    cases rv with
    | ref q1 =>
      rename_i a
      obtain ⟨xs, k1, r1⟩ := rH.dic q1 e1
      obtain ⟨_, nS, vs, kv, o, es, ep', ho, ex, hd, hk, hp, _⟩ := I.hok _ _ k1
      obtain ⟨i1, i2⟩ := keys_read (hh := s.heap) hp kv r1 e2
      have rd : Reads s.heap (.ref a) (.dict ps) [a] := .dict (as := []) (bs := []) ho ex.1 hd i1 i2
      obtain rfl : w = Value.ref a := ru
      refine repr_of_reads' rd c.1 (fun _ hm => ?_) hg ?_ (fun _ _ e => e) (fun h' u tk hk => ⟨.str _, H, I.kept hk, ⟨_, rfl⟩, q⟩) c.2
      · rw [List.mem_singleton.mp hm] at nS
        simp at nS
      · have dep : ∀ {kvs : List (Key × D)} {ps : List (PyData × PyData)}, omap (fun p : Key × D => match pd 0 hh p.2 with
            | some v => some (keyP p.1, v)
            | none => none) kvs = some ps → PyData.depthKv ps = 0 := by
          intro kvs
          induction kvs with
          | nil => intro ps e; cases e; simp only [PyData.depthKv]
          | cons kv kvs ih =>
            intro ps e
            unfold omap at e
            split at e <;> first | (cases e; done) | skip
            rename_i y ys q1 q2
            cases e
            split at q1 <;> cases q1
            rename_i v ev
            have z := depth_of _ _ _ ev
            obtain ⟨k, d⟩ := kv
            cases k <;> simp only [PyData.depthKv, ih q2, keyP, PyData.depth] <;> omega
        simp only [PyData.depth, dep e2]
        omega
end
theorem repr_ok {K : PySem.W.Frag} {cls ts : List Addr} : CallS K cls ts (rReprM K) fRepr := by
  intro W ρ H h xs ds Q r rs p
  unfold fRepr at p
  split at p <;> first | exact p.elim | skip
  obtain ⟨v, rfl, rv⟩ := rs.one
  split at p <;> first | exact p.elim | skip
  rename_i d _ x e
  exact ⟨cls, ts, ρ, h, v, d, x, rfl, r, rv, e, post_val r (.str _) p⟩
end Mi

namespace Mi
open L2 PySem PySem.Spec PyProof.Rows

/-! ### isinstance of a built-in type -/
def tyD : D → AH → Option String
  | .non, _ => some "NoneType"
  | .bl _, _ => some "bool"
  | .int _, _ => some "int"
  | .str _, _ => some "str"
  | .tup _, _ => some "tuple"
  | .rol _, _ => some "list"
  | .ref n, h => match h[n]? with
    | some (.lst _xs) => some "list"
    | some (.dic _) => some "dict"
    | _ => none
  | _, _ => none
def fIsi : OpN
  | [d, .ty n], h => match tyD d h with
    | some t => match kitB t n with
      | some b => .ok (.bl b) h
      | none => .stuck
    | none => .stuck
  | _, _ => .stuck
section
variable {K : PySem.W.Frag} {cls ts ρ : List Addr} {H : Hp} {h : AH}
theorem tyX_of {v : V} {d : D} {t : String} (r : RH K cls ts ρ H h) (rv : RV K ρ H v d) (e : tyD d h = some t) : TyX K H v (.type t) := by
  cases rv with
  | non => cases e; exact .base .non
  | bl b => cases e; exact .base (.bl b)
  | int i => cases e; exact .base (.int i)
  | str x => cases e; exact .base (.str x)
  | tup h1 r1 =>
    cases e
    rcases h1 with (h1 | ⟨o, h1⟩) | ⟨o, its, n, k, c, _⟩
    · exact .base (.tup h1)
    · exact .fTuple h1
    · exact .kTuple k c
  | rol h1 r1 =>
    cases e
    rcases h1 with ⟨o, h1⟩ | ⟨o, its, n, k, c, _⟩
    · exact .base (.frz h1)
    · exact .kList k c
  | ref q1 =>
    simp only [tyD] at e
    split at e <;> first | (cases e; done) | skip
    · rename_i xs e1
      cases e
      obtain ⟨us, k1, _⟩ := r.lst q1 e1
      exact .base (.lst k1)
    · rename_i xs e1
      cases e
      obtain ⟨us, k1, _⟩ := r.dic q1 e1
      exact .base (.dK k1)
  | _ => cases e
theorem isi_ok : CallS K cls ts (rIsi K) fIsi := by
  intro W ρ H h xs ds Q r rs p
  unfold fIsi at p
  split at p <;> first | exact p.elim | skip
  obtain ⟨v, w, rfl, rv, rw'⟩ := rs.two
  cases rw'
  split at p <;> first | exact p.elim | skip
  rename_i t e1
  split at p <;> first | exact p.elim | skip
  rename_i b e2
  exact ⟨_, _, _, _, _, rfl, .ty _, tyX_of r rv e1, kit_ty e2, post_val r (.bl _) p⟩

/-! ### list(x), tuple(x) -/
def fList : OpN
  | [d], h => match seqD d h with
    | some ds => .ok (.ref h.length) (h ++ [.lst ds])
    | none => .stuck
  | _, _ => .stuck
theorem list_ok : CallS K cls ts (fun xs H Q => ∃ p ys, xs = [.ref p] ∧ (SqL K H p ys ∨ SqT K H p ys) ∧ ∀ l, H l = none → Q (.ref l) (upd H l (.lst ys))) fList := by
  intro W ρ H h xs ds Q r rs p
  unfold fList at p
  split at p <;> first | exact p.elim | skip
  obtain ⟨v, rfl, rv⟩ := rs.one
  split at p <;> first | exact p.elim | skip
  rename_i ds e
  obtain ⟨a, us, rfl, hs, ru⟩ := seq_of r rv e
  exact ⟨_, _, rfl, hs, post_newL r ru p⟩
def fTuple : OpN
  | [.tup xs], h => .ok (.tup xs) h
  | [.rol xs], h => .ok (.tup xs) h
  | [.ref n], h => match h[n]? with
    | some (.lst xs) => .ok (.tup xs) h
    | _ => .stuck
  | _, _ => .stuck
theorem tuple_ok : CallS K cls ts (fun xs H Q => ∃ p ys, xs = [.ref p] ∧ ((SqL K H p ys ∧ ∀ l, H l = none → Q (.ref l) (upd H l (.tup ys))) ∨ (SqT K H p ys ∧ Q (.ref p) H))) fTuple := by
  intro W ρ H h xs ds Q r rs p
  unfold fTuple at p
  split at p <;> first | exact p.elim | skip
  · obtain ⟨v, rfl, rv⟩ := rs.one
    cases rv with
    | tup h1 r1 => exact ⟨_, _, rfl, .inr ⟨h1, post_val r (.tup h1 r1) p⟩⟩
  · obtain ⟨v, rfl, rv⟩ := rs.one
    cases rv with
    | rol h1 r1 => exact ⟨_, _, rfl, .inl ⟨h1.sq, post_newT r r1 p⟩⟩
  · obtain ⟨v, rfl, rv⟩ := rs.one
    cases rv with
    | ref q1 =>
      split at p <;> first | exact p.elim | skip
      rename_i xs e1
      obtain ⟨us, k1, r1⟩ := r.lst q1 e1
      exact ⟨_, _, rfl, .inl ⟨SqL.of k1, post_newT r r1 p⟩⟩
end

/-! ### methods of built-in types -/
abbrev OpM := D → List D → AH → Res D
def MtS (K : PySem.W.Frag) (cls ts : List Addr) (T : String) (r : V → List V → Hp → VK → Prop) (f : OpM) : Prop :=
  ∀ (W : Value → Option Addr → Hp → Prop) (ρ : List Addr) (H : Hp) (h : AH) (x : V) (dx : D) (xs : List V) (ds : List D) (Q : VK), RH K cls ts ρ H h → RV K ρ H x dx → RVs K ρ H xs ds → Post K cls ts (relD K) W ρ H (f dx ds h) Q → r x xs H Q
/-- the thing whose method is called is of the type T when it is met -/
def isTy (T : String) (d : D) (h : AH) : Bool := tyD d h == some T
def cMeth (T : String) (f : OpM) (F : EF) (A : AF) : EF := fun ε h => (F ε h).bind fun d h1 => if isTy T d h1 = true then (A ε h1).bind fun ds h2 => f d ds h2 else .stuck
theorem tyV_of {K : PySem.W.Frag} {cls ts ρ : List Addr} {H : Hp} {h : AH} {v : V} {d : D} {T : String} (r : RH K cls ts ρ H h) (rv : RV K ρ H v d) (hT : T = "list" ∨ T = "str" ∨ T = "dict") (e : isTy T d h = true) : tyV K T v H := by
  have e := beq_iff_eq.mp e
  cases rv with
  | str x => cases e; rfl
  | rol h1 r1 => cases e; exact .inl ⟨rfl, _, h1.sq⟩
  | ref q1 =>
    simp only [tyD] at e
    split at e <;> first | (cases e; done) | skip
    · rename_i xs e1
      cases e
      obtain ⟨us, k1, _⟩ := r.lst q1 e1
      exact .inl ⟨rfl, _, SqL.of k1⟩
    · rename_i xs e1
      cases e
      obtain ⟨us, k1, _⟩ := r.dic q1 e1
      exact .inr (.inr (.inl ⟨rfl, .inl ⟨_, k1⟩⟩))
  | _ => first | (cases e; done) | (cases e; rcases hT with h | h | h <;> exact absurd h (by decide))
section
variable {X : Cx} {W : WX} {cls ts : List Addr} {o e : Expr} {F : EF} {A : AF} {es : List Expr} {name : Str} {apos cpos : Pos} {T id : String} {r : V → List V → Hp → VK → Prop} {f : OpM}
theorem e_meth0 (hT : T = "list" ∨ T = "str" ∨ T = "dict") (pa : PlainAttrs T) (slot : Slot T name id) (hty : typeOf (.builtin id) = pure (.type "method_descriptor")) (hm : MtR X id r) (os : MtS X.K cls ts T r f) (ho : E' X cls ts W o F)
    (hbase : attributeBase o name X.env (eval o X.env) = eval o X.env := by rfl) (hline : (apos.endLine == cpos.line) = true := by rfl) : E' X cls ts W (.Call (.Attribute o name apos) [] [] cpos) (cMeth T f F aNil) := by
  refine ⟨fun pins s σ H Q I ⟨ρ, ε, h, hH, hE, p⟩ => (pe_bm0 pa slot hty hm ho hbase hline).run pins s σ H Q I (tG_bind hH hE p fun ρ1 H1 x h1 dx _ e1 hH1 rx hE1 p1 => ?_)⟩
  split at p1 <;> first | exact p1.elim | skip
  rename_i c
  exact ⟨tyV_of hH1 rx hT c, os _ _ _ _ _ _ _ _ _ hH1 rx .nil p1⟩
theorem e_meth (hT : T = "list" ∨ T = "str" ∨ T = "dict") (pa : PlainAttrs T) (slot : Slot T name id) (hty : typeOf (.builtin id) = pure (.type "method_descriptor")) (hm : MtR X id r) (os : MtS X.K cls ts T r f) (ho : E' X cls ts W o F) (ha : A' X cls ts W (e :: es) A)
    (hbase : attributeBase o name X.env (eval o X.env) = eval o X.env := by rfl) (hfew : ((backTo cpos (starEach (e :: es) X.env)).all (fun x => !x.1) && (backToKw cpos (keywordEach [] X.env)).all (fun x => x.1.isSome) && decide ((e :: es).length + ([] : List Keyword).length + (if ([] : List Keyword).isEmpty then 0 else 1) < 30)) = true := by rfl)
    (hs : starEach (e :: es) X.env = (false, eval e X.env) :: starEach es X.env := by rfl) (hplain : (backTo cpos (starEach es X.env)).any (·.1) = false := by rfl) (hline : (apos.endLine == cpos.line) = true := by rfl) :
    E' X cls ts W (.Call (.Attribute o name apos) (e :: es) [] cpos) (cMeth T f F A) := by
  refine ⟨fun pins s σ H Q I ⟨ρ, ε, h, hH, hE, p⟩ => (pe_bm pa slot hty hm ho ha hbase hfew hline hs hplain).run pins s σ H Q I (tG_bind hH hE p fun ρ1 H1 x h1 dx _ e1 hH1 rx hE1 p1 => ?_)⟩
  split at p1 <;> first | exact p1.elim | skip
  rename_i c
  exact ⟨tyV_of hH1 rx hT c, tG_bind hH1 hE1 p1 fun ρ2 H2 y h2 dy _ e2 hH2 ry hE2 p2 => os _ _ _ _ _ _ _ _ _ hH2 (rx.mono e2) ry p2⟩
end
section
variable {K : PySem.W.Frag} {cls ts : List Addr}
def mAppend : OpM
  | .ref n, [d], h => match h[n]? with
    | some (.lst xs) => if xs.length < sizeLine then .ok .non (h.set n (.lst (xs ++ [d]))) else .stuck
    | _ => .stuck
  | _, _, _ => .stuck
theorem append_ok : MtS K cls ts "list" rAppend mAppend := by
  intro W ρ H h x dx xs ds Q r rx rs p
  unfold mAppend at p
  split at p <;> first | exact p.elim | skip
  split at p <;> first | exact p.elim | skip
  rename_i e1
  split at p <;> first | exact p.elim | skip
  rename_i c
  obtain ⟨v, rfl, rv⟩ := rs.one
  cases rx with
  | ref q1 =>
    obtain ⟨us, k1, r1⟩ := r.lst q1 e1
    exact ⟨_, _, _, rfl, rfl, k1, by rw [r1.length]; exact c, post_put (us := us) r q1 (r1.append (.cons rv .nil)) .non p⟩
def mPop : OpM
  | .ref n, [], h => match h[n]? with
    | some (.lst xs) => match xs[xs.length - 1]? with
      | some d => .ok d (h.set n (.lst xs.dropLast))
      | none => .stuck
    | _ => .stuck
  | _, _, _ => .stuck
theorem pop_ok : MtS K cls ts "list" rPop mPop := by
  intro W ρ H h x dx xs ds Q r rx rs p
  unfold mPop at p
  split at p <;> first | exact p.elim | skip
  split at p <;> first | exact p.elim | skip
  rename_i e1
  split at p <;> first | exact p.elim | skip
  rename_i d e2
  cases rs
  cases rx with
  | ref q1 =>
    obtain ⟨us, k1, r1⟩ := r.lst q1 e1
    rw [← r1.length] at e2
    obtain ⟨v, hv, rv⟩ := r1.get e2
    exact ⟨_, _, _, rfl, rfl, k1, hv, post_put (us := us) r q1 r1.dropLast rv p⟩
def asStr : D → Option Str
  | .str x => some x
  | _ => none
theorem strs_of {ρ : List Addr} {H : Hp} : ∀ {xs : List V} {ds : List D} {ys : List Str}, RVs K ρ H xs ds → omap asStr ds = some ys → xs = ys.map V.str
  | _, _, _, .nil, e => by cases e; rfl
  | _, _, _, .cons r rs, e => by
    unfold omap at e
    split at e <;> first | (cases e; done) | skip
    rename_i y ys q1 q2
    cases e
    cases r <;> cases q1
    rw [strs_of rs q2] <;> rfl
def mJoin : OpM
  | .str a, [d], h => match seqD d h with
    | some ds => match omap asStr ds with
      | some ys => if (ys.map (·.length)).sum + ys.length * a.length ≤ 16777216 then .ok (.str (Txt.join a ys)) h else .stuck
      | none => .stuck
    | none => .stuck
  | _, _, _ => .stuck
theorem join_ok : MtS K cls ts "str" (fun x xs H Q => ∃ a p, ∃ ys : List Str, x = .str a ∧ xs = [.ref p] ∧ (SqL K H p (ys.map V.str) ∨ SqT K H p (ys.map V.str)) ∧ (ys.map (·.length)).sum + ys.length * a.length ≤ 16777216 ∧ Q (.str (Txt.join a ys)) H) mJoin := by
  intro W ρ H h x dx xs ds Q r rx rs p
  unfold mJoin at p
  split at p <;> first | exact p.elim | skip
  split at p <;> first | exact p.elim | skip
  rename_i ds' e1
  split at p <;> first | exact p.elim | skip
  rename_i ys e2
  split at p <;> first | exact p.elim | skip
  rename_i c
  obtain ⟨v, rfl, rv⟩ := rs.one
  cases rx
  obtain ⟨a, us, rfl, hs, ru⟩ := seq_of r rv e1
  rw [strs_of ru e2] at hs
  exact ⟨_, _, ys, rfl, rfl, hs, c, post_val r (.str _) p⟩
def mFind : OpM
  | .str a, [.str b], h => .ok (.int (Txt.find a b)) h
  | _, _, _ => .stuck
theorem find_ok : MtS K cls ts "str" (fun x xs H Q => ∃ a b, x = .str a ∧ xs = [.str b] ∧ Q (.int (Txt.find a b)) H) mFind := by
  intro W ρ H h x dx xs ds Q r rx rs p
  unfold mFind at p
  split at p <;> first | exact p.elim | skip
  obtain ⟨v, rfl, rv⟩ := rs.one
  cases rx
  cases rv
  exact ⟨_, _, rfl, rfl, post_val r (.int _) p⟩
end
end Mi

namespace Mi
open L2 PySem PySem.Spec PyProof.Rows

/-! ### what is walked -/
inductive AIt where
  | fix (ds : List D)
  | live (n len : Nat)
def AIt.len : AIt → Nat
  | .fix ds => ds.length
  | .live _ len => len
def AIt.item (i : Nat) (h : AH) : AIt → Option D
  | .fix ds => ds[i]?
  | .live n len => match h[n]? with
    | some (.lst xs) => if xs.length = len then xs[i]? else none
    | _ => none
def AIt.fin (h : AH) : AIt → Bool
  | .fix _ => true
  | .live n len => match h[n]? with
    | some (.lst xs) => decide (xs.length = len)
    | _ => false
structure RIt (K : PySem.W.Frag) (cls ts ρ : List Addr) (H : Hp) (J : It) (it : AIt) : Prop where
  go : ∀ ρ' H' h' i d, Ext ts ρ ρ' H H' → RH K cls ts ρ' H' h' → i < it.len → it.item i h' = some d → J.go i H' ∧ ∀ x H'', J.yld i H' x H'' → Ext ts ρ' ρ' H' H'' ∧ RH K cls ts ρ' H'' h' ∧ RV K ρ' H'' x d
  stop : ∀ ρ' H' h', Ext ts ρ ρ' H H' → RH K cls ts ρ' H' h' → it.fin h' = true → J.stop it.len H'
theorem RIt.ext {K : PySem.W.Frag} {cls ts ρ ρ1 : List Addr} {H H1 : Hp} {J : It} {it : AIt} (e : Ext ts ρ ρ1 H H1) (r : RIt K cls ts ρ H J it) : RIt K cls ts ρ1 H1 J it :=
  ⟨fun ρ' H' h' i d e' => r.go ρ' H' h' i d (e.trans e'), fun ρ' H' h' e' => r.stop ρ' H' h' (e.trans e')⟩
abbrev IF := AEnv → AH → Res AIt
abbrev relI (K : PySem.W.Frag) (cls ts : List Addr) : List Addr → Hp → It → AIt → Prop := fun ρ H J it => RIt K cls ts ρ H J it
abbrev tI (K : PySem.W.Frag) (cls ts : List Addr) (W : WX) (F : IF) : TI := tG K cls ts (relI K cls ts) W F
abbrev I' (X : Cx) (cls ts : List Addr) (W : WX) (tg e : Expr) (F : IF) : Prop := PI X tg e (tI X.K cls ts W F)
def itOf (d : D) (h : AH) : Res AIt :=
  match d with
  | .tup xs => .ok (.fix xs) h
  | .rol xs => .ok (.fix xs) h
  | .str z => .ok (.fix (z.cps.toList.map fun c => .str ⟨#[c]⟩)) h
  | .ref n => match h[n]? with
    | some (.lst xs) => .ok (.live n xs.length) h
    | _ => .stuck
  | _ => .stuck
def iAny (F : EF) : IF := fun ε h => (F ε h).bind itOf
section
variable {K : PySem.W.Frag} {cls ts ρ : List Addr} {H : Hp} {h : AH}
theorem rit_tup {a : Addr} {xs : List V} {ds : List D} (h1 : SqT K H a xs) (r1 : RVs K ρ H xs ds) : RIt K cls ts ρ H (Itt K a) (.fix ds) := by
  refine ⟨fun ρ' H' h' i d e r hi q => ?_, fun ρ' H' h' e r _ => ⟨xs, e.sqT h1, by rw [r1.length]; exact Nat.le_refl _⟩⟩
  obtain ⟨v, hv, rv⟩ := (r1.mono e).get q
  refine ⟨⟨xs, v, e.sqT h1, hv⟩, fun x H'' y => ?_⟩
  obtain ⟨rfl, y⟩ := y
  have z := y xs (e.sqT h1)
  rw [hv] at z
  cases z
  exact ⟨.refl, r, rv⟩
theorem rit_rol {a : Addr} {xs : List V} {ds : List D} (h1 : SqR K H a xs) (r1 : RVs K ρ H xs ds) : RIt K cls ts ρ H (Itl K a) (.fix ds) := by
  refine ⟨fun ρ' H' h' i d e r hi q => ?_, fun ρ' H' h' e r _ => ⟨xs, (e.sqR h1).sq, by rw [r1.length]; exact Nat.le_refl _⟩⟩
  obtain ⟨v, hv, rv⟩ := (r1.mono e).get q
  refine ⟨⟨xs, v, (e.sqR h1).sq, hv⟩, fun x H'' y => ?_⟩
  obtain ⟨rfl, y⟩ := y
  have z := y xs (e.sqR h1).sq
  rw [hv] at z
  cases z
  exact ⟨.refl, r, rv⟩
theorem rit_live {a : Addr} {n len : Nat} (q1 : ρ[n]? = some a) : RIt K cls ts ρ H (Itl K a) (.live n len) := by
  refine ⟨fun ρ' H' h' i d e r hi q => ?_, fun ρ' H' h' e r q => ?_⟩
  · simp only [AIt.item] at q
    split at q <;> first | (cases q; done) | skip
    rename_i xs e1
    split at q <;> first | (cases q; done) | skip
    obtain ⟨us, k1, r1⟩ := r.lst (e.get q1) e1
    obtain ⟨v, hv, rv⟩ := r1.get q
    refine ⟨⟨us, v, SqL.of k1, hv⟩, fun x H'' y => ?_⟩
    obtain ⟨rfl, y⟩ := y
    have z := y us (SqL.of k1)
    rw [hv] at z
    cases z
    exact ⟨.refl, r, rv⟩
  · simp only [AIt.fin] at q
    split at q <;> first | (cases q; done) | skip
    rename_i xs e1
    obtain ⟨us, k1, r1⟩ := r.lst (e.get q1) e1
    refine ⟨us, SqL.of k1, ?_⟩
    rw [r1.length, of_decide_eq_true q]
    exact Nat.le_refl _
theorem rit_str {z : Str} : RIt K cls ts ρ H (Its z) (.fix (z.cps.toList.map fun c => .str ⟨#[c]⟩)) := by
  have hz : (z.cps.toList.map fun c => D.str ⟨#[c]⟩).length = z.cps.size := by simp
  refine ⟨fun ρ' H' h' i d e r hi q => ?_, fun ρ' H' h' e r _ => Nat.le_of_eq hz.symm⟩
  have hi' : i < z.cps.size := by
    have hi2 : i < (z.cps.toList.map fun c => D.str ⟨#[c]⟩).length := hi
    omega
  refine ⟨hi', fun x H'' y => ?_⟩
  obtain ⟨rfl, c, hc, rfl⟩ := y
  have q : (z.cps.toList.map fun c => D.str ⟨#[c]⟩)[i]? = some d := q
  rw [List.getElem?_map, Array.getElem?_toList, hc] at q
  cases q
  exact ⟨.refl, r, .str _⟩
theorem rit_range {lo : Int} {n : Nat} : RIt K cls ts ρ H (Itr lo n) (.fix ((List.range n).map fun (i : Nat) => .int (lo + i))) := by
  have hz : ((List.range n).map fun (i : Nat) => D.int (lo + i)).length = n := by simp
  refine ⟨fun ρ' H' h' i d e r hi q => ?_, fun ρ' H' h' e r _ => Nat.le_of_eq hz.symm⟩
  have hi' : i < n := by
    have hi2 : i < ((List.range n).map fun (i : Nat) => D.int (lo + i)).length := hi
    omega
  refine ⟨hi', fun x H'' y => ?_⟩
  obtain ⟨rfl, rfl⟩ := y
  have q : ((List.range n).map fun (i : Nat) => D.int (lo + i))[i]? = some d := q
  rw [List.getElem?_map, List.getElem?_range hi'] at q
  cases q
  exact ⟨.refl, r, .int _⟩
end
def iRange1 (F : EF) : IF := fun ε h => (F ε h).bind fun d h1 => match d with
  | .int j => if decide (-(2 ^ 62) ≤ j) && decide (j < 2 ^ 62) then .ok (.fix ((List.range j.toNat).map fun (i : Nat) => .int (0 + i))) h1 else .stuck
  | _ => .stuck
def iRange2 (F G : EF) : IF := fun ε h => (F ε h).bind fun a h1 => (G ε h1).bind fun b h2 => match a, b with
  | .int i, .int j => if decide (-(2 ^ 62) ≤ i) && decide (i < 2 ^ 62) && decide (-(2 ^ 62) ≤ j) && decide (j < 2 ^ 62) then .ok (.fix ((List.range (j - i).toNat).map fun (k : Nat) => .int (i + k))) h2 else .stuck
  | _, _ => .stuck
section
variable {X : Cx} {W : WX} {cls ts : List Addr} {tg e e2 : Expr} {F F2 : EF} {p pos : Pos}
theorem i_any (he : E' X cls ts W e F) : I' X cls ts W tg e (iAny F) := by
  refine ⟨fun pins s σ H R I ⟨ρ, ε, h, hH, hE, q⟩ => ?_⟩
  have go : tE X.K cls ts W F σ H fun x H1 => ∃ ρ1 h1 d, RH X.K cls ts ρ1 H1 h1 ∧ RV X.K ρ1 H1 x d ∧ Post X.K cls ts (relI X.K cls ts) (fun c dd H' => W c dd σ H') ρ1 H1 (itOf d h1) R :=
    tG_bind hH hE q fun ρ1 H1 x h1 dx _ e1 hH1 rx hE1 p1 => ⟨ρ1, h1, dx, hH1, rx, p1⟩
  refine thn (he.run pins s σ H _ I go) fun v s1 ⟨x, H1, I1, rv, ρ1, h1, d, hH1, rx, q⟩ => ?_
  have el : ∀ {a : Addr} {xs : List V}, SqL X.K H1 a xs → R (Itl X.K a) H1 → wpAny (model X.prog X.w) X.A (pyIter (.ref a)) (PIE X pins σ tg R) X.xe s1 := fun {a xs} k q => by
    obtain ⟨its, rv, pl, hz⟩ := I1.list k
    exact wpAny_pyIter_list pl.isList (pi_one (tk := s1.toks) I1 _ (turn_list a _) ⟨_, Heap.get?_push_size _ rfl, rfl, rfl⟩ q)
  cases rx with
  | tup k1 r1 =>
    rename_i a xs ds
    cases rv
    obtain ⟨its, rv, pl, hz⟩ := I1.tuple k1
    exact wpAny_pyIter_tuple (show s1.heap.IsTuple a its.toArray from pl) (pi_one (tk := s1.toks) I1 _ (turn_tuple a _) ⟨_, Heap.get?_push_size _ rfl, rfl, rfl⟩ (q ρ1 H1 (Itt X.K a) .refl hH1 (rit_tup k1 r1)))
  | rol k1 r1 =>
    cases rv
    exact el k1.sq (q ρ1 H1 _ .refl hH1 (rit_rol k1 r1))
  | str z =>
    obtain ⟨t, rfl⟩ := rv
    have q' := q ρ1 H1 _ .refl hH1 rit_str
    cases ha : z.cps.all (· < 128)
    · exact wpAny_pyIter_wide ha (pi_one (tk := s1.toks) I1 _ (turn_str _ z t "str_iterator" (.inr rfl)) ⟨_, Heap.get?_push_size _ rfl, rfl, rfl⟩ q')
    · exact wpAny_pyIter_ascii ha (pi_one (tk := s1.toks) I1 _ (turn_str _ z t "str_ascii_iterator" (.inl rfl)) ⟨_, Heap.get?_push_size _ rfl, rfl, rfl⟩ q')
  | ref q1 =>
    simp only [itOf] at q
    split at q <;> first | exact q.elim | skip
    rename_i xs e1
    obtain ⟨us, k1, r1⟩ := hH1.lst q1 e1
    cases rv
    exact el (SqL.of k1) (q ρ1 H1 _ .refl hH1 (rit_live q1))
  | _ => exact q.elim
theorem i_range1 (hg : Gl X "range") (hm : X.mg "range" = none) (ha : E' X cls ts W e F) (hs : starEach [e] X.env = [(false, eval e X.env)] := by rfl) : I' X cls ts W tg (.Call (.Name "range" p) [e] [] pos) (iRange1 F) := by
  have hs' : starEach [e] X.env = (false, eval e X.env) :: starEach [] X.env := hs
  refine ⟨fun pins s σ H R I ⟨ρ, ε, h, hH, hE, q⟩ => (pi_range1 hg hm (pa_cons ha pa_nil hs') hs).run pins s σ H R I (tG_bind hH hE q fun ρ1 H1 x h1 dx _ e1 hH1 rx hE1 p1 => ?_)⟩
  cases rx <;> first | exact p1.elim | skip
  rename_i j _
  simp only at p1
  split at p1 <;> first | exact p1.elim | skip
  rename_i c
  simp only [Bool.and_eq_true, decide_eq_true_eq] at c
  exact ⟨j, rfl, c.1, c.2, p1 ρ1 H1 _ .refl hH1 rit_range⟩
theorem i_range2 (hg : Gl X "range") (hm : X.mg "range" = none) (ha : E' X cls ts W e F) (hb : E' X cls ts W e2 F2) (hs : starEach [e, e2] X.env = [(false, eval e X.env), (false, eval e2 X.env)] := by rfl) (hs2 : starEach [e2] X.env = [(false, eval e2 X.env)] := by rfl) :
    I' X cls ts W tg (.Call (.Name "range" p) [e, e2] [] pos) (iRange2 F F2) := by
  have hs2' : starEach [e2] X.env = (false, eval e2 X.env) :: starEach [] X.env := hs2
  have hs' : starEach [e, e2] X.env = (false, eval e X.env) :: starEach [e2] X.env := by rw [hs, hs2]
  refine ⟨fun pins s σ H R I ⟨ρ, ε, h, hH, hE, q⟩ => (pi_range2 hg hm (pa_cons ha (pa_cons hb pa_nil hs2') hs') hs hs2).run pins s σ H R I (tG_bind hH hE q fun ρ1 H1 x h1 dx _ e1 hH1 rx hE1 p1 => tG_bind hH1 hE1 p1 fun ρ2 H2 y h2 dy _ e2 hH2 ry hE2 p2 => ?_)⟩
  cases rx <;> first | exact p2.elim | skip
  cases ry <;> first | exact p2.elim | skip
  rename_i i _ j _
  simp only at p2
  split at p2 <;> first | exact p2.elim | skip
  rename_i c
  simp only [Bool.and_eq_true, decide_eq_true_eq] at c
  exact ⟨i, j, rfl, ⟨c.1.1.1, c.1.1.2, c.1.2, c.2⟩, p2 ρ2 H2 _ .refl hH2 rit_range⟩
end

/-! ### targets -/
abbrev TF' := D → AEnv → AH → Option AEnv
abbrev TFs := List D → AEnv → AH → Option AEnv
def gN (i : Nat) : TF' := fun d ε _ => if i < ε.length then some (ε.set i (some d)) else none
def gNil' : TFs := fun ds ε _ => match ds with
  | [] => some ε
  | _ => none
def gCons' (g : TF') (gs : TFs) : TFs := fun ds ε h => match ds with
  | d :: ds => match g d ε h with
    | some ε1 => gs ds ε1 h
    | none => none
  | [] => none
def gT (n : Nat) (gs : TFs) : TF' := fun d ε h => match d with
  | .tup ds => if ds.length = n then gs ds ε h else none
  | _ => none
/-- a target whose names stand at the slots sl -/
def tTg (K : PySem.W.Frag) (cls ts : List Addr) (sl : List Nat) (g : TF') : TG := fun v σ H Q => ∃ ρ ε h d ε', RH K cls ts ρ H h ∧ RE K ρ H σ ε ∧ RV K ρ H v d ∧ g d ε h = some ε' ∧
  ∀ σ', RE K ρ H σ' ε' → (∀ vs : List Nat, (∀ i ∈ sl, i ∈ vs) → wipe σ' vs = wipe σ vs) → Q σ' H
def tTgs (K : PySem.W.Frag) (cls ts : List Addr) (sl : List Nat) (g : TFs) : TGs := fun v σ H Q => ∃ ρ ε h d ε', RH K cls ts ρ H h ∧ RE K ρ H σ ε ∧ RVs K ρ H v d ∧ g d ε h = some ε' ∧
  ∀ σ', RE K ρ H σ' ε' → (∀ vs : List Nat, (∀ i ∈ sl, i ∈ vs) → wipe σ' vs = wipe σ vs) → Q σ' H
abbrev G' (X : Cx) (cls ts : List Addr) (tg : Expr) (sl : List Nat) (g : TF') : Prop := PG X tg (tTg X.K cls ts sl g)
abbrev Gs' (X : Cx) (cls ts : List Addr) (tg : List Expr) (sl : List Nat) (g : TFs) : Prop := PGs X tg (tTgs X.K cls ts sl g)
theorem RE.set {K : PySem.W.Frag} {ρ : List Addr} {H : Hp} {σ : L2.St} {ε : AEnv} {i : Nat} {v : V} {d : D} (r : RE K ρ H σ ε) (rv : RV K ρ H v d) : RE K ρ H (σ.set i (some v)) (ε.set i (some d)) := by
  refine ⟨by rw [List.length_set, List.length_set]; exact r.1, fun j e q => ?_⟩
  by_cases hj : i = j
  · subst hj
    have hl : i < ε.length := by
      have := (List.getElem?_eq_some_iff.mp q).1
      rw [List.length_set] at this
      exact this
    rw [List.getElem?_set_self hl] at q
    cases q
    exact ⟨v, List.getElem?_set_self (by rw [← r.1]; exact hl), rv⟩
  · rw [List.getElem?_set_ne hj] at q
    obtain ⟨w, h1, h2⟩ := r.2 j e q
    exact ⟨w, by rw [List.getElem?_set_ne hj]; exact h1, h2⟩
theorem wipe_set {σ : L2.St} {i : Nat} {x : Option V} : ∀ {vs : List Nat}, i ∈ vs → wipe (σ.set i x) vs = wipe σ vs
  | v :: vs, h => by
    unfold wipe
    by_cases hm : i ∈ vs
    · rw [wipe_set hm]
    · have e : i = v := by
        rcases List.mem_cons.mp h with one | more
        · exact one
        · exact absurd more hm
      subst e
      have z : ∀ vs : List Nat, i ∉ vs → wipe (σ.set i x) vs = (wipe σ vs).set i x := by
        intro vs
        induction vs with
        | nil => intro _; rfl
        | cons w ws ih =>
          intro hn
          unfold wipe
          rw [ih fun q => hn (List.mem_cons_of_mem _ q), List.set_comm _ _ (fun q => hn (by rw [q]; exact List.mem_cons_self))]
      rw [z vs hm, List.set_set]
section
variable {X : Cx} {cls ts : List Addr} {tg : Expr} {es : List Expr} {sl sl2 : List Nat} {g : TF'} {gs : TFs} {pos : Pos}
theorem g_name {i : Nat} {x : Str} (hN : X.N.Nodup) (hi : X.N[i]? = some x) (hx : Loc X.env.scope x) (hf : X.fn x = true ∨ X.env.scope.names.lookup x = some .local := by first | exact .inl rfl | exact .inr rfl | assumption) : G' X cls ts (.Name x pos) [i] (gN i) := by
  refine ⟨fun pins s σ H v u Q I r h => (pg_name hN hi hx hf).run pins s σ H v u Q I r ?_⟩
  obtain ⟨ρ, ε, hh, d, ε', hH, hE, rv, q, k⟩ := h
  unfold gN at q
  split at q <;> cases q
  exact k _ (hE.set rv) fun vs hv => wipe_set (hv i List.mem_cons_self)
theorem gs_nil : Gs' X cls ts [] [] gNil' := by
  refine ⟨fun pins s σ H vs us Q I r h => pgs_nil.run pins s σ H vs us Q I r ?_⟩
  obtain ⟨ρ, ε, hh, d, ε', hH, hE, rv, q, k⟩ := h
  unfold gNil' at q
  split at q <;> cases q
  cases rv
  exact ⟨rfl, k _ hE fun _ _ => rfl⟩
theorem gs_cons (h1 : G' X cls ts tg sl g) (h2 : Gs' X cls ts es sl2 gs) (hs : (assignEach (tg :: es) X.env).map (·.2) = assign tg X.env :: (assignEach es X.env).map (·.2) := by rfl) : Gs' X cls ts (tg :: es) (sl ++ sl2) (gCons' g gs) := by
  refine ⟨fun pins s σ H vs us Q I r h => (pgs_cons h1 h2 hs).run pins s σ H vs us Q I r ?_⟩
  obtain ⟨ρ, ε, hh, d, ε', hH, hE, rv, q, k⟩ := h
  unfold gCons' at q
  split at q <;> first | (cases q; done) | skip
  split at q <;> first | (cases q; done) | skip
  rename_i ε1 q1
  cases rv with
  | cons ra rb =>
    exact ⟨_, _, rfl, ρ, ε, hh, _, ε1, hH, hE, ra, q1, fun σ' hE' w1 => ⟨ρ, ε1, hh, _, ε', hH, hE', rb, q, fun σ2 hE2 w2 => k σ2 hE2 fun vs hv =>
      (w2 vs fun i hi => hv i (List.mem_append_right _ hi)).trans (w1 vs fun i hi => hv i (List.mem_append_left _ hi))⟩⟩
theorem g_tup {k : Nat} {n : Nat} (hc : X.calm = true) (h : Gs' X cls ts es sl gs) (hn : (assignEach es X.env).length = n := by rfl) (hst : (assignEach es X.env).findIdx? (·.1) = none := by rfl) : G' X cls ts (.Tuple es k pos) sl (gT n gs) := by
  refine ⟨fun pins s σ H v u Q I r hq => (pg_tup hc h hn hst).run pins s σ H v u Q I r ?_⟩
  obtain ⟨ρ, ε, hh, d, ε', hH, hE, rv, q, k⟩ := hq
  unfold gT at q
  split at q <;> first | (cases q; done) | skip
  split at q <;> first | (cases q; done) | skip
  rename_i c
  cases rv with
  | tup h1 r1 => exact ⟨_, _, rfl, h1, by rw [r1.length]; exact c, ρ, ε, hh, _, ε', hH, hE, r1, q, k⟩
end

/-! ### comprehensions -/
def wipeA (ε : AEnv) : List Nat → AEnv
  | [] => ε
  | v :: vs => (wipeA ε vs).set v none
def noExc {α : Type} : Res α → Res α
  | .exc _ _ => .stuck
  | r => r
def tYes' : TF := fun _ h => .ok true h
def compGo (it : AIt) (g : TF') (t : TF) (F : EF) (nD : Nat) (ε0 : AEnv) : Nat → Nat → AH → Res Unit
  | 0, _, h => if it.fin h = true then .ok () h else .stuck
  | m + 1, i, h => match it.item i h with
    | some d => match g d ε0 h with
      | some ε1 => (noExc (t ε1 h)).bind fun b h1 => if b = true then (noExc (F ε1 h1)).bind fun y h2 => match h2[nD]? with
          | some (.lst acc) => if acc.length < sizeLine then compGo it g t F nD ε0 m (i + 1) (h2.set nD (.lst (acc ++ [y]))) else .stuck
          | _ => .stuck
        else compGo it g t F nD ε0 m (i + 1) h1
      | none => .stuck
    | none => .stuck
def cComp (iF : IF) (g : TF') (t : TF) (F : EF) (own : List Nat) : EF := fun ε h => (iF ε h).bind fun it h1 => (compGo it g t F h1.length (wipeA ε own) it.len 0 (h1 ++ [.lst []])).bind fun _ h2 => .ok (.ref h1.length) h2
theorem RE.wipe {K : PySem.W.Frag} {ρ : List Addr} {H : Hp} {σ : L2.St} {ε : AEnv} (r : RE K ρ H σ ε) : ∀ vs : List Nat, RE K ρ H (L2.wipe σ vs) (wipeA ε vs)
  | [] => r
  | v :: vs => by
    have ih := RE.wipe r vs
    unfold L2.wipe wipeA
    refine ⟨by rw [List.length_set, List.length_set]; exact ih.1, fun j e q => ?_⟩
    by_cases hj : v = j
    · subst hj
      have hl := (List.getElem?_eq_some_iff.mp q).1
      rw [List.length_set] at hl
      rw [List.getElem?_set_self hl] at q
      cases q
    · rw [List.getElem?_set_ne hj] at q
      obtain ⟨w, h1, h2⟩ := ih.2 j e q
      exact ⟨w, by rw [List.getElem?_set_ne hj]; exact h1, h2⟩
abbrev Ts' (X : Cx) (cls ts : List Addr) (W : WX) (es : List Expr) (F : TF) : Prop := PTs X es (tT X.K cls ts W F)
abbrev W0 : WX := fun _ _ _ _ => False
theorem ts_nil {X : Cx} {cls ts : List Addr} {W : WX} : Ts' X cls ts W [] tYes' := ⟨fun pins s σ H Q I ⟨ρ, ε, h, hH, hE, p⟩ => pts_nil.run pins s σ H Q I (p _ _ _ .refl hH rfl)⟩
theorem ts_one {X : Cx} {cls ts : List Addr} {W : WX} {c : Expr} {T : TF} (h : T' X cls ts W c T) : Ts' X cls ts W [c] T := pts_one h
section
variable {K : PySem.W.Frag} {cls ts : List Addr} {W : WX} {iF : IF} {g : TF'} {t : TF} {F : EF} {sl own : List Nat} {σ : L2.St} {H : Hp} {Q : VK}
theorem noExc_W {α β : Type} {rel : List Addr → Hp → β → α → Prop} {γ δ : Type} {rel2 : List Addr → Hp → δ → γ → Prop} {ρ : List Addr} {H : Hp} {ε : AEnv} {h : AH} {F : AEnv → AH → Res α} {G : α → AH → Res γ} {V2 : Value → Option Addr → Hp → Prop} {Qx : δ → Hp → Prop} {σ : L2.St} {Q' : β → Hp → Prop}
    (hH : RH K cls ts ρ H h) (hE : RE K ρ H σ ε) (hp : Post K cls ts rel2 V2 ρ H ((noExc (F ε h)).bind G) Qx)
    (k : ∀ ρ1 H1 v h1 a, Ext ts ρ ρ1 H H1 → RH K cls ts ρ1 H1 h1 → rel ρ1 H1 v a → RE K ρ1 H1 σ ε → Post K cls ts rel2 V2 ρ1 H1 (G a h1) Qx → Q' v H1) : tG K cls ts rel W0 F σ H Q' := by
  refine ⟨ρ, ε, h, hH, hE, ?_⟩
  cases q : F ε h with
  | ok a h1 =>
    rw [q] at hp
    exact fun ρ1 H1 v e r rv => k ρ1 H1 v h1 a e r rv (hE.mono e) (hp.ext e)
  | exc x h1 =>
    rw [q] at hp
    exact hp.elim
  | stuck =>
    rw [q] at hp
    exact hp
theorem comp_ok (hsl : ∀ i ∈ sl, i ∈ own) (p : tE K cls ts W (cComp iF g t F own) σ H Q) : tLc (tI K cls ts W iF) (tTg K cls ts sl g) (tT K cls ts W0 t) (tE K cls ts W0 F) own σ H Q := by
  obtain ⟨ρ, ε, h, hH, hE, p⟩ := p
  refine tG_bind hH hE p fun ρ1 H1 J h1 it _ e1 hH1 rit hE1 p1 => fun Da hD => ?_
  have eD := ext_new (ts := ts) (ρ := ρ1) (u := .lst []) hD
  have hHD : RH K cls ts (ρ1 ++ [Da]) (upd H1 Da (.lst [])) (h1 ++ [.lst []]) := hH1.new hD ⟨[], upd_same, .nil⟩
  refine ⟨fun i m H' => m = it.len - i ∧ i ≤ it.len ∧ ∃ ρ2 h2, Ext ts (ρ1 ++ [Da]) ρ2 (upd H1 Da (.lst [])) H' ∧ RH K cls ts ρ2 H' h2 ∧
    Post K cls ts (relD K) (fun c dd H' => W c dd σ H') ρ2 H' ((compGo it g t F h1.length (wipeA ε own) m i h2).bind fun _ h3 => .ok (.ref h1.length) h3) Q,
    ⟨it.len, by simp, Nat.zero_le _, _, _, .refl, hHD, p1.ext eD⟩, ?_⟩
  rintro i m H' ⟨em, hi, ρ2, h2, e2, hH2, q⟩
  have ritD := rit.ext eD
  have gD : ρ2[h1.length]? = some Da := e2.get (by rw [← hH1.len]; exact get_new)
  by_cases hlt : i < it.len
  · obtain ⟨k, rfl⟩ : ∃ k, m = k + 1 := ⟨m - 1, by omega⟩
    simp only [compGo] at q
    split at q <;> first | exact q.elim | skip
    rename_i d qi
    obtain ⟨go, yl⟩ := ritD.go ρ2 H' h2 i d e2 hH2 hlt qi
    refine .inr ⟨go, fun H3 => ∃ ρ3 h3, Ext ts (ρ1 ++ [Da]) ρ3 (upd H1 Da (.lst [])) H3 ∧ RH K cls ts ρ3 H3 h3 ∧
      Post K cls ts (relD K) (fun c dd H' => W c dd σ H') ρ3 H3 ((compGo it g t F h1.length (wipeA ε own) k (i + 1) h3).bind fun _ h3 => .ok (.ref h1.length) h3) Q, fun H3 z => ⟨k, by omega, by omega, by omega, z⟩, fun x H'' y => ?_⟩
    obtain ⟨e3, hH3, rx⟩ := yl x H'' y
    have q := q.ext e3
    split at q <;> first | exact q.elim | skip
    rename_i ε1 qg
    have hE3 : RE K ρ2 H'' (L2.wipe σ own) (wipeA ε own) := (hE1.mono (eD.trans (e2.trans e3))).wipe own
    refine ⟨ρ2, _, h2, d, ε1, hH3, hE3, rx, qg, fun σ' hE' hw => ⟨?_, ?_⟩⟩
    · have w1 := hw own hsl
      rw [w1]
      have idem : ∀ vs : List Nat, (∀ i ∈ vs, i ∈ own) → L2.wipe (L2.wipe σ own) vs = L2.wipe σ own := by
        intro vs
        induction vs with
        | nil => intro _; rfl
        | cons v vs ih =>
          intro hv
          show (L2.wipe (L2.wipe σ own) vs).set v none = _
          rw [ih fun i hi => hv i (List.mem_cons_of_mem _ hi)]
          have wn : ∀ us : List Nat, v ∈ us → (L2.wipe σ us).set v none = L2.wipe σ us := by
            intro us
            induction us with
            | nil => intro h; cases h
            | cons u us ih2 =>
              intro h
              show ((L2.wipe σ us).set u none).set v none = (L2.wipe σ us).set u none
              by_cases e : u = v
              · subst e; rw [List.set_set]
              · rcases List.mem_cons.mp h with z | z
                · exact absurd z.symm e
                · rw [List.set_comm _ _ e, ih2 z]
          exact wn own (hv v List.mem_cons_self)
      exact idem own fun _ h => h
    · have q0 : Post K cls ts (relD K) (fun c dd H' => W c dd σ H') ρ2 H'' ((noExc (t ε1 h2)).bind fun b h1' => (if b = true then (noExc (F ε1 h1')).bind fun y h2 => match h2[h1.length]? with
          | some (.lst acc) => if acc.length < sizeLine then compGo it g t F h1.length (wipeA ε own) k (i + 1) (h2.set h1.length (.lst (acc ++ [y]))) else .stuck
          | _ => .stuck
        else compGo it g t F h1.length (wipeA ε own) k (i + 1) h1').bind fun _ h3 => .ok (.ref h1.length) h3) Q := by
        cases z : noExc (t ε1 h2) with
        | ok b h' => rw [z] at q; exact q
        | exc _ _ => rw [z] at q; exact q
        | stuck => rw [z] at q; exact q
      refine noExc_W hH3 hE' q0 fun ρ4 H4 b h4 b' e4 hH4 rb hE4 q4 => ?_
      cases rb
      cases b with
      | false => exact iteF ⟨ρ4, h4, e2.trans (e3.trans e4), hH4, q4⟩
      | true =>
        refine iteT ?_
        have q5 : Post K cls ts (relD K) (fun c dd H' => W c dd σ H') ρ4 H4 ((noExc (F ε1 h4)).bind fun y h2 => (match h2[h1.length]? with
          | some (.lst acc) => if acc.length < sizeLine then compGo it g t F h1.length (wipeA ε own) k (i + 1) (h2.set h1.length (.lst (acc ++ [y]))) else .stuck
          | _ => .stuck).bind fun _ h3 => .ok (.ref h1.length) h3) Q := by
          rw [if_pos rfl] at q4
          cases z : noExc (F ε1 h4) with
          | ok b h' => rw [z] at q4; exact q4
          | exc _ _ => rw [z] at q4; exact q4
          | stuck => rw [z] at q4; exact q4
        refine noExc_W hH4 hE4 q5 fun ρ5 H5 y h5 dy e5 hH5 ry hE5 q6 => ?_
        have e25 := e2.trans (e3.trans (e4.trans e5))
        have gD5 : ρ5[h1.length]? = some Da := e25.get (by rw [← hH1.len]; exact get_new)
        split at q6 <;> first | exact q6.elim | skip
        rename_i acc ea
        split at q6 <;> first | exact q6.elim | skip
        rename_i c
        obtain ⟨us, k1, r1⟩ := hH5.lst gD5 ea
        have eP := ext_put (u := .lst (us ++ [y])) (List.mem_of_getElem? gD5) hH5
        have hP : RH K cls ts ρ5 (upd H5 Da (.lst (us ++ [y]))) (h5.set h1.length (.lst (acc ++ [dy]))) := hH5.put gD5 ⟨_, upd_same, (r1.append (.cons ry .nil)).mono eP⟩
        exact ⟨us, k1, by rw [r1.length]; exact c, ρ5, _, e25.trans eP, hP, q6.ext eP⟩
  · have ei : i = it.len := by omega
    subst ei
    have em0 : m = 0 := by omega
    subst em0
    simp only [compGo] at q
    split at q <;> first | exact q.elim | skip
    rename_i c
    exact .inl ⟨ritD.stop ρ2 H' h2 e2 hH2 c, post_val hH2 (.ref gD) q⟩
end
section
variable {X : Cx} {W : WX} {cls ts : List Addr} {elt tg iter : Expr} {ifs : List Expr} {scope : Scope} {own : List (Str × Nat)} {pos : Pos} {iF : IF} {g : TF'} {t : TF} {F : EF} {sl : List Nat}
theorem e_comp (hc : X.calm = true) (hN : X.N.Nodup) (hi : I' X cls ts W tg iter iF) (ok : BlkOk X.N X.env.scope scope own) (hsl : ∀ i ∈ sl, i ∈ own.map (·.2))
    (hg : ∀ (s : Shared) (H : Hp) (C : Addr) (cl : List (Str × Addr)) (fp : List Addr), G' (X.blk s H scope (compEnvC scope cl C X.env) fp) cls ts tg sl g)
    (ht : ∀ (s : Shared) (H : Hp) (C : Addr) (cl : List (Str × Addr)) (fp : List Addr), Ts' (X.blk s H scope (compEnvC scope cl C X.env) fp) cls ts W0 ifs t)
    (he : ∀ (s : Shared) (H : Hp) (C : Addr) (cl : List (Str × Addr)) (fp : List Addr), E' (X.blk s H scope (compEnvC scope cl C X.env) fp) cls ts W0 elt F) (hs : ∀ x, foldedSetIterable iter X.env x = pure x := by intro _; rfl) :
    E' X cls ts W (.ListComp elt [⟨tg, iter, ifs, 0⟩] scope pos) (cComp iF g t F (own.map (·.2))) :=
  ⟨fun pins s σ H Q I p => (pe_lc hc hN hi ok hg ht he hs).run pins s σ H Q I (comp_ok hsl p)⟩
end
end Mi

namespace Mi
open L2 PySem PySem.Spec PyProof.Rows

/-! ### statements -/
inductive SR where
  | nx (ε : AEnv) (h : AH) | ret (d : D) (h : AH) | brk (ε : AEnv) (h : AH) | cnt (ε : AEnv) (h : AH) | exc (x : Exn) (ε : AEnv) (h : AH) | stuck
abbrev SF := AEnv → AH → SR
/-- an expression's end in a statement -/
def Res.st {α : Type} (r : Res α) (ε : AEnv) (f : α → AH → SR) : SR :=
  match r with
  | .ok a h => f a h
  | .exc x h => .exc x ε h
  | .stuck => .stuck
@[simp] theorem Res.st_ok {α : Type} (a : α) (h : AH) (ε : AEnv) (f : α → AH → SR) : (Res.ok a h).st ε f = f a h := rfl
@[simp] theorem Res.st_exc {α : Type} (x : Exn) (h : AH) (ε : AEnv) (f : α → AH → SR) : (Res.exc (α := α) x h).st ε f = .exc x ε h := rfl
@[simp] theorem Res.st_stuck {α : Type} (ε : AEnv) (f : α → AH → SR) : (Res.stuck (α := α)).st ε f = .stuck := rfl
def SR.seq (r : SR) (f : SF) : SR :=
  match r with
  | .nx ε h => f ε h
  | r => r
@[simp] theorem SR.seq_nx (ε : AEnv) (h : AH) (f : SF) : (SR.nx ε h).seq f = f ε h := rfl
@[simp] theorem SR.seq_ret (d : D) (h : AH) (f : SF) : (SR.ret d h).seq f = .ret d h := rfl
@[simp] theorem SR.seq_exc (x : Exn) (ε : AEnv) (h : AH) (f : SF) : (SR.exc x ε h).seq f = .exc x ε h := rfl
@[simp] theorem SR.seq_stuck (f : SF) : SR.stuck.seq f = .stuck := rfl
@[simp] theorem SR.seq_brk (ε : AEnv) (h : AH) (f : SF) : (SR.brk ε h).seq f = .brk ε h := rfl
@[simp] theorem SR.seq_cnt (ε : AEnv) (h : AH) (f : SF) : (SR.cnt ε h).seq f = .cnt ε h := rfl
def PostS (K : PySem.W.Frag) (cls ts : List Addr) (W : WX) (ρ : List Addr) (H : Hp) (r : SR) (E : Ends) : Prop :=
  match r with
  | .nx ε' h' => ∀ ρ' H' σ', Ext ts ρ ρ' H H' → RH K cls ts ρ' H' h' → RE K ρ' H' σ' ε' → E.nx σ' H'
  | .ret d h' => ∀ ρ' H' v, Ext ts ρ ρ' H H' → RH K cls ts ρ' H' h' → RV K ρ' H' v d → E.rt v H'
  | .brk ε' h' => ∀ ρ' H' σ', Ext ts ρ ρ' H H' → RH K cls ts ρ' H' h' → RE K ρ' H' σ' ε' → E.bk σ' H'
  | .cnt ε' h' => ∀ ρ' H' σ', Ext ts ρ ρ' H H' → RH K cls ts ρ' H' h' → RE K ρ' H' σ' ε' → E.ct σ' H'
  | .exc x ε' h' => ∀ ρ' H' σ' c dd, Ext ts ρ ρ' H H' → RH K cls ts ρ' H' h' → RE K ρ' H' σ' ε' → RX K cls ρ' H' c dd x → W c dd σ' H'
  | .stuck => False
theorem PostS.ext {K : PySem.W.Frag} {cls ts ρ ρ1 : List Addr} {H H1 : Hp} {W : WX} {r : SR} {E : Ends} (e : Ext ts ρ ρ1 H H1) (p : PostS K cls ts W ρ H r E) : PostS K cls ts W ρ1 H1 r E := by
  cases r with
  | nx ε' h' => exact fun ρ' H' σ' e' => p ρ' H' σ' (e.trans e')
  | ret d h' => exact fun ρ' H' v e' => p ρ' H' v (e.trans e')
  | brk ε' h' => exact fun ρ' H' σ' e' => p ρ' H' σ' (e.trans e')
  | cnt ε' h' => exact fun ρ' H' σ' e' => p ρ' H' σ' (e.trans e')
  | exc x ε' h' => exact fun ρ' H' σ' c dd e' => p ρ' H' σ' c dd (e.trans e')
  | stuck => exact p
def tS (K : PySem.W.Frag) (cls ts : List Addr) (W : WX) (F : SF) : TS := fun E σ H => ∃ ρ ε h, RH K cls ts ρ H h ∧ RE K ρ H σ ε ∧ PostS K cls ts W ρ H (F ε h) E
/-- an expression ahead of what a statement does -/
theorem tS_bind {α β : Type} {K : PySem.W.Frag} {cls ts ρ : List Addr} {H : Hp} {rel : List Addr → Hp → β → α → Prop} {W : WX} {F : AEnv → AH → Res α} {G : α → AH → SR} {σ : L2.St} {ε : AEnv} {h : AH} {E : Ends} {Q' : β → Hp → Prop}
    (hH : RH K cls ts ρ H h) (hE : RE K ρ H σ ε) (hp : PostS K cls ts W ρ H ((F ε h).st ε G) E)
    (k : ∀ ρ1 H1 v h1 a, F ε h = .ok a h1 → Ext ts ρ ρ1 H H1 → RH K cls ts ρ1 H1 h1 → rel ρ1 H1 v a → RE K ρ1 H1 σ ε → PostS K cls ts W ρ1 H1 (G a h1) E → Q' v H1) : tG K cls ts rel W F σ H Q' := by
  refine ⟨ρ, ε, h, hH, hE, ?_⟩
  cases q : F ε h with
  | ok a h1 =>
    rw [q] at hp
    exact fun ρ1 H1 v e r rv => k ρ1 H1 v h1 a q e r rv (hE.mono e) (hp.ext e)
  | exc x h1 =>
    rw [q] at hp
    exact fun ρ1 H1 c dd e r rx => hp ρ1 H1 σ c dd e r (hE.mono e) rx
  | stuck =>
    rw [q] at hp
    exact hp
def sPass : SF := fun ε h => .nx ε h
def sBrk : SF := fun ε h => .brk ε h
def sCnt : SF := fun ε h => .cnt ε h
def sSeq (a b : SF) : SF := fun ε h => (a ε h).seq b
def sExpr (F : EF) : SF := fun ε h => (F ε h).st ε fun _ h1 => .nx ε h1
def sRet (F : EF) : SF := fun ε h => (F ε h).st ε fun d h1 => .ret d h1
def sRetN : SF := fun ε h => .ret .non h
def sSet (i : Nat) (F : EF) : SF := fun ε h => (F ε h).st ε fun d h1 => if i < ε.length then .nx (ε.set i (some d)) h1 else .stuck
def sAsg (F : EF) (g : TF') : SF := fun ε h => (F ε h).st ε fun d h1 => match g d ε h1 with
  | some ε1 => .nx ε1 h1
  | none => .stuck
def sIf (t : TF) (a b : SF) : SF := fun ε h => (t ε h).st ε fun c h1 => if c = true then a ε h1 else b ε h1
/-- xs[i] = e -/
def putL (c i d : D) (h : AH) : Option AH :=
  match c, i with
  | .ref n, .int k => match h[n]? with
    | some (.lst xs) => match ixN xs.length k with
      | some j => some (h.set n (.lst (xs.set j d)))
      | none => none
    | _ => none
  | _, _ => none
def sPut (F G I : EF) : SF := fun ε h => (F ε h).st ε fun d h1 => (G ε h1).st ε fun c h2 => (I ε h2).st ε fun i h3 => match putL c i d h3 with
  | some h4 => .nx ε h4
  | none => .stuck
def sPar2 (i j : Nat) (F G : EF) : SF := fun ε h => (F ε h).st ε fun a h1 => (G ε h1).st ε fun b h2 => if i < ε.length ∧ j < ε.length then .nx ((ε.set i (some a)).set j (some b)) h2 else .stuck
def sPar3 (i j k : Nat) (F G I : EF) : SF := fun ε h => (F ε h).st ε fun a h1 => (G ε h1).st ε fun b h2 => (I ε h2).st ε fun c h3 => if i < ε.length ∧ j < ε.length ∧ k < ε.length then .nx (((ε.set i (some a)).set j (some b)).set k (some c)) h3 else .stuck
/-- for: turn by turn -/
def forGo (it : AIt) (g : TF') (B : SF) : Nat → Nat → AEnv → AH → SR
  | 0, _, ε, h => if it.fin h = true then .nx ε h else .stuck
  | m + 1, i, ε, h => match it.item i h with
    | some d => match g d ε h with
      | some ε1 => match B ε1 h with
        | .nx ε2 h2 => forGo it g B m (i + 1) ε2 h2
        | .cnt ε2 h2 => forGo it g B m (i + 1) ε2 h2
        | .brk ε2 h2 => .nx ε2 h2
        | r => r
      | none => .stuck
    | none => .stuck
def sFor (iF : IF) (g : TF') (B : SF) : SF := fun ε h => (iF ε h).st ε fun it h1 => forGo it g B it.len 0 ε h1
/-- while: as many turns as fuel has -/
def whileGo (t : TF) (B : SF) : Nat → AEnv → AH → SR
  | 0, _, _ => .stuck
  | m + 1, ε, h => (t ε h).st ε fun c h1 => if c = true then match B ε h1 with
      | .nx ε2 h2 => whileGo t B m ε2 h2
      | .cnt ε2 h2 => whileGo t B m ε2 h2
      | .brk ε2 h2 => .nx ε2 h2
      | r => r
    else .nx ε h1
def sWhile (fuel : Nat) (t : TF) (B : SF) : SF := fun ε h => whileGo t B fuel ε h

section
variable {X : Cx} {W : WX} {cls ts : List Addr} {a b c e : Expr} {Fa Fb Fc F : EF} {Ta : TF} {A : AF} {es : List Expr} {pos : Pos} {st : Stmt} {rest body orelse : List Stmt} {S1 S2 B : SF}
abbrev S' (X : Cx) (cls ts : List Addr) (W : WX) (s : Stmt) (F : SF) : Prop := PS X s (tS X.K cls ts W F)
abbrev Ss' (X : Cx) (cls ts : List Addr) (W : WX) (s : List Stmt) (F : SF) : Prop := PSs X s (tS X.K cls ts W F)
theorem ss_nil : Ss' X cls ts W [] sPass := ⟨fun pins s σ H E I ⟨ρ, ε, h, hH, hE, p⟩ => pss_nil.run pins s σ H E I (p _ _ _ .refl hH hE)⟩
theorem ss_cons (h1 : S' X cls ts W st S1) (h2 : Ss' X cls ts W rest S2) : Ss' X cls ts W (st :: rest) (sSeq S1 S2) := by
  refine ⟨fun pins s σ H E I ⟨ρ, ε, h, hH, hE, p⟩ => (pss_cons h1 h2).run pins s σ H E I ⟨ρ, ε, h, hH, hE, ?_⟩⟩
  unfold sSeq at p
  cases q : S1 ε h with
  | nx ε' h' =>
    rw [q] at p
    exact fun ρ' H' σ' e' hH' hE' => ⟨ρ', ε', h', hH', hE', p.ext e'⟩
  | _ => rw [q] at p; exact p
theorem ss_one (h1 : S' X cls ts W st S1) : Ss' X cls ts W [st] S1 := pss_one h1
theorem s_pass : S' X cls ts W (.Pass pos) sPass := ⟨fun pins s σ H E I ⟨ρ, ε, h, hH, hE, p⟩ => ps_pass.run pins s σ H E I (p _ _ _ .refl hH hE)⟩
theorem s_doc {x j pos pos'} : S' X cls ts W (.Expr (.Constant (.str x) j pos) pos') sPass := ⟨fun pins s σ H E I ⟨ρ, ε, h, hH, hE, p⟩ => ps_doc.run pins s σ H E I (p _ _ _ .refl hH hE)⟩
theorem s_brk : S' X cls ts W (.Break pos) sBrk := ⟨fun pins s σ H E I ⟨ρ, ε, h, hH, hE, p⟩ => ps_break.run pins s σ H E I (p _ _ _ .refl hH hE)⟩
theorem s_cnt : S' X cls ts W (.Continue pos) sCnt := ⟨fun pins s σ H E I ⟨ρ, ε, h, hH, hE, p⟩ => ps_continue.run pins s σ H E I (p _ _ _ .refl hH hE)⟩
theorem s_expr (he : E' X cls ts W e F) (hs : swapsWith e none pos.line X.env = pure false := by rfl) : S' X cls ts W (.Expr e pos) (sExpr F) :=
  ⟨fun pins s σ H E I ⟨ρ, ε, h, hH, hE, p⟩ => (ps_expr he hs).run pins s σ H E I (tS_bind hH hE p fun ρ1 H1 x h1 dx _ e1 hH1 rx hE1 p1 => p1 _ _ _ .refl hH1 hE1)⟩
theorem s_ret (he : E' X cls ts W e F) : S' X cls ts W (.Return (some e) pos) (sRet F) :=
  ⟨fun pins s σ H E I ⟨ρ, ε, h, hH, hE, p⟩ => (ps_ret he).run pins s σ H E I (tS_bind hH hE p fun ρ1 H1 x h1 dx _ e1 hH1 rx hE1 p1 => p1 _ _ _ .refl hH1 rx)⟩
theorem s_retN : S' X cls ts W (.Return none pos) sRetN := ⟨fun pins s σ H E I ⟨ρ, ε, h, hH, hE, p⟩ => ps_retN.run pins s σ H E I (p _ _ _ .refl hH .non)⟩
theorem s_set {i : Nat} {x : Str} {pos' : Pos} (hN : X.N.Nodup) (hi : X.N[i]? = some x) (hx : Loc X.env.scope x) (he : E' X cls ts W e F) (hs : swapsWith e (some (.Name x pos')) pos.line X.env = pure false := by rfl)
    (hf : X.fn x = true ∨ X.env.scope.names.lookup x = some .local := by first | exact .inl rfl | exact .inr rfl | assumption) : S' X cls ts W (.Assign [.Name x pos'] e pos) (sSet i F) := by
  refine ⟨fun pins s σ H E I ⟨ρ, ε, h, hH, hE, p⟩ => (ps_set hN hi hx he hs hf).run pins s σ H E I (tS_bind hH hE p fun ρ1 H1 x h1 dx _ e1 hH1 rx hE1 p1 => ?_)⟩
  split at p1 <;> first | exact p1.elim | skip
  exact p1 _ _ _ .refl hH1 (hE1.set rx)
theorem s_asg {tg : Expr} {sl : List Nat} {g : TF'} (he : E' X cls ts W e F) (hg : G' X cls ts tg sl g) (hs : swapsWithSole [tg] e pos.line X.env = pure false := by rfl) (hw : swappedStores [tg] e X.env = pure none := by rfl)
    (h1 : (assignEach [tg] X.env).map (·.2) = [assign tg X.env] := by rfl) : S' X cls ts W (.Assign [tg] e pos) (sAsg F g) := by
  refine ⟨fun pins s σ H E I ⟨ρ, ε, h, hH, hE, p⟩ => (ps_asg he hg hs hw h1).run pins s σ H E I (tS_bind hH hE p fun ρ1 H1 x h1 dx _ e1 hH1 rx hE1 p1 => ?_)⟩
  split at p1 <;> first | exact p1.elim | skip
  rename_i ε1 q
  exact ⟨ρ1, ε, h1, dx, ε1, hH1, hE1, rx, q, fun σ' hE' _ => p1 _ _ _ .refl hH1 hE'⟩
theorem s_if (hc : T' X cls ts W c Ta) (ha : Ss' X cls ts W body S1) (hb : Ss' X cls ts W orelse S2) : S' X cls ts W (.If c body orelse pos) (sIf Ta S1 S2) := by
  refine ⟨fun pins s σ H E I ⟨ρ, ε, h, hH, hE, p⟩ => (ps_if hc ha hb).run pins s σ H E I (tS_bind hH hE p fun ρ1 H1 x h1 dx _ e1 hH1 rx hE1 p1 => ?_)⟩
  cases rx
  cases x with
  | true => exact ⟨_, _, _, hH1, hE1, p1⟩
  | false => exact ⟨_, _, _, hH1, hE1, p1⟩
theorem s_put {o i : Expr} {tpos : Pos} {Fo Fi : EF} (he : E' X cls ts W e F) (ho : E' X cls ts W o Fo) (hi : E' X cls ts W i Fi)
    (ha : ∀ v, assign (.Subscript o i tpos) X.env v = (do let a ← holding [v] (eval o X.env); let b ← holding [v, a] (eval i X.env); standAt tpos; holding [v, a, b] (setItem a b v); release [v, a, b] []) := by intro _; rfl)
    (hs : swapsWithSole [.Subscript o i tpos] e pos.line X.env = pure false := by rfl) (hw : swappedStores [.Subscript o i tpos] e X.env = pure none := by rfl)
    (h1 : (assignEach [.Subscript o i tpos] X.env).map (·.2) = [assign (.Subscript o i tpos) X.env] := by rfl) : S' X cls ts W (.Assign [.Subscript o i tpos] e pos) (sPut F Fo Fi) := by
  refine ⟨fun pins s σ H E I ⟨ρ, ε, h, hH, hE, p⟩ => (ps_asg he (pg_sub ho hi set_list ha) hs hw h1).run pins s σ H E I (tS_bind hH hE p fun ρ1 H1 x h1 dx _ e1 hH1 rx hE1 p1 =>
    tS_bind hH1 hE1 p1 fun ρ2 H2 y h2 dy _ e2 hH2 ry hE2 p2 => tS_bind hH2 hE2 p2 fun ρ3 H3 z h3 dz _ e3 hH3 rz hE3 p3 => ?_)⟩
  split at p3 <;> first | exact p3.elim | skip
  rename_i h4 q
  unfold putL at q
  split at q <;> first | (cases q; done) | skip
  split at q <;> first | (cases q; done) | skip
  rename_i xs e4
  split at q <;> cases q
  rename_i j ej
  cases rz
  cases ry with
  | ref q1 =>
    have q1 := e3.get q1
    obtain ⟨us, k1, r1⟩ := hH3.lst q1 e4
    have rx := rx.mono (e2.trans e3)
    have eP := ext_put (u := .lst (us.set j x)) (List.mem_of_getElem? q1) hH3
    refine ⟨_, us, _, j, rfl, rfl, k1, by rw [r1.length]; exact ej, p3 _ _ _ eP (hH3.put q1 ⟨_, upd_same, (RVs.set rx j r1).mono eP⟩) (hE3.mono eP)⟩
theorem s_par2 {i j : Nat} {x y : Str} {px py pt : Pos} {kt k2 pt2} (hc : X.calm = true) (hN : X.N.Nodup) (hi : X.N[i]? = some x) (hj : X.N[j]? = some y) (hij : i ≠ j)
    (hx : X.env.scope.names.lookup x = some .local) (hy : X.env.scope.names.lookup y = some .local) (ha : E' X cls ts W a Fa) (hb : E' X cls ts W b Fb)
    (hw : swappedStores [.Tuple [.Name x px, .Name y py] kt pt] (.Tuple [a, b] k2 pt2) X.env = pure (some [x, y])) (hs : swapsWithSole [.Tuple [.Name x px, .Name y py] kt pt] (.Tuple [a, b] k2 pt2) pos.line X.env = pure false := by rfl)
    (h1 : starEach [a, b] X.env = (false, eval a X.env) :: starEach [b] X.env := by rfl) (h2 : starEach [b] X.env = (false, eval b X.env) :: starEach [] X.env := by rfl) :
    S' X cls ts W (.Assign [.Tuple [.Name x px, .Name y py] kt pt] (.Tuple [a, b] k2 pt2) pos) (sPar2 i j Fa Fb) := by
  refine ⟨fun pins s σ H E I ⟨ρ, ε, h, hH, hE, p⟩ => (ps_par hc hN hi hj hij hx hy (pa_cons ha (pa_cons hb pa_nil h2) h1) hw hs).run pins s σ H E I (tS_bind hH hE p fun ρ1 H1 x h1 dx _ e1 hH1 rx hE1 p1 =>
    tS_bind hH1 hE1 p1 fun ρ2 H2 y h2 dy _ e2 hH2 ry hE2 p2 => ?_)⟩
  split at p2 <;> first | exact p2.elim | skip
  exact ⟨x, y, rfl, p2 _ _ _ .refl hH2 ((hE2.set (rx.mono e2)).set ry)⟩
theorem s_par3 {i j k : Nat} {x y z : Str} {px py pz pt : Pos} {kt k2 pt2} (hc : X.calm = true) (hN : X.N.Nodup) (hi : X.N[i]? = some x) (hj : X.N[j]? = some y) (hk : X.N[k]? = some z) (hij : i ≠ j) (hik : i ≠ k) (hjk : j ≠ k)
    (hx : X.env.scope.names.lookup x = some .local) (hy : X.env.scope.names.lookup y = some .local) (hz : X.env.scope.names.lookup z = some .local) (ha : E' X cls ts W a Fa) (hb : E' X cls ts W b Fb) (hcc : E' X cls ts W c Fc)
    (hw : swappedStores [.Tuple [.Name x px, .Name y py, .Name z pz] kt pt] (.Tuple [a, b, c] k2 pt2) X.env = pure (some [x, y, z])) (hs : swapsWithSole [.Tuple [.Name x px, .Name y py, .Name z pz] kt pt] (.Tuple [a, b, c] k2 pt2) pos.line X.env = pure false := by rfl)
    (h1 : starEach [a, b, c] X.env = (false, eval a X.env) :: starEach [b, c] X.env := by rfl) (h2 : starEach [b, c] X.env = (false, eval b X.env) :: starEach [c] X.env := by rfl) (h3 : starEach [c] X.env = (false, eval c X.env) :: starEach [] X.env := by rfl) :
    S' X cls ts W (.Assign [.Tuple [.Name x px, .Name y py, .Name z pz] kt pt] (.Tuple [a, b, c] k2 pt2) pos) (sPar3 i j k Fa Fb Fc) := by
  refine ⟨fun pins s σ H E I ⟨ρ, ε, h, hH, hE, p⟩ => (ps_par3 hc hN hi hj hk hij hik hjk hx hy hz (pa_cons ha (pa_cons hb (pa_cons hcc pa_nil h3) h2) h1) hw hs).run pins s σ H E I (tS_bind hH hE p fun ρ1 H1 x h1 dx _ e1 hH1 rx hE1 p1 =>
    tS_bind hH1 hE1 p1 fun ρ2 H2 y h2 dy _ e2 hH2 ry hE2 p2 => tS_bind hH2 hE2 p2 fun ρ3 H3 z h3 dz _ e3 hH3 rz hE3 p3 => ?_)⟩
  split at p3 <;> first | exact p3.elim | skip
  exact ⟨x, y, z, rfl, p3 _ _ _ .refl hH3 (((hE3.set (rx.mono (e2.trans e3))).set (ry.mono e3)).set rz)⟩
theorem s_for {iter tg : Expr} {iF : IF} {sl : List Nat} {g : TF'} (hp : PassesOwn (model X.prog X.w) X.A X.env X.xe) (hc : X.calm = true) (hi : I' X cls ts W tg iter iF) (hg : G' X cls ts tg sl g) (hb : Ss' X cls ts W body B)
    (hs : ∀ x, foldedSetIterable iter X.env x = pure x := by intro _; rfl) : S' X cls ts W (.For tg iter body [] pos) (sFor iF g B) := by
  refine ⟨fun pins s σ H E I ⟨ρ, ε, h, hH, hE, p⟩ => (ps_for hp hc hi hg hb hs).run pins s σ H E I (tS_bind hH hE p fun ρ1 H1 J h1 it _ e1 hH1 rit hE1 p1 => ?_)⟩
  refine ⟨fun i m σ' H' => m = it.len - i ∧ i ≤ it.len ∧ ∃ ρ2 ε2 h2, Ext ts ρ1 ρ2 H1 H' ∧ RH X.K cls ts ρ2 H' h2 ∧ RE X.K ρ2 H' σ' ε2 ∧ PostS X.K cls ts W ρ2 H' (forGo it g B m i ε2 h2) E,
    ⟨it.len, by simp, Nat.zero_le _, _, _, _, .refl, hH1, hE1, p1⟩, ?_⟩
  rintro i m σ' H' ⟨em, hi', ρ2, ε2, h2, e2, hH2, hE2, q⟩
  by_cases hlt : i < it.len
  · obtain ⟨k, rfl⟩ : ∃ k, m = k + 1 := ⟨m - 1, by omega⟩
    simp only [forGo] at q
    split at q <;> first | exact q.elim | skip
    rename_i d qi
    obtain ⟨go, yl⟩ := rit.go ρ2 H' h2 i d e2 hH2 hlt qi
    refine .inr ⟨go, fun σ3 H3 => ∃ ρ3 ε3 h3, Ext ts ρ1 ρ3 H1 H3 ∧ RH X.K cls ts ρ3 H3 h3 ∧ RE X.K ρ3 H3 σ3 ε3 ∧ PostS X.K cls ts W ρ3 H3 (forGo it g B k (i + 1) ε3 h3) E, fun σ3 H3 z => ⟨k, by omega, by omega, by omega, z⟩, fun x H'' y => ?_⟩
    obtain ⟨e3, hH3, rx⟩ := yl x H'' y
    have q := q.ext e3
    split at q <;> first | exact q.elim | skip
    rename_i ε1 qg
    refine ⟨ρ2, ε2, h2, d, ε1, hH3, hE2.mono e3, rx, qg, fun σ4 hE4 _ => ⟨ρ2, ε1, h2, hH3, hE4, ?_⟩⟩
    cases z : B ε1 h2 with
    | nx ε5 h5 =>
      rw [z] at q
      exact fun ρ' H5 σ5 e5 hH5 hE5 => ⟨ρ', ε5, h5, e2.trans (e3.trans e5), hH5, hE5, q.ext e5⟩
    | cnt ε5 h5 =>
      rw [z] at q
      exact fun ρ' H5 σ5 e5 hH5 hE5 => ⟨ρ', ε5, h5, e2.trans (e3.trans e5), hH5, hE5, q.ext e5⟩
    | _ =>
      rw [z] at q
      exact q
  · have ei : i = it.len := by omega
    subst ei
    have em0 : m = 0 := by omega
    subst em0
    simp only [forGo] at q
    split at q <;> first | exact q.elim | skip
    rename_i c
    exact .inl ⟨rit.stop ρ2 H' h2 e2 hH2 c, q _ _ _ .refl hH2 hE2⟩
theorem s_while {fuel : Nat} (hp : PassesOwn (model X.prog X.w) X.A X.env X.xe) (hc : T' X cls ts W c Ta) (hb : Ss' X cls ts W body B) : S' X cls ts W (.While c body [] pos) (sWhile fuel Ta B) := by
  refine ⟨fun pins s σ H E I ⟨ρ, ε, h, hH, hE, p⟩ => (ps_while hp hc hb).run pins s σ H E I ?_⟩
  refine ⟨fun m σ' H' => ∃ ρ2 ε2 h2, RH X.K cls ts ρ2 H' h2 ∧ RE X.K ρ2 H' σ' ε2 ∧ PostS X.K cls ts W ρ2 H' (whileGo Ta B m ε2 h2) E, ⟨fuel, ρ, ε, h, hH, hE, p⟩, ?_⟩
  rintro m σ' H' ⟨ρ2, ε2, h2, hH2, hE2, q⟩
  cases m with
  | zero => exact q.elim
  | succ m =>
    simp only [whileGo] at q
    refine tS_bind hH2 hE2 q fun ρ3 H3 b h3 b' _ e3 hH3 rb hE3 q3 => ?_
    cases rb
    cases b with
    | false => exact iteF (q3 _ _ _ .refl hH3 hE3)
    | true =>
      rw [if_pos rfl] at q3
      refine iteT ⟨fun σ4 H4 => ∃ ρ4 ε4 h4, RH X.K cls ts ρ4 H4 h4 ∧ RE X.K ρ4 H4 σ4 ε4 ∧ PostS X.K cls ts W ρ4 H4 (whileGo Ta B m ε4 h4) E, fun σ4 H4 z => ⟨m, Nat.lt_succ_self _, z⟩, ρ3, ε2, h3, hH3, hE3, ?_⟩
      cases z : B ε2 h3 with
      | nx ε5 h5 =>
        rw [z] at q3
        exact fun ρ' H5 σ5 e5 hH5 hE5 => ⟨ρ', ε5, h5, hH5, hE5, q3.ext e5⟩
      | cnt ε5 h5 =>
        rw [z] at q3
        exact fun ρ' H5 σ5 e5 hH5 hE5 => ⟨ρ', ε5, h5, hH5, hE5, q3.ext e5⟩
      | _ =>
        rw [z] at q3
        exact q3
theorem s_setLc {i : Nat} {y : Str} {py : Pos} {elt tg iter : Expr} {ifs : List Expr} {scope : Scope} {own : List (Str × Nat)} {pos spos : Pos} {iF : IF} {g : TF'} {t : TF} {F : EF} {sl : List Nat}
    (hc : X.calm = true) (hN : X.N.Nodup) (hy : X.N[i]? = some y) (hyl : X.env.scope.names.lookup y = some .local)
    (hsw : swapsWith (.ListComp elt [⟨tg, iter, ifs, 0⟩] scope pos) (some (.Name y py)) spos.line X.env = pure true) (hi : I' X cls ts W tg iter iF) (ok : BlkOk X.N X.env.scope scope own) (hsl : ∀ i ∈ sl, i ∈ own.map (·.2))
    (hg : ∀ (s : Shared) (H : Hp) (C : Addr) (cl : List (Str × Addr)) (fp : List Addr), G' (X.blk s H scope (compEnvC scope cl C X.env) fp) cls ts tg sl g)
    (ht : ∀ (s : Shared) (H : Hp) (C : Addr) (cl : List (Str × Addr)) (fp : List Addr), Ts' (X.blk s H scope (compEnvC scope cl C X.env) fp) cls ts W0 ifs t)
    (he : ∀ (s : Shared) (H : Hp) (C : Addr) (cl : List (Str × Addr)) (fp : List Addr), E' (X.blk s H scope (compEnvC scope cl C X.env) fp) cls ts W0 elt F) (hs : ∀ x, foldedSetIterable iter X.env x = pure x := by intro _; rfl) :
    S' X cls ts W (.Assign [.Name y py] (.ListComp elt [⟨tg, iter, ifs, 0⟩] scope pos) spos) (sSet i (cComp iF g t F (own.map (·.2)))) := by
  refine ⟨fun pins s σ H E I ⟨ρ, ε, h, hH, hE, p⟩ => (ps_setLc (g := tTg X.K cls ts sl g) (tt := tT X.K cls ts W0 t) (te := tE X.K cls ts W0 F) hc hN hy hyl hsw hi ok hg ht he hs).run pins s σ H E I ?_⟩
  show tLc _ _ _ _ _ σ H (fun x H1 => gName i x σ H1 E.nx)
  refine comp_ok hsl (tS_bind hH hE p fun ρ1 H1 x h1 dx _ e1 hH1 rx hE1 p1 => ?_)
  split at p1 <;> first | exact p1.elim | skip
  exact p1 _ _ _ .refl hH1 (hE1.set rx)
end
end Mi

namespace Mi
open L2 PySem PySem.Spec PyProof.Rows

/-! ### defs -/
/-- what a def does with its arguments -/
abbrev FN := List D → AH → Res D
def cFn (c : FN) (A : AF) : EF := fun ε h => (A ε h).bind c
def cFnK (c : FN) (g : List D → List D → List D) (A B : AF) : EF := fun ε h => (A ε h).bind fun ds h1 => (B ε h1).bind fun es h2 => c (g ds es) h2
/-- a def, run where no guard is on -/
structure FnG (P : Program) (w : World) (K : PySem.W.Frag) (mg : Str → Option Value) (base : Heap) (cls ts : List Addr) (k : Nat) (f : Addr) (fd : FuncData) (ps : List Str) (c : FN) : Prop where
  len : ∀ ds h, c ds h ≠ .stuck → ds.length = ps.length
  run : ∀ (A : Around) (outer : List Env) (s : Shared) (H : Hp) (args : Args) (us : List Value) (vs : List V) (Q : VK) (E : XK), A.guards = some [] → Room k A → Env0 P w K mg base A outer s H → BindsTo s fd args (ps.zip us) → Vals vs us →
    (∃ ρ h ds, RH K cls ts ρ H h ∧ RVs K ρ H vs ds ∧ Post K cls ts (relD K) E ρ H (c ds h) Q) → codeAny (model P w) A (.call (.ref f) args) (CR (L2.CX P w) outer P w H s Q E) s
theorem Post.not_stuck {α β : Type} {K : PySem.W.Frag} {cls ts ρ : List Addr} {H : Hp} {rel : List Addr → Hp → β → α → Prop} {W : XK} {r : Res α} {Q : β → Hp → Prop} (p : Post K cls ts rel W ρ H r Q) : r ≠ .stuck := fun e => by
  rw [e] at p
  exact p
/-- what nothing is known of -/
theorem FnG.zero {P : Program} {w : World} {K : PySem.W.Frag} {mg : Str → Option Value} {base : Heap} {cls ts : List Addr} {k : Nat} {f : Addr} {fd : FuncData} {ps : List Str} : FnG P w K mg base cls ts k f fd ps (fun _ _ => .stuck) :=
  ⟨fun _ _ h => absurd rfl h, fun _ _ _ _ _ _ _ _ _ _ _ _ _ _ ⟨_, _, _, _, _, p⟩ => p.elim⟩
theorem FnG.mono {P : Program} {w : World} {K : PySem.W.Frag} {mg : Str → Option Value} {base : Heap} {cls ts : List Addr} {j k : Nat} {f : Addr} {fd : FuncData} {ps : List Str} {c : FN} (F : FnG P w K mg base cls ts j f fd ps c) (h : j ≤ k) : FnG P w K mg base cls ts k f fd ps c :=
  ⟨F.len, fun A outer s H args us vs Q E hg hr => F.run A outer s H args us vs Q E hg (hr.mono h)⟩

section
variable {X : Cx} {W : WX} {cls ts : List Addr} {k : Nat} {f : Addr} {fd : FuncData} {ps ks : List Str} {c : FN} {x : Str} {p pos : Pos} {e : Expr} {es : List Expr} {kws : List Keyword} {A B : AF}
theorem run_g {pins : List (Addr × Obj)} {s : Shared} {σ : L2.St} {H : Hp} {Q : VK} {us : List Value} {kw : List (Str × Value)} {zs : List Value} {vs : List V} {ρ : List Addr} {h : AH} {ds : List D} (F : FnG X.prog X.w X.K X.mg X.base cls ts k f fd ps c) (hg : X.A.guards = some []) (hr : Room k X.A) (tk : Takes X W)
    (hb : zs.length = ps.length → BindsTo s fd ⟨us, kw⟩ (ps.zip zs)) (I : Inv X pins σ H s) (r : Vals vs zs) (hH : RH X.K cls ts ρ H h) (rv : RVs X.K ρ H vs ds) (q : Post X.K cls ts (relD X.K) (fun c dd H' => W c dd σ H') ρ H (c ds h) Q) :
    wpAny (model X.prog X.w) X.A (call (.ref f) us kw) (EP X pins σ Q) X.xe s := by
  have hl : zs.length = ps.length := by rw [← r.length, rv.length]; exact F.len _ _ q.not_stuck
  refine wpAny_call (codeAny_mono (F.run X.A X.stack s H ⟨us, kw⟩ zs vs Q (fun c dd H' => W c dd σ H') hg hr I.env0 (hb hl) r ⟨ρ, h, ds, hH, rv, q⟩) fun o s' z => ?_)
  cases o with
  | error u => exact tk u s' (XE.of_call I (fun _ _ _ y => y) z)
  | ok fl => cases fl <;> first | exact I.after z | exact z.elim
/-- the arguments are there, what is behind is wanted -/
def Rdy (K : PySem.W.Frag) (cls ts : List Addr) (c : FN) (W : XK) (Q : VK) (vs : List V) (H : Hp) : Prop := ∃ ρ h ds, RH K cls ts ρ H h ∧ RVs K ρ H vs ds ∧ Post K cls ts (relD K) W ρ H (c ds h) Q
/-- f(e, ..) -/
theorem e_call (F : FnG X.prog X.w X.K X.mg X.base cls ts k f fd ps c) (hgu : X.A.guards = some []) (hr : Room k X.A) (tk : Takes X W) (hg : Gl X x) (hm : X.mg x = some (.ref f)) (hk : PySem.W.keepIn X.K (.ref f) = true) (hb : Binds X.K fd ps [])
    (ha : A' X cls ts W (e :: es) A) (hdb : (x == ("__debug__" : Str)) = false := by decide) (he : starEach (e :: es) X.env = (false, eval e X.env) :: starEach es X.env := by rfl) (hpl : (backTo pos (starEach es X.env)).any (·.1) = false := by rfl) :
    E' X cls ts W (.Call (.Name x p) (e :: es) [] pos) (cFn c A) := by
  refine ⟨fun pins s σ H Q I ⟨ρ, ε, h, hH, hE, q⟩ => ?_⟩
  have q1 : tA X.K cls ts W A σ H (Rdy X.K cls ts c (fun u dd H' => W u dd σ H') Q) := tG_bind hH hE q fun ρ1 H1 vs h1 ds _ e1 hH1 rv hE1 p1 => ⟨ρ1, h1, ds, hH1, rv, p1⟩
  refine wpAny_Call_Name_kw (ld_glob I hg hm ?go hdb)
  refine PySem.W.callWith_K (h₀ := X.base) I.ok.mod.kin hk (thn (ha.run pos pins s σ H _ I q1) fun us s1 ⟨vs, H1, I1, r, ρ1, h1, ds, hH1, rv, p1⟩ => ⟨I1.kIn, ?_⟩) he hpl
  exact run_g F hgu hr tk (fun hl => by have z := hb s1 us I1.kIn (by rw [List.append_nil]; exact hl); rw [List.append_nil] at z; exact z) I1 r hH1 rv p1
/-- f() -/
theorem e_call0 (F : FnG X.prog X.w X.K X.mg X.base cls ts k f fd ps c) (hgu : X.A.guards = some []) (hr : Room k X.A) (tk : Takes X W) (hg : Gl X x) (hm : X.mg x = some (.ref f)) (hk : PySem.W.keepIn X.K (.ref f) = true) (hb : Binds X.K fd ps [])
    (hdb : (x == ("__debug__" : Str)) = false := by decide) : E' X cls ts W (.Call (.Name x p) [] [] pos) (cFn c aNil) := by
  refine ⟨fun pins s σ H Q I ⟨ρ, ε, h, hH, hE, q⟩ => ?_⟩
  refine wpAny_Call_Name_kw (ld_glob I hg hm ?go hdb)
  exact PySem.W.callWith_K0 I.kIn hk (run_g (us := []) (zs := []) F hgu hr tk (fun hl => hb s [] I.kIn hl) I .nil hH .nil q)
/-- f(k = e, ..) and f(e, .., k = e) -/
theorem e_callK {g : List Value → List Value → List Value} {gV : List V → List V → List V} {gD : List D → List D → List D} {tk : TA} (F : FnG X.prog X.w X.K X.mg X.base cls ts k f fd ps c) (hgu : X.A.guards = some []) (hr : Room k X.A) (tx : Takes X W) (hg : Gl X x) (hm : X.mg x = some (.ref f))
    (hk : PySem.W.keepIn X.K (.ref f) = true) (hb : KBinds X.K fd ps ks g gV) (hgD : ∀ (ρ : List Addr) (H : Hp) (vs zs : List V) (ds es : List D), RVs X.K ρ H vs ds → RVs X.K ρ H zs es → RVs X.K ρ H (gV vs zs) (gD ds es))
    (ha : A' X cls ts W (e :: es) A) (hkw : PK X kws (tA X.K cls ts W B)) (hall : (backToKw pos (keywordEach kws X.env)).all (·.1.isSome) = true := by rfl) (hks : (backToKw pos (keywordEach kws X.env)).filterMap (·.1) = ks := by rfl)
    (hdb : (x == ("__debug__" : Str)) = false := by decide) (he : starEach (e :: es) X.env = (false, eval e X.env) :: starEach es X.env := by rfl) (hpl : ((backTo pos (starEach (e :: es) X.env)).any (·.1) || (backToKw pos (keywordEach kws X.env)).any (·.1.isNone)) = false := by rfl) :
    E' X cls ts W (.Call (.Name x p) (e :: es) kws pos) (cFnK c gD A B) := by
  refine ⟨fun pins s σ H Q I ⟨ρ, ε, h, hH, hE, q⟩ => ?_⟩
  have q1 : tA X.K cls ts W A σ H fun vs H1 => tA X.K cls ts W B σ H1 fun zs H2 => Rdy X.K cls ts c (fun u dd H' => W u dd σ H') Q (gV vs zs) H2 := tG_bind hH hE q fun ρ1 H1 vs h1 ds _ e1 hH1 rv hE1 p1 =>
    tG_bind hH1 hE1 p1 fun ρ2 H2 zs h2 es _ e2 hH2 rz hE2 p2 => ⟨ρ2, h2, gD ds es, hH2, hgD _ _ _ _ _ _ (rv.mono e2) rz, p2⟩
  refine wpAny_Call_Name_kw (ld_glob I hg hm ?go hdb)
  refine PySem.W.callWith_KW (h₀ := X.base) I.ok.mod.kin hk hall (thn (ha.run pos pins s σ H _ I q1) fun us s1 ⟨vs, H1, I1, r, y⟩ => ?_) hpl he
  refine thn (hkw.run pos pins s1 σ H1 _ I1 y) fun ws s2 ⟨zs, H2, I2, rz, ρ2, h2, ds, hH2, rv, p2⟩ => ⟨I2.kIn, ?_⟩
  rw [hks]
  exact run_g F hgu hr tx (fun hl => hb.to s2 us ws I2.kIn hl) I2 (hb.rel r rz) hH2 rv p2
theorem k_nil : PK X [] (tA X.K cls ts W aNil) := ⟨fun pos pins s σ H Q I ⟨ρ, ε, h, hH, hE, q⟩ => (pk_nil (X := X)).run pos pins s σ H Q I (q _ _ _ .refl hH .nil)⟩
theorem k_cons {nm : Option Str} {kpos : Pos} {F : EF} (ha : E' X cls ts W e F) (hr : PK X kws (tA X.K cls ts W A)) : PK X (⟨nm, e, kpos⟩ :: kws) (tA X.K cls ts W (aCons F A)) :=
  ⟨fun pos pins s σ H Q I ⟨ρ, ε, h, hH, hE, q⟩ => (pk_cons ha hr).run pos pins s σ H Q I (tG_bind hH hE q fun ρ1 H1 x h1 dx _ e1 hH1 rx hE1 p1 => tG_bind hH1 hE1 p1 fun ρ2 H2 y h2 dy _ e2 hH2 ry hE2 p2 => p2 _ _ _ .refl hH2 (.cons (rx.mono e2) ry))⟩
end

/-- a def's body, run at its arguments -/
def runB (np nN : Nat) (B : SF) : FN := fun ds h => if ds.length = np then match B (ds.map some ++ List.replicate (nN - np) none) h with
    | .nx _ h' => .ok .non h'
    | .ret d h' => .ok d h'
    | .exc x _ h' => .exc x h'
    | _ => .stuck
  else .stuck
theorem RE.start {K : PySem.W.Frag} {ρ : List Addr} {H : Hp} {N : List Str} {vs : List V} {ds : List D} {np : Nat} (r : RVs K ρ H vs ds) (hn : ds.length = np) : RE K ρ H (L2.start N vs) (ds.map some ++ List.replicate (N.length - np) none) := by
  subst hn
  unfold L2.start
  refine ⟨by rw [List.length_append, List.length_append, List.length_map, List.length_map, List.length_replicate, List.length_replicate, r.length], fun i d q => ?_⟩
  by_cases hi : i < ds.length
  · rw [List.getElem?_append_left (by rw [List.length_map]; exact hi), List.getElem?_map] at q
    cases z : ds[i]? with
    | none => rw [z] at q; cases q
    | some d' =>
      rw [z] at q
      cases q
      obtain ⟨v, e, rv⟩ := r.get z
      refine ⟨v, ?_, rv⟩
      rw [List.getElem?_append_left (by rw [List.length_map, r.length]; exact hi), List.getElem?_map, e]
      rfl
  · rw [List.getElem?_append_right (by rw [List.length_map]; omega), List.getElem?_replicate] at q
    split at q <;> cases q
/-- a def by its body -/
theorem FnG.of {P : Program} {w : World} {K : PySem.W.Frag} {mg : Str → Option Value} {base : Heap} {cls ts : List Addr} {k : Nat} {f : Addr} {name qual : Str} {params : Arguments} {body : List Stmt} {scope : Scope} {dV kV doc pm cdv ct oc : Value} {an od : Option Addr}
    {osl : Array (Option Value)} {N ps : List Str} {B : SF} (lk : K.lookup f = some ⟨oc, od, .func (PySem.W.fnOf name qual params body scope dV kV doc pm an cdv ct), osl⟩) (hcd : PySem.W.codeIn K cdv qual = true) (S : FnScope N ps scope)
    (hbody : ∀ (A : Around) (outer : List Env) (s : Shared) (H : Hp) (E : XK), (A.deeper (envOfC qual scope s.heap.objs.size f cdv)).guards = some [] → Room k (A.deeper (envOfC qual scope s.heap.objs.size f cdv)) →
      Takes (cxOf (L2.CX P w) P w K mg base N qual scope f cdv A outer s H E) (fun c d _ H => E c d H) → Ss' (cxOf (L2.CX P w) P w K mg base N qual scope f cdv A outer s H E) cls ts (fun c d _ H => E c d H) body B) :
    FnG P w K mg base cls ts (k + 1) f (PySem.W.fnOf name qual params body scope dV kV doc pm an cdv ct) ps (runB ps.length N.length B) := by
  refine ⟨fun ds h q => ?_, fun A outer s H args us vs Q E hg hr e0 hb r ⟨ρ, h, ds, hH, rv, p⟩ => ?_⟩
  · unfold runB at q
    split at q
    · rename_i e
      exact e
    · exact absurd rfl q
  · unfold runB at p
    split at p
    · rename_i hl
      have bk : ∀ b o, base.get? b = some o → s.heap.get? b = some o := fun b o e => (e0.bs b o e).1
      have KX := e0.mod.kin.keeps bk
      have hkind : ∀ y ∈ ps.zip us, scope.names.lookup y.1 = some .local ∨ (scope.names.lookup y.1 = some .cell ∧ ((cellsFrom (s.heap.objs.size + 1) scope.names []).lookup y.1).isSome = true) := by
        rintro ⟨n, v⟩ hy
        exact (S.par n (List.of_mem_zip hy).1).imp id fun q => ⟨q, PySem.W.cellsFrom_some _ _ _ (.inl q)⟩
      refine codeAny_call_function hr.depth (KX _ _ lk) rfl S.co S.gen rfl (PySem.W.codeRec_of KX hcd) (hb _ _ _ _ (wpAny_newFunctionEnv_cells S.kind hkind fun _ he s1 x => ?_))
      cases he
      refine ⟨(e0.mod.nolimit.keeps bk).keeps x.toInCall.keep, codeAny_func ?_⟩
      have I := inv_start (CX := L2.CX P w) (E := E) (N := N) (qual := qual) (cd := cdv) S hr.hd e0 (by rw [rv.length]; exact hl) r x
      have tk : Takes (cxOf (L2.CX P w) P w K mg base N qual scope f cdv A outer s H E) (fun c d _ H => E c d H) := takes_of rfl rfl rfl rfl
      have q : tS K cls ts (fun c d _ H => E c d H) B { nx := fun _ H' => Q .non H', rt := Q } (L2.start N vs) H := by
        refine ⟨ρ, _, h, hH, RE.start rv hl, ?_⟩
        cases z : B (ds.map some ++ List.replicate (N.length - ps.length) none) h with
        | nx ε h' =>
          rw [z] at p
          exact fun ρ' H' σ' e1 hH1 _ => p ρ' H' .non e1 hH1 .non
        | ret d h' =>
          rw [z] at p
          exact p
        | exc y ε h' =>
          rw [z] at p
          exact fun ρ' H' σ' c dd e1 hH1 _ rx => p ρ' H' c dd e1 hH1 rx
        | _ =>
          rw [z] at p
          exact p.elim
      refine wpAny_mono ((hbody A outer s H E hg (hr.deeper _) tk).run [] s1 _ H _ I q) (fun fl s' hs => ?_) fun u s' hs => hs
      have fin : ∀ {σ' : L2.St} {H' : Hp} {v : V} {u : Value}, Inv (cxOf (L2.CX P w) P w K mg base N qual scope f cdv A outer s H E) [] σ' H' s' → RelV v u → Q v H' → CE outer P w H s Q u s' :=
        fun {_ H' v _} J rv q => ⟨v, H', J.os, J.bare, J.base, J.hok, rv, q⟩
      cases fl with
      | ret u =>
        obtain ⟨v, σ2, H2, J, r2, q⟩ := hs
        exact fin J r2 q
      | next =>
        obtain ⟨σ', H', J, q⟩ := hs
        exact fin (u := Value.none) (v := .non) J rfl q
      | brk =>
        obtain ⟨_, _, _, q⟩ := hs
        exact q.elim
      | cont =>
        obtain ⟨_, _, _, q⟩ := hs
        exact q.elim
    · exact p.elim
end Mi

namespace Mi
open L2 PySem PySem.Spec PyProof.Rows

/-! ### all(a <= x <= b for x in text) -/
theorem elt_between {prog : Program} {w : World} {scope : Scope} {x a b : Str} {ja jb : Nat} {p1 p2 p3 p4 : Pos} (hk : scope.kind = .function) (hl : scope.names.lookup x = some .local) (hd : (x == ("__debug__" : Str)) = false := by decide)
    (hm : lastMarks [.LtE, .LtE] [.Name x p1, .Constant (.str b) jb p2] = false := by with_unfolding_all rfl) :
    GxR.EltP prog w scope x (.Compare (.Constant (.str a) ja p3) [.LtE, .LtE] [.Name x p1, .Constant (.str b) jb p2] p4) (fun c => !decide ([c] < a.cps.toList) && !decide (b.cps.toList < [c])) := by
  intro cenv A' E' c t s₂ m₂ hs hn hx
  refine Compare_chain (Calls.Constant_str ?_) hm
  refine chain_link (wpAny_Name (wpAny_loadName_local (by rw [hs]; exact hk) (show cenv.scope.names.lookup x = some .local by rw [hs]; exact hl) (hn.keeps fun _ _ e => e) hx ?_) hd)
  refine PySem.P.le_str (wpAny_truthy_bool ?_)
  show if (!decide (([c] : List Nat) < a.cps.toList)) = true then _ else _
  cases q : decide (([c] : List Nat) < a.cps.toList) with
  | true => exact ite_ff ⟨by show Value.bool (!true) = Value.bool (!decide (([c] : List Nat) < a.cps.toList) && _); rw [q]; rfl, GxR.keeps_tok _ _⟩
  | false =>
    refine ite_tt (chain_last (Calls.Constant_str (PySem.P.le_str ⟨?_, GxR.keeps_tok _ _⟩)))
    show Value.bool (!decide (b.cps.toList < ([c] : List Nat))) = Value.bool (!decide (([c] : List Nat) < a.cps.toList) && _)
    rw [q]
    rfl

/-! ### all(test for x in text) -/
def cAllS (pb : Nat → Bool) (F : EF) : EF := fun ε h => (F ε h).bind fun d h1 => match d with
  | .str a => .ok (.bl (a.cps.toList.all pb)) h1
  | _ => .stuck
section
variable {X : Cx} {W : WX} {cls ts ρ : List Addr} {K : PySem.W.Frag} {H H' : Hp} {h : AH} {P : Addr}
/-- a table has grown -/
theorem tabbed_ext (r : RH K cls ts ρ H h) (hP : P ∈ ts) (t : GxR.Tabbed P H H') : Ext ts ρ ρ H H' ∧ RH K cls ts ρ H' h := by
  obtain ⟨n0, ps, hp, _⟩ := r.tab P hP
  have e : Ext ts ρ ρ H H' := by
    refine ⟨List.prefix_refl _, fun _ h n => absurd h n, fun a o e _ n => ?_, fun a xs e => ?_, fun a o u e => ?_, fun a e => ?_⟩
    · rw [t.2 a fun z => n (by rw [z]; exact hP)]; exact e
    · rw [t.2 a fun z => by rw [z, hp] at e; cases e]; exact e
    · rw [t.2 a fun z => by rw [z, hp] at e; cases e]; exact e
    · by_cases z : a = P
      · obtain ⟨qs, y, _⟩ := t.1
        rw [z, y] at e
        cases e
      · rw [t.2 a z] at e
        exact e
  refine ⟨e, r.len, r.nd, fun n a o q1 q2 => (r.obj n a o q1 q2).mono e fun u y => ?_, fun Z hZ => ⟨(r.tab Z hZ).1, ?_⟩⟩
  · rw [t.2 a fun z => n0 (by rw [← z]; exact List.mem_of_getElem? q1)]; exact y
  · by_cases z : Z = P
    · rw [z]; exact t.1
    · obtain ⟨_, qs, y, k⟩ := r.tab Z hZ
      exact ⟨qs, by rw [t.2 Z z]; exact y, k⟩
theorem e_allS {c : Addr} {elt iter : Expr} {x : Str} {px p pos gpos : Pos} {scope : Scope} {pb : Nat → Bool} {F : EF} {k : Nat} (hr : Room k X.A) (hg : Gl X "all") (hm : X.mg "all" = none) (TB : GxR.TabB X.base X.mg c P) (hcode : X.env.code = .ref c) (hP : P ∈ ts)
    (S : GxR.GenS X.env scope x) (hi : E' X cls ts W iter F) (hel : GxR.EltP X.prog X.w scope x elt pb) (hs : ∀ v, genFold iter X.env v = pure v)
    (he : starEach [.GeneratorExp elt [⟨.Name x px, iter, [], 0⟩] scope gpos] X.env = (false, eval (.GeneratorExp elt [⟨.Name x px, iter, [], 0⟩] scope gpos) X.env) :: starEach [] X.env := by rfl) : E' X cls ts W (.Call (.Name "all" p) [.GeneratorExp elt [⟨.Name x px, iter, [], 0⟩] scope gpos] [] pos) (cAllS pb F) := by
  refine ⟨fun pins s σ H Q I ⟨ρ, ε, h, hH, hE, q⟩ => (GxR.pe_allS hr hg hm (by with_unfolding_all rfl) TB hcode S hi hel hs he).run pins s σ H Q I (tG_bind hH hE q fun ρ1 H1 v h1 d _ e1 hH1 rv hE1 p1 => ?_)⟩
  cases rv <;> first | exact p1.elim | skip
  rename_i _ a
  obtain ⟨_, hT⟩ := hH1.tab P hP
  refine ⟨_, rfl, hT, fun H2 t => ?_⟩
  obtain ⟨e2, hH2⟩ := tabbed_ext hH1 hP t
  exact p1 _ _ _ e2 hH2 (.bl _)
end
end Mi

namespace Mi
open L2 PySem PySem.Spec PyProof.Rows

/-! ### the end of a law: its def runs at the script -/
theorem RVs.ints {K : PySem.W.Frag} {ρ : List Addr} {H : Hp} : ∀ ns : List Int, RVs K ρ H (ns.map V.int) (ns.map D.int)
  | [] => .nil
  | n :: ns => .cons (.int n) (RVs.ints ns)
def tblO (ps : Array Value) : Obj := { cls := .none, data := .fields ps }
def lstO (vs : List Value) : Obj := { cls := .type "list", data := .seq vs.toArray }
section
variable {P : Program} {w : World} {K : PySem.W.Frag} {mg mb : Str → Option Value} {k : Nat} {fa a : Addr} {cls : List Addr} {cs : List (Addr × Addr)} {fd : FuncData} {x : Str} {c : FN} {s₁ : Shared} {vs : List Value} {ns : List Int}
/-- what is tracked: the tables, and the script where the text doesn't hold it -/
def scrH (K : PySem.W.Frag) (T : List Addr) (a : Addr) (vs : List Value) (ns : List Int) : Hp := fun b =>
  if b ∈ T then some (.tbl #[]) else if b = a ∧ (K.lookup a).isNone = true then some (.frz (lstO vs) (.lst (ns.map V.int))) else none
theorem scrH_or {T : List Addr} {b : Addr} {u : HO} (h : scrH K T a vs ns b = some u) : (b ∈ T ∧ u = .tbl #[]) ∨ (b = a ∧ K.lookup a = none ∧ u = .frz (lstO vs) (.lst (ns.map V.int))) := by
  unfold scrH at h
  split at h
  · rename_i m
    cases h
    exact .inl ⟨m, rfl⟩
  · split at h
    · rename_i m
      cases h
      exact .inr ⟨m.1, Option.isNone_iff_eq_none.mp m.2, rfl⟩
    · cases h
theorem law_callG (KX : K.In s₁.heap) (hns : s₁.heap.Ns mainGlobals mg) (hb : s₁.heap.Ns builtinsNs mb) (hbb : ∀ x : Str, x ≠ "__name__" → mb x = bootBuiltins x) (hlim : s₁.heap.NoLimit) (hg : s₁.gens = #[])
    (hT : ∀ p ∈ cs, s₁.heap.get? p.2 = some (tblO #[])) (nT : ∀ p ∈ cs, K.lookup p.2 = none) (C : ∀ p ∈ cs, PySem.W.CodeHd s₁.heap p.1 p.2)
    (hbm : ∃ (bm : Addr) (ob : Obj), mg "__builtins__" = some (.ref bm) ∧ bm ≠ builtinsNs ∧ s₁.heap.get? bm = some ob ∧ ob.cls = .type "module" ∧ ob.dict = some builtinsNs ∧ ob.data = .plain) (ha : s₁.heap.get? a = some (lstO vs)) (hi : IntsAre vs ns) (hl : ns.length ≤ sizeLine) (hr : Room k callerA)
    (F : ∀ base : Heap, K.In base → base.Ns mainGlobals mg → (∀ p ∈ cs, GxR.TabB base mg p.1 p.2) → FnG P w K mg base cls (cs.map (·.2)) k fa fd [x] c) (hbind : ∀ (s : Shared) (u : Value), BindsTo s fd ⟨[u], []⟩ [(x, u)])
    (hc : ∃ h', c [.rol (ns.map D.int)] [] = .ok (.bl true) h') : codeAny (model P w) callerA (.call (.ref fa) ⟨[.ref a], []⟩) (fun r s' => r = .ok (.ret (.bool true)) ∧ OldK s₁.heap s'.heap ∧ s'.os = s₁.os ∧ AllBare s'.gens) s₁ := by
  obtain ⟨H, eH⟩ : ∃ H, H = scrH K (cs.map (·.2)) a vs ns := ⟨_, rfl⟩
  have or : ∀ {b u}, H b = some u → (b ∈ cs.map (·.2) ∧ u = .tbl #[]) ∨ (b = a ∧ K.lookup a = none ∧ u = .frz (lstO vs) (.lst (ns.map V.int))) := fun h => by rw [eH] at h; exact scrH_or h
  have ofT : ∀ {b}, b ∈ cs.map (·.2) → ∃ p ∈ cs, b = p.2 := fun h => by
    obtain ⟨z, hz, e⟩ := List.mem_map.mp h
    exact ⟨z, hz, e.symm⟩
  have atT : ∀ p ∈ cs, H p.2 = some (.tbl #[]) := fun p hp => by
    rw [eH]
    exact if_pos (List.mem_map.mpr ⟨p, hp, rfl⟩)
  -- what is neither a list nor an empty table is not tracked
  have off : ∀ {b o}, s₁.heap.get? b = some o → (∀ us n, o.data ≠ .seq us n) → o.data ≠ .fields #[] → H b = none := fun {b o} e n1 n2 => by
    cases q : H b with
    | none => rfl
    | some u =>
      rcases or q with ⟨m, _⟩ | ⟨m, _, _⟩
      · obtain ⟨p, hp, rfl⟩ := ofT m
        rw [hT p hp] at e
        cases e
        exact absurd rfl n2
      · rw [m, ha] at e
        cases e
        exact absurd rfl (n1 _ _)
  have offD : ∀ {b o es ep}, s₁.heap.get? b = some o → o.data = .dict es ep → H b = none := fun e d => off e (fun _ _ z => by rw [d] at z; cases z) fun z => by rw [d] at z; cases z
  have nsK : ∀ {b m}, s₁.heap.Ns b m → (hidT s₁.heap H).Ns b m := fun ⟨o, es, ep, e, d, r⟩ => ⟨o, es, ep, hidT_get e (offD e d), d, r⟩
  have hK : K.In (hidT s₁.heap H) := fun b o e => hidT_get (KX b o e) (by
    cases q : H b with
    | none => rfl
    | some u =>
      rcases or q with ⟨m, _⟩ | ⟨m, n, _⟩
      · obtain ⟨p, hp, rfl⟩ := ofT m
        rw [nT p hp] at e
        cases e
      · rw [m, n] at e
        cases e)
  have hM : L2.Mod K mg (hidT s₁.heap H) := ⟨hK, nsK hns, ⟨mb, nsK hb, hbb⟩, by
    obtain ⟨mc, h1, h2⟩ := hlim
    exact ⟨mc, nsK h1, h2⟩⟩
  have TB : ∀ p ∈ cs, GxR.TabB (hidT s₁.heap H) mg p.1 p.2 := fun p hp => by
    refine ⟨?_, ?_, fun z => ?_⟩
    · obtain ⟨o, us, file, tf, flags, tg, inF, text, tt, e1, r1, r2, r3, rr⟩ := C p hp
      refine ⟨o, us, file, tf, flags, tg, inF, text, tt, hidT_get e1 (off e1 (fun _ _ z => by rw [r2] at z; cases z) fun z => ?_), r1, r2, r3, rr⟩
      rw [r2] at z
      cases z
      exact absurd r3 (by simp)
    · obtain ⟨a1, ob, b1, b2, b3, b4, b5, b6⟩ := hbm
      refine ⟨a1, ob, b1, b2, fun q => ?_, fun q => ?_, hidT_get b3 (off b3 (fun _ _ z => by rw [b6] at z; cases z) fun z => by rw [b6] at z; cases z), b4, b5, b6⟩
      · obtain ⟨ou, es, ep, e, hd, _⟩ := hns
        rw [← q, b3] at e
        cases e
        rw [b6] at hd
        cases hd
      · rw [q, hT p hp] at b3
        cases b3
        cases b6
    · obtain ⟨ou, es, ep, e, hd, _⟩ := hns
      rw [z, hT p hp] at e
      cases e
      cases hd
  have rv := vals_ints hi
  have hok : HOk P w H s₁.heap := fun b u z => by
    rcases or z with ⟨m, rfl⟩ | ⟨rfl, _, rfl⟩
    · obtain ⟨p, hp, rfl⟩ := ofT m
      exact hT p hp
    · exact ⟨ha, by rw [List.length_map]; exact hl, vs, 0, rv, ha⟩
  have hS : SqR K H a (ns.map V.int) := by
    cases q : K.lookup a with
    | some o =>
      have e := KX a o q
      rw [ha] at e
      cases e
      exact .inr ⟨_, vs.toArray, 0, q, rfl, rfl, rfl, by rw [List.size_toArray, hi.length]; exact hl, by simpa using rv⟩
    | none =>
      refine .inl ⟨lstO vs, ?_⟩
      rw [eH]
      unfold scrH
      rw [if_neg, if_pos ⟨rfl, by rw [q]; rfl⟩]
      intro m
      obtain ⟨p, hp, e⟩ := ofT m
      have := hT p hp
      rw [← e, ha] at this
      cases this
  have e0 : Env0 P w K mg (hidT s₁.heap H) callerA [] s₁ H := ⟨rfl, hM, fun b o e => of_hidT e, Nat.le_of_eq (hidT_size _ _), trivial, fun b hb => (nomatch hb), hok, .of_eq hg⟩
  have hH : RH K cls (cs.map (·.2)) [] H [] := ⟨rfl, List.nodup_nil, fun n b o e _ => (nomatch e), fun b hb => by
    obtain ⟨p, hp, rfl⟩ := ofT hb
    exact ⟨List.not_mem_nil, #[], atT p hp, by simp [TriplesOk]⟩⟩
  obtain ⟨h', hc⟩ := hc
  have run := (F _ hK (nsK hns) TB).run callerA [] s₁ H ⟨[.ref a], []⟩ [.ref a] [.ref a] (fun v _ => v = .bl true) (fun _ _ _ => False) rfl hr e0 (hbind s₁ (.ref a)) (.cons rfl .nil) ⟨[], [], _, hH, .cons (.rol hS (RVs.ints ns)) .nil, by
    rw [hc]
    intro ρ' H' v _ _ r
    cases r
    rfl⟩
  refine codeAny_mono run fun r s' z => ?_
  rcases r with e | fl
  · obtain ⟨_, _, _, _, _, _, _, _, _, _, _, _, bad⟩ := z
    exact bad.elim
  cases fl with
  | next => exact z.elim
  | brk => exact z.elim
  | cont => exact z.elim
  | ret u =>
    obtain ⟨v, H', os, bare, un, hok', r', q⟩ := z
    have q : v = .bl true := q
    subst q
    have r' : u = Value.bool true := r'
    subst r'
    have old : ∀ b o, s₁.heap.get? b = some o → (∃ p ∈ cs, b = p.2 ∧ ∃ more : Array Value, s'.heap.get? b = some (tblO more)) ∨ s'.heap.get? b = some o := fun b o e => by
      cases q : H b with
      | none => exact .inr (un.keep b o e q (fun z => nomatch z) (fun z => nomatch z))
      | some u =>
        rcases or q with ⟨m, rfl⟩ | ⟨rfl, _, rfl⟩
        · obtain ⟨p, hp, rfl⟩ := ofT m
          obtain ⟨more, y⟩ := un.tbls p.2 #[] q
          exact .inl ⟨p, hp, rfl, _, hok' p.2 _ y⟩
        · have y := un.frzs _ _ _ q
          have e1 := (hok' _ _ y).1
          rw [ha] at e
          cases e
          exact .inr e1
    refine And.intro rfl ⟨⟨fun b o e => ?_, fun b o e => ?_⟩, os, bare⟩
    · rcases old b o e with ⟨p, hp, rfl, more, y⟩ | y
      · have t := hT p hp
        rw [t] at e
        cases e
        exact .inr (.inl ⟨((C p hp).tab t).isCodeTable, rfl, #[], more, rfl, by rw [Array.empty_append]; exact y⟩)
      · exact .inl y
    · rcases old b o e with ⟨p, hp, rfl, more, y⟩ | y
      · exact ⟨_, y⟩
      · exact ⟨_, y⟩
end
/-- what is known of the law's def at the head's heap h -/
def LawG (l : PySem.W.OpenLaw) (w : World) (K : PySem.W.Frag) (k n : Nat) (x : Str) (mg : Str → Option Value) (fa : Addr) (h : Heap) : Prop :=
  ∃ (fd : FuncData) (cls : List Addr) (cs : List (Addr × Addr)) (c : FN), (∀ p ∈ cs, h.get? p.2 = some (tblO #[])) ∧ (∀ p ∈ cs, K.lookup p.2 = none) ∧ (∀ p ∈ cs, PySem.W.CodeHd h p.1 p.2) ∧ (∀ (s : Shared) (u : Value), BindsTo s fd ⟨[u], []⟩ [(x, u)]) ∧
    (∀ ns : List Int, ns.length ≤ n → (∀ z ∈ ns, Builtin.Int.intBits z ≤ 1048576) → ∃ h', c [.rol (ns.map D.int)] [] = .ok (.bl true) h') ∧
    ∀ base : Heap, K.In base → base.Ns mainGlobals mg → (∀ p ∈ cs, GxR.TabB base mg p.1 p.2) → FnG l.prog w K mg base cls (cs.map (·.2)) k fa fd [x] c
theorem walkG {l : PySem.W.OpenLaw} {n k : Nat} {q : Program} {loose : List Str} {XP : (Str → Option Value) → Heap → Prop} {YP : World → Heap → Prop} {d : DefRec} {K : Params → PySem.W.Frag} {x : Str}
    (hn : l.most = some n) (hn2 : n ≤ sizeLine) (hdf : d.params.defaults = []) (hr : Room k callerA) (hY : ∀ (w : World) (h : Heap), YP w h → (K w.params).In h) (F : ∀ (w : World) (mg mb : Str → Option Value) (mean : ExcName → Option Value) (fa : Addr) (h : Heap), Top q (PySem.W.looseW q loose) mean mg mb h → YP w h → (K w.params).In h → h.Ns mainGlobals mg → mg d.name = some (.ref fa) → LawG l w (K w.params) k n x mg fa h) : PySem.W.WalkO q loose XP YP l.row.toRowW d [] (fun f vs => PySem.call f vs) := by
  refine Att.attach_callB hn hdf fun w s₀ s₁ mg mb fa o pm cd doc a vs ns G Y _ _ _ hmg hobj hints hlen hbits hg => ?_
  obtain ⟨fd, cls, cs, c, hT, nT, C, hb, hsp, hF⟩ := F w mg mb _ fa _ G.T Y (hY w _ Y) G.T.g hmg
  exact law_callG (hY w _ Y) G.T.g G.T.b G.T.builtins G.T.nolimit hg hT nT C G.T.bmain hobj hints (Nat.le_trans hlen hn2) hr hF hb (hsp ns hlen hbits)
end Mi

namespace Mi
open L2 PySem PySem.Spec PyProof.Rows

/-! ### dicts that are written out: {}, {'k': e} -/
def cD0 : EF := fun _ h => .ok (.ref h.length) (h ++ [.dic []])
def cD1 (k : Str) (F : EF) : EF := fun ε h => (F ε (h ++ [.dic []])).bind fun d h2 => match h2[h.length]? with
  | some (.dic []) => .ok (.ref h.length) (h2.set h.length (.dic [(.inr k, d)]))
  | _ => .stuck
section
variable {X : Cx} {W : WX} {cls ts : List Addr} {e : Expr} {F : EF} {pos : Pos} {x : Str}
theorem e_d0 : E' X cls ts W (.Dict [] [] pos) cD0 := ⟨fun pins s σ H Q I ⟨ρ, ε, h, hH, hE, q⟩ => pe_dnewK.run pins s σ H Q I (post_newD hH .nil q)⟩
theorem e_d1 {k : Str} {j : Nat} {kp : Pos} (he : E' X cls ts W e F) : E' X cls ts W (.Dict [some (.Constant (.str k) j kp)] [e] pos) (cD1 k F) := by
  refine ⟨fun pins s σ H Q I ⟨ρ, ε, h, hH, hE, q⟩ => (pe_disp (pps_cons pe_str he pps_nil) rfl rfl (List.cons_ne_nil _ _) (Nat.le_of_ble_eq_true rfl)).run pins s σ H Q I fun p hp => ?_⟩
  have e1 := ext_new (ts := ts) (ρ := ρ) (u := .dK []) hp
  have hH1 : RH X.K cls ts (ρ ++ [p]) (upd H p (.dK [])) (h ++ [.dic []]) := hH.new hp ⟨[], upd_same, .nil⟩
  refine tG_bind hH1 (hE.mono e1) (q.ext e1) fun ρ2 H2 y h2 d _ e2 hH2 ry hE2 q2 => ?_
  split at q2 <;> first | exact q2.elim | skip
  rename_i ed
  have gp : ρ2[h.length]? = some p := e2.get (by rw [← hH.len]; exact get_new)
  obtain ⟨us, k1, r1⟩ := hH2.dic gp ed
  cases r1
  have eP := ext_put (u := .dK [(.inr k, y)]) (List.mem_of_getElem? gp) hH2
  refine ⟨k1, [(.inr k, y)], rfl, Nat.le_of_ble_eq_true rfl, ?_⟩
  exact q2 _ _ _ eP (hH2.put gp ⟨_, upd_same, .cons ⟨rfl, ry.mono eP⟩ .nil⟩) (.ref gp)

/-! ### -e; a built-in type as a value -/
def cNeg (F : EF) : EF := fun ε h => (F ε h).bind fun d h1 => match d with
  | .int i => .ok (.int (-i)) h1
  | _ => .stuck
theorem e_neg (he : E' X cls ts W e F) : E' X cls ts W (.UnaryOp .USub e pos) (cNeg F) := by
  refine ⟨fun pins s σ H Q I ⟨ρ, ε, h, hH, hE, q⟩ => (pe_un un_neg he).run pins s σ H Q I (tG_bind hH hE q fun ρ1 H1 x h1 d _ e1 hH1 rx hE1 p1 => ?_)⟩
  cases rx <;> first | exact p1.elim | skip
  exact ⟨_, rfl, post_val hH1 (.int _) p1⟩
theorem e_bty {n : String} (hg : Gl X x) (hm : X.mg x = none) (hv : bootBuiltins x = some (.type n)) (hn : x ≠ "__name__" := by decide) (hd : (x == ("__debug__" : Str)) = false := by decide) : E' X cls ts W (.Name x pos) (cC (.ty n)) :=
  e_c (fun _ _ _ => .ty n) (pe_bltn hg hm hv rfl hn hd)
end

/-! ### a def that is known -/
structure Kd (K : PySem.W.Frag) (mg : Str → Option Value) (x : Str) (st : Stmt) (f : Addr) (cdv : Value) (fd : FuncData) : Prop where
  ex : ∃ (oc : Value) (od : Option Addr) (kV doc pm : Value) (an : Option Addr) (ct : Value) (osl : Array (Option Value)), fd = PySem.W.fnOf x x (defArgs st) (defBody st) (defScope st) .none kV doc pm an cdv ct ∧ K.lookup f = some ⟨oc, od, .func fd, osl⟩
  kp : PySem.W.keepIn K (.ref f) = true ∧ PySem.W.codeIn K cdv x = true
  mg : mg x = some (.ref f)
/-- how a def without defaults binds -/
def Bd (x : Str) (st : Stmt) (ps : List Str) : Prop := ∀ (kV doc pm : Value) (an : Option Addr) (cdv ct : Value) (us : List Value), us.length = ps.length → bindArgs (PySem.W.fnOf x x (defArgs st) (defBody st) (defScope st) .none kV doc pm an cdv ct) ⟨us, []⟩ = pure (ps.zip us)
/-- how it binds where the last arguments are named: g puts them in their order -/
def BdK (x : Str) (st : Stmt) (ps ks : List Str) (m : Nat) (g : List Value → List Value → List Value) : Prop := ∀ (kV doc pm : Value) (an : Option Addr) (cdv ct : Value) (us ws : List Value), us.length = m → ws.length = ks.length →
  bindArgs (PySem.W.fnOf x x (defArgs st) (defBody st) (defScope st) .none kV doc pm an cdv ct) ⟨us, ks.zip ws⟩ = pure (ps.zip (g us ws))
/-- a def that may be called -/
structure Ca (P : Program) (w : World) (K : PySem.W.Frag) (mg : Str → Option Value) (base : Heap) (cls ts : List Addr) (k : Nat) (x : Str) (st : Stmt) (ps : List Str) (c : FN) : Prop where
  ex : ∃ f cdv fd, Kd K mg x st f cdv fd ∧ FnG P w K mg base cls ts k f fd ps c
theorem Kd.binds {K : PySem.W.Frag} {mg : Str → Option Value} {x : Str} {st : Stmt} {f : Addr} {cdv : Value} {fd : FuncData} {ps : List Str} (D : Kd K mg x st f cdv fd) (b : Bd x st ps) : Binds K fd ps [] := by
  obtain ⟨oc, od, kV, doc, pm, an, ct, osl, rfl, _⟩ := D.ex
  exact .all (b kV doc pm an cdv ct)
theorem Kd.bindsTo {K : PySem.W.Frag} {mg : Str → Option Value} {x : Str} {st : Stmt} {f : Addr} {cdv : Value} {fd : FuncData} {ps ks : List Str} {m : Nat} {g : List Value → List Value → List Value} {us ws : List Value} {s : Shared} (D : Kd K mg x st f cdv fd) (b : BdK x st ps ks m g) (h1 : us.length = m) (h2 : ws.length = ks.length) :
    BindsTo s fd ⟨us, ks.zip ws⟩ (ps.zip (g us ws)) := by
  obtain ⟨oc, od, kV, doc, pm, an, ct, osl, rfl, _⟩ := D.ex
  exact .of_eq (b kV doc pm an cdv ct us ws h1 h2)
/-- a def by its body -/
theorem Kd.fn {P : Program} {w : World} {K : PySem.W.Frag} {mg : Str → Option Value} {base : Heap} {cls ts : List Addr} {k : Nat} {x : Str} {st : Stmt} {f : Addr} {cdv : Value} {fd : FuncData} {N ps : List Str} {B : SF} (D : Kd K mg x st f cdv fd) (S : FnScope N ps (defScope st))
    (hbody : ∀ (A : Around) (outer : List Env) (s : Shared) (H : Hp) (E : XK), (A.deeper (envOfC x (defScope st) s.heap.objs.size f cdv)).guards = some [] → Room k (A.deeper (envOfC x (defScope st) s.heap.objs.size f cdv)) →
      Takes (cxOf (L2.CX P w) P w K mg base N x (defScope st) f cdv A outer s H E) (fun c d _ H => E c d H) → Ss' (cxOf (L2.CX P w) P w K mg base N x (defScope st) f cdv A outer s H E) cls ts (fun c d _ H => E c d H) (defBody st) B) :
    FnG P w K mg base cls ts (k + 1) f fd ps (runB ps.length N.length B) := by
  obtain ⟨oc, od, kV, doc, pm, an, ct, osl, rfl, lk⟩ := D.ex
  exact FnG.of lk D.kp.2 S hbody
def ALen (A : AF) (n : Nat) : Prop := ∀ ε h ds h', A ε h = .ok ds h' → ds.length = n
theorem aLen0 : ALen aNil 0 := fun _ _ _ _ e => by cases e; rfl
theorem aLenS {F : EF} {A : AF} {n : Nat} (i : ALen A n) : ALen (aCons F A) (n + 1) := fun ε h ds h' e => by
  unfold aCons at e
  cases q : F ε h with
  | ok d h1 =>
    rw [q, Res.bind_ok] at e
    cases q2 : A ε h1 with
    | ok es h2 =>
      rw [q2] at e
      cases e
      rw [List.length_cons, i _ _ _ _ q2]
    | exc x h2 => rw [q2] at e; cases e
    | stuck => rw [q2] at e; cases e
  | exc x h1 => rw [q] at e; cases e
  | stuck => rw [q] at e; cases e
section
variable {X : Cx} {W : WX} {cls ts : List Addr} {k : Nat} {st : Stmt} {ps ks : List Str} {c : FN} {x : Str} {p pos : Pos} {e : Expr} {es : List Expr} {kws : List Keyword} {A B : AF} {m : Nat}
/-- f(e, ..) -/
theorem e_ca (C : Ca X.prog X.w X.K X.mg X.base cls ts k x st ps c) (b : Bd x st ps) (hgu : X.A.guards = some []) (hr : Room k X.A) (tk : Takes X W) (hg : Gl X x) (ha : A' X cls ts W (e :: es) A) (hdb : (x == ("__debug__" : Str)) = false := by decide)
    (he : starEach (e :: es) X.env = (false, eval e X.env) :: starEach es X.env := by rfl) (hpl : (backTo pos (starEach es X.env)).any (·.1) = false := by rfl) : E' X cls ts W (.Call (.Name x p) (e :: es) [] pos) (cFn c A) := by
  obtain ⟨f, cdv, fd, D, F⟩ := C.ex
  exact e_call F hgu hr tk hg D.mg D.kp.1 (D.binds b) ha hdb he hpl
theorem e_ca0 (C : Ca X.prog X.w X.K X.mg X.base cls ts k x st ps c) (b : Bd x st ps) (hgu : X.A.guards = some []) (hr : Room k X.A) (tk : Takes X W) (hg : Gl X x) (hdb : (x == ("__debug__" : Str)) = false := by decide) : E' X cls ts W (.Call (.Name x p) [] [] pos) (cFn c aNil) := by
  obtain ⟨f, cdv, fd, D, F⟩ := C.ex
  exact e_call0 F hgu hr tk hg D.mg D.kp.1 (D.binds b) hdb
/-- f(k = e, ..), every argument named -/
theorem e_caK {gv : List Value → List Value} {gV : List V → List V} {gD : List D → List D} (C : Ca X.prog X.w X.K X.mg X.base cls ts k x st ps c) (b : BdK x st ps ks 0 (fun _ ws => gv ws)) (hgu : X.A.guards = some []) (hr : Room k X.A) (tx : Takes X W) (hg : Gl X x)
    (hV : ∀ (zs : List V) (ws : List Value), Vals zs ws → zs.length = ks.length → Vals (gV zs) (gv ws)) (hgD : ∀ (ρ : List Addr) (H : Hp) (zs : List V) (es : List D), RVs X.K ρ H zs es → zs.length = ks.length → RVs X.K ρ H (gV zs) (gD es))
    (hkw : PK X kws (tA X.K cls ts W B)) (hn : ALen B ks.length) (hall : (backToKw pos (keywordEach kws X.env)).all (·.1.isSome) = true := by rfl) (hks : (backToKw pos (keywordEach kws X.env)).filterMap (·.1) = ks := by rfl)
    (hdb : (x == ("__debug__" : Str)) = false := by decide)
    (hpl : (backToKw pos (keywordEach kws X.env)).any (·.1.isNone) = false := by rfl) :
    E' X cls ts W (.Call (.Name x p) [] kws pos) (cFn (fun es h => c (gD es) h) B) := by
  obtain ⟨f, cdv, fd, Dd, F⟩ := C.ex
  refine ⟨fun pins s σ H Q I ⟨ρ, ε, h, hH, hE, q⟩ => ?_⟩
  have q1 : tA X.K cls ts W B σ H fun zs H2 => zs.length = ks.length ∧ Rdy X.K cls ts c (fun u dd H' => W u dd σ H') Q (gV zs) H2 :=
    tG_bind hH hE q fun ρ2 H2 zs h2 es ee e2 hH2 rz hE2 p2 => by
      have hl : zs.length = ks.length := by rw [rz.length]; exact hn _ _ _ _ ee
      exact ⟨hl, ρ2, h2, gD es, hH2, hgD _ _ _ _ rz hl, p2⟩
  refine wpAny_Call_Name_kw (ld_glob I hg Dd.mg ?_ hdb)
  refine PySem.W.callWith_KW0 I.kIn Dd.kp.1 hall (thn (hkw.run pos pins s σ H _ I q1) fun ws s2 ⟨zs, H2, I2, rz, hl, ρ2, h2, ds, hH2, rv, p2⟩ => ⟨I2.kIn, ?_⟩) hpl
  rw [hks]
  exact run_g F hgu hr tx (fun _ => Dd.bindsTo b rfl (by rw [← rz.length]; exact hl)) I2 (hV _ _ rz hl) hH2 rv p2
end
end Mi

namespace Mi
open L2 PySem PySem.Spec PyProof.Rows

theorem hu65 {k : Nat} {A : Around} (r : Room k A) : A.units + 65 < cLine := by
  have := r.un
  omega
theorem e_globE {X : Cx} {W : WX} {cls ts : List Addr} {x : Str} {pos : Pos} {i : Int} (hg : Gl X x) (hm : ∃ u, X.mg x = some u ∧ RelV (.int i) u) (hd : (x == ("__debug__" : Str)) = false := by decide) : E' X cls ts W (.Name x pos) (cC (.int i)) := by
  obtain ⟨u, hm, r⟩ := hm
  exact e_glob hg hm r (fun _ _ _ => .int i) hd
def between (a b : Str) (c : Nat) : Bool := !decide ([c] < a.cps.toList) && !decide (b.cps.toList < [c])
/-- a generator expression's scope without captured names -/
def genC (scope : Scope) (x : Str) : Bool := (match scope.kind with | .function => true | _ => false) && !scope.isCoroutine && (scope.names.all fun y => match y.2 with | .local => true | _ => false) &&
  (match scope.names.lookup (".0" : Str) with | some .local => true | _ => false) && (match scope.names.lookup x with | some .local => true | _ => false)
theorem genS_by {env : Env} {scope : Scope} {x : Str} (h : genC scope x = true) : GxR.GenS env scope x := by
  simp only [genC, Bool.and_eq_true, List.all_eq_true] at h
  obtain ⟨⟨⟨⟨h1, h2⟩, h3⟩, h4⟩, h5⟩ := h
  refine ⟨?_, by simpa using h2, fun y hy e => ?_, ?_, ?_, fun y hy e => ?_⟩
  · split at h1 <;> first | assumption | cases h1
  · have := h3 y hy
    rw [e] at this
    cases this
  · split at h4 <;> first | assumption | cases h4
  · split at h5 <;> first | assumption | cases h5
  · have := h3 y hy
    rw [e] at this
    cases this
theorem tabIn_of {K : PySem.W.Frag} {x : Str} {f c P : Addr} {oc ox : Value} {od oy : Option Addr} {fd : FuncData} {sl sm : Array (Option Value)} {vs : Array Value} (a : PySem.W.nsIn K mainGlobals x = some (some (.ref f))) (l : K.lookup f = some ⟨oc, od, .func fd, sl⟩) (hc : fd.code = .ref c)
    (lc : K.lookup c = some ⟨ox, oy, .fields vs, sm⟩) (h11 : (vs[11]? : Option Value) = some (.ref P)) : PySem.W.tabIn K x = some (c, P) := by
  unfold PySem.W.tabIn
  simp only [a, l, hc, lc, h11]
/-- the named arguments in the parameters' order -/
def pm0 {α : Type} (xs : List α) : List α := xs
theorem pmV0 {ks : List Str} (zs : List V) (ws : List Value) (r : Vals zs ws) (_ : zs.length = ks.length) : Vals (pm0 zs) (pm0 ws) := r
theorem pmD0 {K : PySem.W.Frag} {ρ : List Addr} {H : Hp} {ks : List Str} (zs : List V) (es : List D) (r : RVs K ρ H zs es) (_ : zs.length = ks.length) : RVs K ρ H (pm0 zs) (pm0 es) := r
end Mi

namespace Mi
open L2 PySem PySem.Spec PyProof.Rows

/-! ### reckoning -/
section
variable {F G : EF} {A : AF} {T : TF} {a b c : SF} {ε ε1 : AEnv} {h h1 h2 h3 : AH} {d x y : D} {ds es : List D} {i : Nat} {f : Op2} {k : Bool}
theorem sSeq_nx (e : a ε h = .nx ε1 h1) : sSeq a b ε h = b ε1 h1 := by
  unfold sSeq
  rw [e]
  rfl
theorem sSeq_ret (e : a ε h = .ret d h1) : sSeq a b ε h = .ret d h1 := by
  unfold sSeq
  rw [e]
  rfl
theorem sSet_eq (e : F ε h = .ok d h1) (hi : i < ε.length := by exact Nat.le_of_ble_eq_true rfl) : sSet i F ε h = .nx (ε.set i (some d)) h1 := by
  unfold sSet
  rw [e, Res.st_ok, if_pos hi]
theorem sRet_eq (e : F ε h = .ok d h1) : sRet F ε h = .ret d h1 := by
  unfold sRet
  rw [e]
  rfl
theorem sExpr_eq (e : F ε h = .ok d h1) : sExpr F ε h = .nx ε h1 := by
  unfold sExpr
  rw [e]
  rfl
theorem sIf_eq (e : T ε h = .ok k h1) : sIf T a b ε h = if k = true then a ε h1 else b ε h1 := by
  unfold sIf
  rw [e]
  rfl
theorem sIf_t (e : T ε h = .ok true h1) : sIf T a b ε h = a ε h1 := by rw [sIf_eq e, if_pos rfl]
theorem sIf_f (e : T ε h = .ok false h1) : sIf T a b ε h = b ε h1 := by rw [sIf_eq e, if_neg Bool.false_ne_true]
theorem cBin_eq (e1 : F ε h = .ok x h1) (e2 : G ε h1 = .ok y h2) : cBin f F G ε h = f x y h2 := by
  unfold cBin
  rw [e1, Res.bind_ok, e2, Res.bind_ok]
theorem aCons_eq (e1 : F ε h = .ok x h1) (e2 : A ε h1 = .ok ds h2) : aCons F A ε h = .ok (x :: ds) h2 := by
  unfold aCons
  rw [e1, Res.bind_ok, e2, Res.bind_ok]
theorem aNil_eq : aNil ε h = .ok [] h := rfl
theorem cFn_eq {f : FN} (e : A ε h = .ok ds h1) : cFn f A ε h = f ds h1 := by
  unfold cFn
  rw [e, Res.bind_ok]
theorem cCall_eq {f : OpN} (e : A ε h = .ok ds h1) : cCall f A ε h = f ds h1 := by
  unfold cCall
  rw [e, Res.bind_ok]
theorem cLst_eq (e : A ε h = .ok ds h1) (hl : ds.length ≤ sizeLine) : cLst A ε h = .ok (.ref h1.length) (h1 ++ [.lst ds]) := by
  unfold cLst
  rw [e, Res.bind_ok, if_pos hl]
theorem cTup_eq (e : A ε h = .ok ds h1) (hl : ds.length ≤ sizeLine) : cTup A ε h = .ok (.tup ds) h1 := by
  unfold cTup
  rw [e, Res.bind_ok, if_pos hl]
theorem tVal_eq (e : F ε h = .ok (.bl k) h1) : tVal F ε h = .ok k h1 := by
  unfold tVal
  rw [e]
  rfl
theorem cMeth_eq {T : String} {f : OpM} (e : F ε h = .ok d h1) (hT : isTy T d h1 = true) (e2 : A ε h1 = .ok ds h2) : cMeth T f F A ε h = f d ds h2 := by
  unfold cMeth
  rw [e, Res.bind_ok, if_pos hT, e2, Res.bind_ok]
theorem cIf_eq (e : T ε h = .ok k h1) : cIf T F G ε h = if k = true then F ε h1 else G ε h1 := by
  unfold cIf
  rw [e, Res.bind_ok]
theorem tOr_t {T2 : TF} (e : T ε h = .ok true h1) : tOr' T T2 ε h = .ok true h1 := by
  unfold tOr'
  rw [e, Res.bind_ok, if_pos rfl]
theorem tOr_f {T2 : TF} (e : T ε h = .ok false h1) : tOr' T T2 ε h = T2 ε h1 := by
  unfold tOr'
  rw [e, Res.bind_ok, if_neg Bool.false_ne_true]
theorem tAnd_t {T2 : TF} (e : T ε h = .ok true h1) : tAnd' T T2 ε h = T2 ε h1 := by
  unfold tAnd'
  rw [e, Res.bind_ok, if_pos rfl]
theorem tAnd_f {T2 : TF} (e : T ε h = .ok false h1) : tAnd' T T2 ε h = .ok false h1 := by
  unfold tAnd'
  rw [e, Res.bind_ok, if_neg Bool.false_ne_true]
theorem tNot_eq (e : T ε h = .ok k h1) : tNot' T ε h = .ok (!k) h1 := by
  unfold tNot'
  rw [e, Res.bind_ok]
theorem cAnd_t (e : F ε h = .ok (.bl true) h1) : cAnd F G ε h = G ε h1 := by
  unfold cAnd
  rw [e, Res.bind_ok]
  rfl
theorem cAnd_f (e : F ε h = .ok (.bl false) h1) : cAnd F G ε h = .ok (.bl false) h1 := by
  unfold cAnd
  rw [e, Res.bind_ok]
  rfl
theorem sPar2_eq {j : Nat} (e1 : F ε h = .ok x h1) (e2 : G ε h1 = .ok y h2) (hi : i < ε.length ∧ j < ε.length := by exact ⟨Nat.le_of_ble_eq_true rfl, Nat.le_of_ble_eq_true rfl⟩) : sPar2 i j F G ε h = .nx ((ε.set i (some x)).set j (some y)) h2 := by
  unfold sPar2
  rw [e1, Res.st_ok, e2, Res.st_ok, if_pos hi]
theorem sPar3_eq {j l : Nat} {I : EF} {z : D} (e1 : F ε h = .ok x h1) (e2 : G ε h1 = .ok y h2) (e3 : I ε h2 = .ok z h3) (hi : i < ε.length ∧ j < ε.length ∧ l < ε.length := by exact ⟨Nat.le_of_ble_eq_true rfl, Nat.le_of_ble_eq_true rfl, Nat.le_of_ble_eq_true rfl⟩) : sPar3 i j l F G I ε h = .nx (((ε.set i (some x)).set j (some y)).set l (some z)) h3 := by
  unfold sPar3
  rw [e1, Res.st_ok, e2, Res.st_ok, e3, Res.st_ok, if_pos hi]
theorem cCut_eq {lo hi : OF} {l u : Option Int} (e1 : F ε h = .ok d h1) (e2 : lo ε h1 = .ok l h2) (e3 : hi ε h2 = .ok u h3) : cCut F lo hi ε h = cutD d l u h3 := by
  unfold cCut
  rw [e1, Res.bind_ok, e2, Res.bind_ok, e3, Res.bind_ok]
theorem oSome_eq {j : Int} (e : F ε h = .ok (.int j) h1) : oSome F ε h = .ok (some j) h1 := by
  unfold oSome
  rw [e, Res.bind_ok]
theorem runB_ret {np nN : Nat} {B : SF} (hl : ds.length = np) (e : B (ds.map some ++ List.replicate (nN - np) none) h = .ret d h1) : runB np nN B ds h = .ok d h1 := by
  unfold runB
  rw [if_pos hl, e]
end

/-! ### comprehensions -/
/-- with an invariant: I i acc h, acc what is found so far; the list stands at nD -/
theorem compGo_inv {it : AIt} {g : TF'} {t : TF} {F : EF} {nD : Nat} {ε0 : AEnv} (I : Nat → List D → AH → Prop) (n : Nat) (hn : it.len = n) (hs : n < sizeLine) (hD : ∀ i acc h, I i acc h → h[nD]? = some (.lst acc))
    (hl : ∀ i acc h, I i acc h → acc.length ≤ i)
    (step : ∀ i acc h, i < n → I i acc h → ∃ d ε1 k h1, it.item i h = some d ∧ g d ε0 h = some ε1 ∧ t ε1 h = .ok k h1 ∧
      ((k = false ∧ I (i + 1) acc h1) ∨ (k = true ∧ ∃ y h2, F ε1 h1 = .ok y h2 ∧ h2[nD]? = some (.lst acc) ∧ I (i + 1) (acc ++ [y]) (h2.set nD (.lst (acc ++ [y]))))))
    (fin : ∀ acc h, I n acc h → it.fin h = true) : ∀ (m i : Nat) (acc : List D) (h : AH), i + m = n → I i acc h → ∃ acc' h', compGo it g t F nD ε0 m i h = .ok () h' ∧ I n acc' h' := by
  intro m
  induction m with
  | zero =>
    intro i acc h e q
    have : i = n := by omega
    subst this
    refine ⟨acc, h, ?_, q⟩
    unfold compGo
    rw [if_pos (fin _ _ q)]
  | succ m ih =>
    intro i acc h e q
    obtain ⟨d, ε1, k, h1, e1, e2, e3, r⟩ := step i acc h (by omega) q
    rcases r with ⟨rfl, r⟩ | ⟨rfl, y, h2, e4, e5, r⟩
    · rw [show compGo it g t F nD ε0 (m + 1) i h = compGo it g t F nD ε0 m (i + 1) h1 from by simp [compGo, e1, e2, e3, noExc]]
      exact ih (i + 1) acc h1 (by omega) r
    · have l1 := hl _ _ _ q
      have l2 : acc.length < sizeLine := by omega
      rw [show compGo it g t F nD ε0 (m + 1) i h = compGo it g t F nD ε0 m (i + 1) (h2.set nD (.lst (acc ++ [y]))) from by simp [compGo, e1, e2, e3, e4, e5, l2, noExc]]
      exact ih (i + 1) _ _ (by omega) r
theorem cComp_inv {iF : IF} {it : AIt} {g : TF'} {t : TF} {F : EF} {own : List Nat} {ε : AEnv} {h h1 : AH} (hi : iF ε h = .ok it h1) (I : Nat → List D → AH → Prop) (n : Nat) (hn : it.len = n) (hs : n < sizeLine) (hD : ∀ i acc h, I i acc h → h[h1.length]? = some (.lst acc))
    (hl : ∀ i acc h, I i acc h → acc.length ≤ i) (h0 : I 0 [] (h1 ++ [.lst []]))
    (step : ∀ i acc h, i < n → I i acc h → ∃ d ε1 k h1', it.item i h = some d ∧ g d (wipeA ε own) h = some ε1 ∧ t ε1 h = .ok k h1' ∧
      ((k = false ∧ I (i + 1) acc h1') ∨ (k = true ∧ ∃ y h2, F ε1 h1' = .ok y h2 ∧ h2[h1.length]? = some (.lst acc) ∧ I (i + 1) (acc ++ [y]) (h2.set h1.length (.lst (acc ++ [y]))))))
    (fin : ∀ acc h, I n acc h → it.fin h = true) : ∃ acc h', cComp iF g t F own ε h = .ok (.ref h1.length) h' ∧ I n acc h' := by
  obtain ⟨acc, h', e, q⟩ := compGo_inv (it := it) (g := g) (t := t) (F := F) (ε0 := wipeA ε own) I n hn hs hD hl step fin n 0 [] (h1 ++ [.lst []]) (by omega) h0
  refine ⟨acc, h', ?_, q⟩
  unfold cComp
  rw [hi, Res.bind_ok, hn, e]
  rfl
/-! ### for -/
theorem forGo_inv {it : AIt} {g : TF'} {B : SF} (I : Nat → AEnv → AH → Prop) (n : Nat) (step : ∀ i ε h, i < n → I i ε h → ∃ d ε1 ε2 h2, it.item i h = some d ∧ g d ε h = some ε1 ∧ (B ε1 h = .nx ε2 h2 ∨ B ε1 h = .cnt ε2 h2) ∧ I (i + 1) ε2 h2)
    (fin : ∀ ε h, I n ε h → it.fin h = true) : ∀ (m i : Nat) (ε : AEnv) (h : AH), i + m = n → I i ε h → ∃ ε' h', forGo it g B m i ε h = .nx ε' h' ∧ I n ε' h' := by
  intro m
  induction m with
  | zero =>
    intro i ε h e q
    have : i = n := by omega
    subst this
    refine ⟨ε, h, ?_, q⟩
    unfold forGo
    rw [if_pos (fin _ _ q)]
  | succ m ih =>
    intro i ε h e q
    obtain ⟨d, ε1, ε2, h2, e1, e2, e3, r⟩ := step i ε h (by omega) q
    rw [show forGo it g B (m + 1) i ε h = forGo it g B m (i + 1) ε2 h2 from by rcases e3 with e3 | e3 <;> simp [forGo, e1, e2, e3]]
    exact ih (i + 1) ε2 h2 (by omega) r
theorem sFor_inv {iF : IF} {it : AIt} {g : TF'} {B : SF} {ε : AEnv} {h h1 : AH} (hi : iF ε h = .ok it h1) (I : Nat → AEnv → AH → Prop) (n : Nat) (hn : it.len = n) (h0 : I 0 ε h1)
    (step : ∀ i ε h, i < n → I i ε h → ∃ d ε1 ε2 h2, it.item i h = some d ∧ g d ε h = some ε1 ∧ (B ε1 h = .nx ε2 h2 ∨ B ε1 h = .cnt ε2 h2) ∧ I (i + 1) ε2 h2)
    (fin : ∀ ε h, I n ε h → it.fin h = true) : ∃ ε' h', sFor iF g B ε h = .nx ε' h' ∧ I n ε' h' := by
  obtain ⟨ε', h', e, q⟩ := forGo_inv (it := it) (g := g) (B := B) I n step fin n 0 ε h1 (by omega) h0
  refine ⟨ε', h', ?_, q⟩
  unfold sFor
  rw [hi, Res.st_ok, hn, e]

end Mi

namespace Mi
open L2 PySem PySem.Spec PyProof.Rows

/-! ### the defs that every law has: begun, dealt, pick -/
/-- the hand stands at n, its cells at m, it was asked c times -/
def Hand (h : AH) (n m : Nat) (c : Int) : Prop := m ≠ n ∧ ∃ (cells : List Int) (t : Int), cells.length ≤ 100 ∧ h[n]? = some (.lst [.ref m, .int t, .int c]) ∧ h[m]? = some (.lst (cells.map D.int))
/-- nothing but n, m has changed; new things may stand behind -/
structure Step (n m : Nat) (h h' : AH) : Prop where
  len : h.length ≤ h'.length
  keep : ∀ k, k ≠ n → k ≠ m → k < h.length → h'[k]? = h[k]?
theorem Step.refl {n m : Nat} {h : AH} : Step n m h h := ⟨Nat.le_refl _, fun _ _ _ _ => rfl⟩
theorem Step.trans {n m : Nat} {h h1 h2 : AH} (a : Step n m h h1) (b : Step n m h1 h2) : Step n m h h2 :=
  ⟨Nat.le_trans a.len b.len, fun k h1 h2 h3 => (b.keep k h1 h2 (Nat.lt_of_lt_of_le h3 a.len)).trans (a.keep k h1 h2 h3)⟩
theorem Step.set1 {n m : Nat} {h : AH} {o : O} : Step n m h (h.set n o) := ⟨by simp, fun k h1 h2 h3 => by rw [List.getElem?_set_ne (Ne.symm h1)]⟩
theorem Step.set2 {n m : Nat} {h : AH} {o : O} : Step n m h (h.set m o) := ⟨by simp, fun k h1 h2 h3 => by rw [List.getElem?_set_ne (Ne.symm h2)]⟩
theorem Step.app {n m : Nat} {h : AH} {os : List O} : Step n m h (h ++ os) := ⟨by simp, fun k h1 h2 h3 => by rw [List.getElem?_append_left h3]⟩
theorem pd_ints (h : AH) (k : Nat) : ∀ cells : List Int, omap (pd k h) (cells.map D.int) = some (cells.map PyData.int)
  | [] => rfl
  | c :: cs => by
    simp only [List.map_cons]
    unfold omap
    rw [pd_ints h k cs]
    cases k <;> rfl
theorem shaped_ints (cells : List Int) : SeqAt.shaped (.list (cells.map PyData.int)) = true := by
  have h1 : ∀ cs : List Int, PyData.canLayAll0 (cs.map PyData.int) = true := fun cs => by
    induction cs with
    | nil => simp [PyData.canLayAll0]
    | cons c cs ih => simp [PyData.canLayAll0, PyData.canLay0, ih]
  have h2 : ∀ cs : List Int, PyData.depthAll (cs.map PyData.int) = 0 := fun cs => by
    induction cs with
    | nil => simp [PyData.depthAll]
    | cons c cs ih => simp [PyData.depthAll, PyData.depth, ih]
  simp [SeqAt.shaped, PyData.canLay0, PyData.depth, h1, h2]
theorem eqv_ints (cells : List Int) : PyData.eqv (.list (cells.map PyData.int)) (.list []) = cells.isEmpty := by
  cases cells with
  | nil => simp [PyData.eqv, PyData.eqvAll]
  | cons c cs => simp [PyData.eqv, PyData.eqvAll]


def dealtTail : SF := (sSeq (sSet 3 (cBin opAdd (cBin opAdd (cBin opAdd (cBin opMod (cVar 2) (cC (.int 2147483629))) (cBin opMul (cBin opMul (cC (.int 16807)) (cBin opIx (cVar 0) (cC (.int 2)))) (cBin opIx (cVar 0) (cC (.int 2))))) (cBin opIx (cVar 0) (cC (.int 1)))) (cC (.int 97))))
    (sSeq (sSet 3 (cBin opMod (cBin opMul (cVar 3) (cC (.int 48271))) (cC (.int 2147483647))))
    (sSeq (sSet 3 (cBin opMod (cBin opAdd (cBin opAdd (cBin opMul (cVar 3) (cVar 3)) (cBin opMul (cC (.int 69621)) (cBin opIx (cVar 0) (cC (.int 2))))) (cC (.int 11))) (cC (.int 2147483587))))
    (sRet (cBin opMod (cBin opFdiv (cBin opMod (cBin opMul (cVar 3) (cBin opAdd (cBin opFdiv (cVar 3) (cC (.int 5))) (cC (.int 39373)))) (cC (.int 2147483563))) (cC (.int 128))) (cVar 1))))))
theorem sm_l {i : Int} (h : 0 ≤ i) (h2 : i < 18446744073709551616) : Mi.small64 i = true := by
  simp [Mi.small64]
  omega
theorem dealtTail_ok {h : AH} {n m : Nat} {c lots cell t : Int} {x : Option D} (hn : h[n]? = some (.lst [.ref m, .int t, .int c])) (hc : 0 ≤ c) (hc2 : c < 1000001) (hl : 0 < lots) (hl2 : lots < 1000000) :
    ∃ r : Int, dealtTail [some (.ref n), some (.int lots), some (.int cell), x] h = .ret (.int r) h ∧ 0 ≤ r ∧ r < lots := by
  have ml : ∀ a b : Int, 0 ≤ a → a < 18446744073709551616 → opMul (.int a) (.int b) h = .ok (.int (a * b)) h := fun a b h1 h2 => by simp [opMul, sm_l h1 h2]
  have mr : ∀ a b : Int, 0 ≤ b → b < 18446744073709551616 → opMul (.int a) (.int b) h = .ok (.int (a * b)) h := fun a b h1 h2 => by simp [opMul, sm_l h1 h2]
  have md : ∀ a b : Int, 0 < b → opMod (.int a) (.int b) h = .ok (.int (a.fmod b)) h := fun a b h1 => by
    have : b ≠ 0 := by omega
    simp [opMod, opII, this]
  have mb : ∀ a b : Int, 0 < b → 0 ≤ a.fmod b ∧ a.fmod b < b := fun a b h1 => ⟨Int.fmod_nonneg_of_pos _ h1, Int.fmod_lt_of_pos _ h1⟩
  have i1 : opIx (.ref n) (.int 1) h = .ok (.int t) h := by simp [opIx, seqD, hn, atI, ixN]
  have i2 : opIx (.ref n) (.int 2) h = .ok (.int c) h := by simp [opIx, seqD, hn, atI, ixN]
  have ad : ∀ a b : Int, opAdd (.int a) (.int b) h = .ok (.int (a + b)) h := fun _ _ => rfl
  have fd : ∀ a b : Int, 0 < b → b < 1000 → opFdiv (.int a) (.int b) h = .ok (.int (a.fdiv b)) h := fun a b h1 h2 => by
    have : b ≠ 0 := by omega
    have : b.natAbs < 1073741824 := by omega
    simp [opFdiv, opII, *]
  obtain ⟨w0, e0⟩ : ∃ w, w = cell.fmod 2147483629 + 16807 * c * c + t + 97 := ⟨_, rfl⟩
  obtain ⟨w1, e1⟩ : ∃ w, w = (w0 * 48271).fmod 2147483647 := ⟨_, rfl⟩
  obtain ⟨w2, e2⟩ : ∃ w, w = (w1 * w1 + 69621 * c + 11).fmod 2147483587 := ⟨_, rfl⟩
  obtain ⟨w3, e3⟩ : ∃ w, w = (w2 * (w2.fdiv 5 + 39373)).fmod 2147483563 := ⟨_, rfl⟩
  have b1 := mb (w0 * 48271) 2147483647 (by decide)
  rw [← e1] at b1
  have b2 := mb (w1 * w1 + 69621 * c + 11) 2147483587 (by decide)
  rw [← e2] at b2
  have q0 : cBin opAdd (cBin opAdd (cBin opAdd (cBin opMod (cVar 2) (cC (.int 2147483629))) (cBin opMul (cBin opMul (cC (.int 16807)) (cBin opIx (cVar 0) (cC (.int 2)))) (cBin opIx (cVar 0) (cC (.int 2))))) (cBin opIx (cVar 0) (cC (.int 1)))) (cC (.int 97)) [some (.ref n), some (.int lots), some (.int cell), x] h = .ok (.int w0) h := by
    simp only [cBin, cVar, cC, List.getElem?_cons_zero, List.getElem?_cons_succ, Res.bind_ok, i1, i2, ad, md _ 2147483629 (by decide), ml 16807 c (by decide) (by decide), mr _ c hc (by omega), e0]
  have q1 : cBin opMod (cBin opMul (cVar 3) (cC (.int 48271))) (cC (.int 2147483647)) [some (.ref n), some (.int lots), some (.int cell), some (.int w0)] h = .ok (.int w1) h := by
    simp only [cBin, cVar, cC, List.getElem?_cons_zero, List.getElem?_cons_succ, Res.bind_ok, mr w0 48271 (by decide) (by decide), md _ 2147483647 (by decide), e1]
  have q2 : cBin opMod (cBin opAdd (cBin opAdd (cBin opMul (cVar 3) (cVar 3)) (cBin opMul (cC (.int 69621)) (cBin opIx (cVar 0) (cC (.int 2))))) (cC (.int 11))) (cC (.int 2147483587)) [some (.ref n), some (.int lots), some (.int cell), some (.int w1)] h = .ok (.int w2) h := by
    simp only [cBin, cVar, cC, List.getElem?_cons_zero, List.getElem?_cons_succ, Res.bind_ok, i2, mr w1 w1 b1.1 (by omega), ml 69621 c (by decide) (by decide), ad, md _ 2147483587 (by decide), e2]
  have q3 : cBin opMod (cBin opFdiv (cBin opMod (cBin opMul (cVar 3) (cBin opAdd (cBin opFdiv (cVar 3) (cC (.int 5))) (cC (.int 39373)))) (cC (.int 2147483563))) (cC (.int 128))) (cVar 1) [some (.ref n), some (.int lots), some (.int cell), some (.int w2)] h = .ok (.int ((w3.fdiv 128).fmod lots)) h := by
    simp only [cBin, cVar, cC, List.getElem?_cons_zero, List.getElem?_cons_succ, Res.bind_ok, fd _ 5 (by decide) (by decide), fd _ 128 (by decide) (by decide), ad, ml w2 _ b2.1 (by omega), md _ 2147483563 (by decide), md _ lots hl, e3]
  refine ⟨(w3.fdiv 128).fmod lots, ?_, mb _ _ hl⟩
  unfold dealtTail
  exact (sSeq_nx (sSet_eq q0)).trans ((sSeq_nx (sSet_eq q1)).trans ((sSeq_nx (sSet_eq q2)).trans (sRet_eq q3)))
def dealtIf : SF := (sIf (tVal (cBin opNe (cBin opIx (cVar 0) (cC (.int 0))) (cLst aNil)))
      (sSeq (sSet 2 (cMeth "list" mPop (cBin opIx (cVar 0) (cC (.int 0))) aNil))
    (sIf (tVal (cBin opGe (cVar 2) (cBin opPow (cC (.int 10)) (cC (.int 18)))))
      (sSeq (sExpr (cMeth "list" mAppend (cBin opIx (cVar 0) (cC (.int 0))) (aCons (cBin opFdiv (cVar 2) (cVar 1)) aNil)))
    (sRet (cBin opMod (cVar 2) (cVar 1))))
      sPass))
      sPass)
def fDealt : FN := runB 2 4 (sSeq (sPut (cBin opAdd (cBin opIx (cVar 0) (cC (.int 2))) (cC (.int 1))) (cVar 0) (cC (.int 2)))
    (sSeq (sSet 2 (cBin opIx (cVar 0) (cC (.int 1))))
    (sSeq dealtIf dealtTail)))
theorem mod_ok {h : AH} {a b : Int} (h1 : 0 < b) : opMod (.int a) (.int b) h = .ok (.int (a.fmod b)) h := by
  have : b ≠ 0 := by omega
  simp [opMod, opII, this]
theorem dealtIf_ok {h1 : AH} {n m : Nat} {t c lots : Int} {cells : List Int} (hmn : m ≠ n) (hn1 : h1[n]? = some (.lst [.ref m, .int t, .int c])) (hm1 : h1[m]? = some (.lst (cells.map D.int))) (hl : 0 < lots) (hl2 : lots < 1000000) (hz : cells.length ≤ 100) :
    ∃ (h2 : AH) (cells2 : List Int), cells2.length ≤ 100 ∧ h2[n]? = some (.lst [.ref m, .int t, .int c]) ∧ h2[m]? = some (.lst (cells2.map D.int)) ∧ Step n m h1 h2 ∧
      ((∃ cell : Int, dealtIf [some (.ref n), some (.int lots), some (.int t), none] h1 = .nx [some (.ref n), some (.int lots), some (.int cell), none] h2) ∨
        ∃ r : Int, 0 ≤ r ∧ r < lots ∧ dealtIf [some (.ref n), some (.int lots), some (.int t), none] h1 = .ret (.int r) h2) := by
  have lm1 : m < h1.length := (List.getElem?_eq_some_iff.mp hm1).1
  have i0 : ∀ (h2 : AH), h2[n]? = some (.lst [.ref m, .int t, .int c]) → opIx (.ref n) (.int 0) h2 = .ok (.ref m) h2 := fun h2 e => by simp [opIx, seqD, atI, ixN, e]
  have h1a : (h1 ++ [O.lst []])[n]? = some (.lst [.ref m, .int t, .int c]) := by rw [List.getElem?_append_left (List.getElem?_eq_some_iff.mp hn1).1]; exact hn1
  have h1b : (h1 ++ [O.lst []])[m]? = some (.lst (cells.map D.int)) := by rw [List.getElem?_append_left lm1]; exact hm1
  have test : tVal (cBin opNe (cBin opIx (cVar 0) (cC (.int 0))) (cLst aNil)) [some (.ref n), some (.int lots), some (.int t), none] h1 = .ok (!cells.isEmpty) (h1 ++ [.lst []]) := by
    have p1 : pd 66 (h1 ++ [O.lst []]) (.ref m) = some (.list (cells.map PyData.int)) := by
      simp only [pd, h1b, pd_ints, Option.map_some]
    have p2 : pd 66 (h1 ++ [O.lst []]) (.ref h1.length) = some (.list []) := by simp [pd, omap]
    have s2 : SeqAt.shaped (.list []) = true := shaped_ints []
    simp [tVal, cBin, cVar, cC, i0 _ hn1, cLst, aNil, opNe, scalEq, p1, p2, shaped_ints, s2, eqv_ints, asBl]
  obtain ⟨h2, eh2⟩ : ∃ h2, h2 = h1 ++ [O.lst []] := ⟨_, rfl⟩
  rw [← eh2] at test h1a h1b
  have st2 : Step n m h1 h2 := by rw [eh2]; exact .app
  cases cells with
  | nil =>
    refine ⟨h2, [], hz, h1a, h1b, st2, .inl ⟨t, ?_⟩⟩
    exact sIf_f test
  | cons c0 cs =>
    obtain ⟨last, el⟩ : ∃ last, ((c0 :: cs).map D.int)[((c0 :: cs).map D.int).length - 1]? = some (.int last) := by
      refine ⟨((c0 :: cs)[(c0 :: cs).length - 1]'(by simp)), ?_⟩
      rw [List.length_map, List.getElem?_map, List.getElem?_eq_getElem (by simp)]
      rfl
    obtain ⟨h3, eh3⟩ : ∃ h3, h3 = h2.set m (.lst ((c0 :: cs).map D.int).dropLast) := ⟨_, rfl⟩
    have lm2 : m < h2.length := (List.getElem?_eq_some_iff.mp h1b).1
    have h3n : h3[n]? = some (.lst [.ref m, .int t, .int c]) := by rw [eh3, List.getElem?_set_ne hmn]; exact h1a
    have h3m : h3[m]? = some (.lst ((c0 :: cs).dropLast.map D.int)) := by rw [eh3, List.getElem?_set_self lm2, List.map_dropLast]
    have st3 : Step n m h2 h3 := by rw [eh3]; exact .set2
    have pop : sSet 2 (cMeth "list" mPop (cBin opIx (cVar 0) (cC (.int 0))) aNil) [some (.ref n), some (.int lots), some (.int t), none] h2 = .nx [some (.ref n), some (.int lots), some (.int last), none] h3 := by
      refine sSet_eq (d := .int last) ((cMeth_eq (d := .ref m) (h1 := h2) (cBin_eq (x := .ref n) (y := .int 0) rfl rfl |>.trans (i0 _ h1a)) (by simp [isTy, tyD, h1b]) aNil_eq).trans ?_)
      simp only [mPop, h1b, el, eh3]
    have test2 : ∀ h4, tVal (cBin opGe (cVar 2) (cBin opPow (cC (.int 10)) (cC (.int 18)))) [some (.ref n), some (.int lots), some (.int last), none] h4 = .ok (decide ((10 : Int) ^ 18 ≤ last)) h4 := fun h4 => by
      simp [tVal, cBin, cVar, cC, opPow, opII, opGe, asBl]
    have whole : dealtIf [some (.ref n), some (.int lots), some (.int t), none] h1 = _ := sIf_t test
    have whole2 := whole.trans (sSeq_nx pop)
    have st := st2.trans st3
    by_cases big : (10 : Int) ^ 18 ≤ last
    · have t2 := test2 h3
      rw [decide_eq_true big] at t2
      have whole3 := whole2.trans (sIf_t t2)
      obtain ⟨h4, eh4⟩ : ∃ h4, h4 = h3.set m (.lst ((c0 :: cs).dropLast.map D.int ++ [.int (last.fdiv lots)])) := ⟨_, rfl⟩
      have lm3 : m < h3.length := (List.getElem?_eq_some_iff.mp h3m).1
      have h4n : h4[n]? = some (.lst [.ref m, .int t, .int c]) := by rw [eh4, List.getElem?_set_ne hmn]; exact h3n
      have h4m : h4[m]? = some (.lst (((c0 :: cs).dropLast ++ [last.fdiv lots]).map D.int)) := by rw [eh4, List.getElem?_set_self lm3, List.map_append]; rfl
      have fd : opFdiv (.int last) (.int lots) h3 = .ok (.int (last.fdiv lots)) h3 := by
        have h1 : lots ≠ 0 := by omega
        have h2 : lots.natAbs < 1073741824 := by omega
        simp [opFdiv, opII, h1, h2]
      have lz : ((c0 :: cs).dropLast.map D.int).length < sizeLine := by
        rw [List.length_map, List.length_dropLast, sizeLine_eq]
        omega
      have app : sExpr (cMeth "list" mAppend (cBin opIx (cVar 0) (cC (.int 0))) (aCons (cBin opFdiv (cVar 2) (cVar 1)) aNil)) [some (.ref n), some (.int lots), some (.int last), none] h3 = .nx [some (.ref n), some (.int lots), some (.int last), none] h4 := by
        refine sExpr_eq (d := .non) ((cMeth_eq (d := .ref m) (h1 := h3) (h2 := h3) (ds := [.int (last.fdiv lots)]) (cBin_eq (x := .ref n) (y := .int 0) rfl rfl |>.trans (i0 _ h3n)) (by simp [isTy, tyD, h3m]) (aCons_eq ((cBin_eq (x := .int last) (y := .int lots) rfl rfl).trans fd) aNil_eq)).trans ?_)
        simp only [mAppend, h3m, eh4]
        rw [if_pos lz]
      have b := And.intro (Int.fmod_nonneg_of_pos last hl) (Int.fmod_lt_of_pos last hl)
      refine ⟨h4, (c0 :: cs).dropLast ++ [last.fdiv lots], ?_, h4n, h4m, st.trans (by rw [eh4]; exact .set2), .inr ⟨last.fmod lots, b.1, b.2, ?_⟩⟩
      · simp at hz ⊢
        omega
      · exact whole3.trans ((sSeq_nx app).trans (sRet_eq ((cBin_eq (x := .int last) (y := .int lots) rfl rfl).trans (mod_ok hl))))
    · have t2 := test2 h3
      rw [decide_eq_false big] at t2
      refine ⟨h3, (c0 :: cs).dropLast, ?_, h3n, h3m, st, .inl ⟨last, whole2.trans (sIf_f t2)⟩⟩
      simp at hz ⊢
      omega
theorem dealt_ok {h : AH} {n m : Nat} {c lots : Int} (H : Hand h n m c) (hc : 0 ≤ c) (hc2 : c < 1000000) (hl : 0 < lots) (hl2 : lots < 1000000) :
    ∃ (r : Int) (h' : AH), fDealt [.ref n, .int lots] h = .ok (.int r) h' ∧ 0 ≤ r ∧ r < lots ∧ Hand h' n m (c + 1) ∧ Step n m h h' := by
  obtain ⟨hmn, cells, t, hz, hn, hm⟩ := H
  have ln : n < h.length := (List.getElem?_eq_some_iff.mp hn).1
  obtain ⟨h1, eh1⟩ : ∃ h1, h1 = h.set n (.lst [.ref m, .int t, .int (c + 1)]) := ⟨_, rfl⟩
  have hn1 : h1[n]? = some (.lst [.ref m, .int t, .int (c + 1)]) := by rw [eh1]; simp [ln]
  have hm1 : h1[m]? = some (.lst (cells.map D.int)) := by rw [eh1, List.getElem?_set_ne (Ne.symm hmn)]; exact hm
  have st1 : Step n m h h1 := by rw [eh1]; exact .set1
  have z0 : sPut (cBin opAdd (cBin opIx (cVar 0) (cC (.int 2))) (cC (.int 1))) (cVar 0) (cC (.int 2)) [some (.ref n), some (.int lots), none, none] h = .nx [some (.ref n), some (.int lots), none, none] h1 := by
    simp [sPut, cBin, cVar, cC, opIx, seqD, atI, ixN, opAdd, putL, hn, eh1]
  have z1 : sSet 2 (cBin opIx (cVar 0) (cC (.int 1))) [some (.ref n), some (.int lots), none, none] h1 = .nx [some (.ref n), some (.int lots), some (.int t), none] h1 := by
    simp [sSet, cBin, cVar, cC, opIx, seqD, atI, ixN, hn1]
  obtain ⟨h2, cells2, hz2, g1, g2, st2, ⟨cell, e⟩ | ⟨r, r1, r2, e⟩⟩ := dealtIf_ok hmn hn1 hm1 hl hl2 hz
  · obtain ⟨r, e3, r1, r2⟩ := dealtTail_ok (cell := cell) (x := none) g1 (by omega) (by omega) hl hl2
    exact ⟨r, h2, runB_ret rfl ((sSeq_nx z0).trans ((sSeq_nx z1).trans ((sSeq_nx e).trans e3))), r1, r2, ⟨hmn, cells2, t, hz2, g1, g2⟩, st1.trans st2⟩
  · exact ⟨r, h2, runB_ret rfl ((sSeq_nx z0).trans ((sSeq_nx z1).trans (sSeq_ret e))), r1, r2, ⟨hmn, cells2, t, hz2, g1, g2⟩, st1.trans st2⟩
theorem Hand.get {h h' : AH} {n m : Nat} {c : Int} (H : Hand h n m c) (e1 : h'[n]? = h[n]?) (e2 : h'[m]? = h[m]?) : Hand h' n m c := by
  obtain ⟨a, cells, t, z, h1, h2⟩ := H
  exact ⟨a, cells, t, z, e1.trans h1, e2.trans h2⟩
theorem Hand.lt {h : AH} {n m : Nat} {c : Int} (H : Hand h n m c) : n < h.length ∧ m < h.length := by
  obtain ⟨a, cells, t, z, h1, h2⟩ := H
  exact ⟨(List.getElem?_eq_some_iff.mp h1).1, (List.getElem?_eq_some_iff.mp h2).1⟩
theorem Hand.app {h os : AH} {n m : Nat} {c : Int} (H : Hand h n m c) : Hand (h ++ os) n m c :=
  H.get (by rw [List.getElem?_append_left H.lt.1]) (by rw [List.getElem?_append_left H.lt.2])
theorem Hand.set {h : AH} {n m k : Nat} {c : Int} {o : O} (H : Hand h n m c) (h1 : k ≠ n) (h2 : k ≠ m) : Hand (h.set k o) n m c :=
  H.get (by rw [List.getElem?_set_ne h1]) (by rw [List.getElem?_set_ne h2])
/-! begun -/
def begunTurn : SF := (sSet 3 (cBin opMod (cBin opAdd (cBin opAdd (cBin opMul (cVar 3) (cC (.int 48271))) (cBin opMod (cVar 1) (cC (.int 2147483563)))) (cC (.int 17))) (cC (.int 2147483629))))
def fBegun : FN := runB 1 4 (sSeq (sPar2 2 3 (cCall fList (aCons (cCut (cVar 0) oNone (oSome (cC (.int 63)))) aNil)) (cC (.int 50021)))
    (sSeq (sFor (iAny (cVar 2)) (gN 1) begunTurn)
    (sRet (cLst (aCons (cRev (cVar 2)) (aCons (cVar 3) (aCons (cC (.int 0)) aNil)))))))
theorem begun_ok {ns : List Int} (hl : ns.length ≤ 63) : ∃ (n m : Nat) (h' : AH), fBegun [.rol (ns.map D.int)] [] = .ok (.ref n) h' ∧ Hand h' n m 0 := by
  have cut : cCut (cVar 0) oNone (oSome (cC (.int 63))) [some (.rol (ns.map D.int)), none, none, none] [] = .ok (.ref 0) [.lst (ns.map D.int)] := by
    refine (cCut_eq (d := .rol (ns.map D.int)) (l := none) (u := some 63) rfl rfl rfl).trans ?_
    have e : cutL (ns.map D.int) none (some 63) = ns.map D.int := by
      unfold cutL
      rw [show HT.sIx (ns.map D.int).length 0 none = 0 from rfl, show HT.sIx (ns.map D.int).length (ns.map D.int).length (some 63) = min 63 (ns.map D.int).length from HT.sIx_nat _ _ 63, List.length_map, Nat.min_eq_right hl, List.drop_zero, Nat.sub_zero, List.take_of_length_le (by rw [List.length_map]; exact Nat.le_refl _)]
    show Res.ok (D.ref 0) [O.lst (cutL (ns.map D.int) none (some 63))] = _
    rw [e]
  have lst : cCall fList (aCons (cCut (cVar 0) oNone (oSome (cC (.int 63)))) aNil) [some (.rol (ns.map D.int)), none, none, none] [] = .ok (.ref 1) [.lst (ns.map D.int), .lst (ns.map D.int)] := cCall_eq (aCons_eq cut aNil_eq)
  have it : iAny (cVar 2) [some (.rol (ns.map D.int)), none, some (.ref 1), some (.int 50021)] [.lst (ns.map D.int), .lst (ns.map D.int)] = .ok (.live 1 (ns.map D.int).length) [.lst (ns.map D.int), .lst (ns.map D.int)] := rfl
  obtain ⟨ε', h', e1, ⟨y, t, rfl⟩, rfl⟩ := sFor_inv (B := begunTurn) (g := gN 1) it (fun _ ε h => (∃ y t, ε = [some (.rol (ns.map D.int)), y, some (.ref 1), some (.int t)]) ∧ h = [.lst (ns.map D.int), .lst (ns.map D.int)]) ns.length (by simp [AIt.len]) ⟨⟨none, 50021, rfl⟩, rfl⟩
    (by
      rintro i ε h hi ⟨⟨y, t, rfl⟩, rfl⟩
      refine ⟨.int ns[i], [_, some (.int ns[i]), _, _], [_, _, _, some (.int ((t * 48271 + (ns[i]).fmod 2147483563 + 17).fmod 2147483629))], _, ?_, rfl, .inl (sSet_eq ?_), ⟨⟨_, _, rfl⟩, rfl⟩⟩
      · simp [AIt.item, hi]
      · have m1 : ∀ (a : Int) (h : AH), opMul (.int a) (.int 48271) h = .ok (.int (a * 48271)) h := fun a h => by simp [opMul, sm_l (show (0 : Int) ≤ 48271 by decide) (by decide)]
        exact (cBin_eq ((cBin_eq ((cBin_eq ((cBin_eq rfl rfl).trans (m1 _ _)) ((cBin_eq rfl rfl).trans (mod_ok (by decide)))).trans rfl) rfl).trans rfl) rfl).trans (mod_ok (by decide)))
    (by
      rintro ε h ⟨_, rfl⟩
      simp [AIt.fin])
  refine ⟨3, 2, [.lst (ns.map D.int), .lst (ns.map D.int), .lst (ns.map D.int).reverse, .lst [.ref 2, .int t, .int 0]], runB_ret rfl ((sSeq_nx (sPar2_eq lst rfl)).trans ((sSeq_nx e1).trans (sRet_eq (cLst_eq (ds := [.ref 2, .int t, .int 0]) (h1 := [.lst (ns.map D.int), .lst (ns.map D.int), .lst (ns.map D.int).reverse]) (aCons_eq (x := .ref 2) (h1 := [.lst (ns.map D.int), .lst (ns.map D.int), .lst (ns.map D.int).reverse]) rfl (aCons_eq (x := .int t) rfl (aCons_eq rfl aNil_eq))) ?_)))), by decide, ns.reverse, t, by rw [List.length_reverse]; omega, rfl, ?_⟩
  · rw [sizeLine_eq]
    exact Nat.le_of_ble_eq_true rfl
  · rw [List.map_reverse]
    rfl
/-! pick -/
def fPick : FN := runB 2 2 (sRet (cBin opIx (cVar 1) (cFn fDealt (aCons (cVar 0) (aCons (cCall fLen (aCons (cVar 1) aNil)) aNil)))))
theorem at_of {ds : List D} {r : Int} (h1 : 0 ≤ r) (h2 : r < ds.length) : ∃ d, d ∈ ds ∧ atI ds r = some d := by
  have hl : r.toNat < ds.length := by omega
  refine ⟨ds[r.toNat], List.getElem_mem hl, ?_⟩
  unfold atI ixN
  rw [if_pos h1, if_pos h2]
  exact List.getElem?_eq_getElem hl
theorem pick_ok {h : AH} {n m s : Nat} {c : Int} {ds : List D} (H : Hand h n m c) (hc : 0 ≤ c) (hc2 : c < 1000000) (hs : h[s]? = some (.lst ds)) (hsn : s ≠ n) (hsm : s ≠ m) (h0 : ds ≠ []) (hz : ds.length < 1000000) :
    ∃ (d : D) (h' : AH), fPick [.ref n, .ref s] h = .ok d h' ∧ d ∈ ds ∧ Hand h' n m (c + 1) ∧ Step n m h h' := by
  have hp : 0 < ds.length := List.length_pos_iff.mpr h0
  obtain ⟨r, h', e, r1, r2, H', st⟩ := dealt_ok (lots := ds.length) H hc hc2 (by omega) (by omega)
  have hs' : h'[s]? = some (.lst ds) := (st.keep s hsn hsm (List.getElem?_eq_some_iff.mp hs).1).trans hs
  obtain ⟨d, hd, ed⟩ := at_of r1 r2
  refine ⟨d, h', runB_ret rfl (sRet_eq ((cBin_eq (x := .ref s) (y := .int r) (h1 := h) (h2 := h') rfl (cFn_eq (aCons_eq (x := .ref n) (h1 := h) rfl (aCons_eq (x := .int ds.length) (h1 := h) (h2 := h) ?_ aNil_eq)) |>.trans e)).trans ?_)), hd, H', st⟩
  · refine (cCall_eq (aCons_eq (x := .ref s) (h1 := h) rfl aNil_eq)).trans ?_
    simp only [fLen, hs]
  · simp only [opIx, seqD, hs', ed]
end Mi

namespace Mi
open L2 PySem PySem.Spec PyProof.Rows

/-! ### texts of few plain signs -/
def Asc (n : Nat) (x : Str) : Prop := x.length ≤ n ∧ ∀ c ∈ x.cps.toList, c < 128
theorem len_list (x : Str) : x.length = x.cps.toList.length := by simp [Str.length]
theorem Asc.mono {n m : Nat} {x : Str} (a : Asc n x) (h : n ≤ m) : Asc m x := ⟨Nat.le_trans a.1 h, a.2⟩
theorem Asc.app {n m : Nat} {x y : Str} (a : Asc n x) (b : Asc m y) : Asc (n + m) (x ++ y) := by
  have e : (x ++ y).cps.toList = x.cps.toList ++ y.cps.toList := by
    show (x.cps ++ y.cps).toList = _
    simp
  refine ⟨?_, fun c hc => ?_⟩
  · rw [len_list, e, List.length_append, ← len_list, ← len_list]
    exact Nat.add_le_add a.1 b.1
  · rw [e] at hc
    rcases List.mem_append.mp hc with q | q
    · exact a.2 c q
    · exact b.2 c q
theorem asc_nil : Asc 0 (⟨#[]⟩ : Str) := ⟨Nat.le_refl _, fun c hc => by simp at hc⟩
theorem asc_one {c : Nat} (h : c < 128) : Asc 1 (⟨#[c]⟩ : Str) := ⟨Nat.le_refl _, fun d hd => by simp at hd; omega⟩
theorem Asc.sub {n : Nat} {x : Str} {l : List Nat} (a : Asc n x) (s : l.Sublist x.cps.toList) : Asc n ⟨l.toArray⟩ := by
  refine ⟨?_, fun c hc => a.2 c (s.subset (by simpa using hc))⟩
  rw [len_list]
  have := s.length_le
  rw [← len_list] at this
  exact Nat.le_trans (by simpa using this) a.1
theorem Asc.cut {n : Nat} {x : Str} (a : Asc n x) (lo hi : Option Int) : Asc n (cutS x lo hi) :=
  a.sub ((List.take_sublist _ _).trans (List.drop_sublist _ _))
theorem asc_join : ∀ ys : List Str, (∀ y ∈ ys, Asc 1 y) → Asc ys.length (Str.join (⟨#[]⟩ : Str) ys)
  | [], _ => asc_nil
  | [y], h => h y List.mem_cons_self
  | y :: z :: r, h => by
    have ih := asc_join (z :: r) fun w hw => h w (List.mem_cons_of_mem _ hw)
    have q := ((h y List.mem_cons_self).app asc_nil).app ih
    refine q.mono ?_
    simp only [List.length_cons]
    omega
theorem Asc.ok {n : Nat} {x : Str} (a : Asc n x) : PyData.strOk x = true := by
  unfold PyData.strOk
  rw [← Array.all_toList]
  refine List.all_eq_true.mpr fun c hc => ?_
  have := a.2 c hc
  simp only [decide_eq_true_eq]
  omega
/-- the text of what is data -/
theorem reprD_of {h : AH} {d : D} {p : PyData} (e : pd 60 h d = some p) (h1 : p.showable = true) (h2 : PyData.layable0 p = true) (h3 : p.intsShort 13 = true) : ∃ s, reprD d h = some s := by
  have z := shown_le13 h2 h3
  have q : p.showable = true ∧ p.shown.length ≤ sizeLine := ⟨h1, by rw [sizeLine_eq]; omega⟩
  refine ⟨p.shown, ?_⟩
  unfold reprD
  rw [e]
  simp only
  rw [if_pos q]
theorem reprD_str {h : AH} {x : Str} {n : Nat} (a : Asc n x) (hn : n ≤ 100000) : ∃ s, reprD (.str x) h = some s := by
  refine reprD_of (p := .str x) rfl (by simp [PyData.showable]) ?_ (by simp [PyData.intsShort])
  have : x.cps.size ≤ n := a.1
  have z : x.cps.size ≤ 2 ^ 20 := by omega
  simp only [PyData.layable0, PyData.canLay0, a.ok, PyData.depth, PyData.weight, Bool.true_and, Bool.and_eq_true, decide_eq_true_eq]
  exact ⟨rfl, decide_eq_true z⟩

/-! ### what is behind stays as it is -/
theorem getElem_pre {h h' : AH} {n : Nat} {o : O} (p : h <+: h') (e : h[n]? = some o) : h'[n]? = some o := by
  obtain ⟨r, rfl⟩ := p
  rw [List.getElem?_append_left (List.getElem?_eq_some_iff.mp e).1]
  exact e
theorem omap_imp {α β : Type} {f g : α → Option β} (i : ∀ x y, f x = some y → g x = some y) : ∀ {xs : List α} {ys : List β}, omap f xs = some ys → omap g xs = some ys
  | [], _, e => e
  | x :: xs, ys, e => by
    unfold omap at e ⊢
    cases q1 : f x with
    | none => rw [q1] at e; cases e
    | some y =>
      cases q2 : omap f xs with
      | none => rw [q1, q2] at e; cases e
      | some zs =>
        rw [q1, q2] at e
        rw [i _ _ q1, omap_imp i q2]
        exact e
theorem pd_pre {h h' : AH} (p : h <+: h') : ∀ (n : Nat) (d : D) (q : PyData), pd n h d = some q → pd n h' d = some q := by
  intro n
  induction n with
  | zero =>
    intro d q e
    cases d <;> simp only [pd] at e ⊢ <;> first | exact e | cases e
  | succ n ih =>
    intro d q e
    cases d with
    | tup xs =>
      simp only [pd, Option.map_eq_some_iff] at e ⊢
      obtain ⟨ps, z, rfl⟩ := e
      exact ⟨ps, omap_imp ih z, rfl⟩
    | rol xs =>
      simp only [pd, Option.map_eq_some_iff] at e ⊢
      obtain ⟨ps, z, rfl⟩ := e
      exact ⟨ps, omap_imp ih z, rfl⟩
    | ref r =>
      simp only [pd] at e ⊢
      split at e <;> first | (cases e; done) | skip
      rename_i xs q1
      rw [getElem_pre p q1]
      obtain ⟨ps, z, rfl⟩ := Option.map_eq_some_iff.mp e
      exact Option.map_eq_some_iff.mpr ⟨ps, omap_imp ih z, rfl⟩
    | _ => simp only [pd] at e ⊢ <;> first | exact e | cases e
def pd0 : D → Option PyData
  | .non => some .none
  | .bl b => some (.bool b)
  | .int i => some (.int i)
  | .str x => some (.str x)
  | _ => none
theorem pd_zero {h : AH} {d : D} : pd 0 h d = pd0 d := by cases d <;> rfl
theorem reprD_pre {h h' : AH} (p : h <+: h') {d : D} {s : Str} (e : reprD d h = some s) : reprD d h' = some s := by
  unfold reprD at e ⊢
  cases q : pd 60 h d with
  | some x =>
    rw [q] at e
    rw [pd_pre p _ _ _ q]
    exact e
  | none =>
    rw [q] at e
    simp only at e
    cases d with
    | ref n =>
      simp only [pdDict] at e
      cases q2 : h[n]? with
      | none => rw [q2] at e; cases e
      | some o =>
        rw [q2] at e
        cases o with
        | dic kvs =>
          have e0 : (pd 60 h' (.ref n)) = none := by simp only [pd, getElem_pre p q2]
          have same : pdDict h' (.ref n) = pdDict h (.ref n) := by
            unfold pdDict
            simp only [getElem_pre p q2, q2, pd_zero]
          rw [e0, same]
          unfold pdDict
          simp only [q2]
          exact e
        | _ => cases e
    | _ => cases e
theorem tyD_pre {h h' : AH} (p : h <+: h') {d : D} {t : String} (e : tyD d h = some t) : tyD d h' = some t := by
  cases d with
  | ref n =>
    simp only [tyD] at e ⊢
    cases q2 : h[n]? with
    | none => rw [q2] at e; cases e
    | some o =>
      rw [getElem_pre p q2]
      rw [q2] at e
      exact e
  | _ => exact e
end Mi

namespace Mi
open L2 PySem PySem.Spec PyProof.Rows

/-- [y for d in ds if b]: nothing is changed by y, b -/
theorem cComp_filter {iF : IF} {g : TF'} {t : TF} {F : EF} {own : List Nat} {ε : AEnv} {h h1 : AH} {ds : List D} (hi : iF ε h = .ok (.fix ds) h1) (hs : ds.length < sizeLine) (e : D → AEnv) (b : D → Bool) (y : D → D)
    (hg : ∀ d ∈ ds, ∀ h, g d (wipeA ε own) h = some (e d)) (ht : ∀ d ∈ ds, ∀ h, t (e d) h = .ok (b d) h) (hF : ∀ d ∈ ds, ∀ h, F (e d) h = .ok (y d) h) : cComp iF g t F own ε h = .ok (.ref h1.length) (h1 ++ [.lst ((ds.filter b).map y)]) := by
  have tk : ∀ i (hi : i < ds.length), ds.take (i + 1) = ds.take i ++ [ds[i]] := fun i hi => by rw [List.take_succ, List.getElem?_eq_getElem hi]; rfl
  obtain ⟨acc, h', e1, rfl, rfl⟩ := cComp_inv (it := .fix ds) (g := g) (t := t) (F := F) (own := own) hi (fun i acc h2 => acc = ((ds.take i).filter b).map y ∧ h2 = h1 ++ [.lst acc]) ds.length rfl hs
    (by rintro i acc h2 ⟨_, rfl⟩; simp)
    (by
      rintro i acc h2 ⟨rfl, _⟩
      rw [List.length_map]
      exact Nat.le_trans (List.length_filter_le _ _) (by rw [List.length_take]; exact Nat.min_le_left _ _))
    ⟨by simp, rfl⟩
    (by
      rintro i acc h2 hlt ⟨rfl, rfl⟩
      have hm : ds[i] ∈ ds := List.getElem_mem hlt
      refine ⟨ds[i], e ds[i], b ds[i], _, by simp [AIt.item, hlt], hg _ hm _, ht _ hm _, ?_⟩
      cases q : b ds[i] with
      | false => exact .inl ⟨rfl, by rw [tk i hlt, List.filter_append]; simp [q], rfl⟩
      | true => exact .inr ⟨rfl, y ds[i], _, hF _ hm _, by simp, by rw [tk i hlt, List.filter_append]; simp [q], by simp⟩)
    (by rintro acc h2 _; rfl)
  rw [e1, List.take_length]

/-! ### rows of texts -/
theorem strs_shaped {ys : List Str} (hy : ∀ y ∈ ys, PyData.strOk y = true) : SeqAt.shaped (.list (ys.map PyData.str)) = true := by
  have h1 : ∀ ys : List Str, (∀ y ∈ ys, PyData.strOk y = true) → PyData.canLayAll0 (ys.map PyData.str) = true := fun ys => by
    induction ys with
    | nil => intro _; simp [PyData.canLayAll0]
    | cons c cs ih =>
      intro hy
      simp [PyData.canLayAll0, PyData.canLay0, hy c List.mem_cons_self, ih fun z hz => hy z (List.mem_cons_of_mem _ hz)]
  have h2 : ∀ cs : List Str, PyData.depthAll (cs.map PyData.str) = 0 := fun cs => by
    induction cs with
    | nil => simp [PyData.depthAll]
    | cons c cs ih => simp [PyData.depthAll, PyData.depth, ih]
  simp [SeqAt.shaped, PyData.canLay0, PyData.depth, h1 ys hy, h2]
theorem pd_strs (h : AH) (k : Nat) : ∀ ys : List Str, omap (pd k h) (ys.map D.str) = some (ys.map PyData.str)
  | [] => rfl
  | c :: cs => by
    simp only [List.map_cons]
    unfold omap
    rw [pd_strs h k cs]
    cases k <;> rfl
theorem pd_lst {h : AH} {n k : Nat} {ds : List D} {ps : List PyData} (e : h[n]? = some (.lst ds)) (q : omap (pd k h) ds = some ps) : pd (k + 1) h (.ref n) = some (.list ps) := by
  simp only [pd, e, q, Option.map_some]
theorem eqv_strs (ys : List Str) : PyData.eqv (.list (ys.map PyData.str)) (.list []) = ys.isEmpty := by
  cases ys with
  | nil => simp [PyData.eqv, PyData.eqvAll]
  | cons c cs => simp [PyData.eqv, PyData.eqvAll]
/-- a row of texts == [] -/
theorem opEq_strs {h : AH} {n m : Nat} {ys : List Str} (hn : h[n]? = some (.lst (ys.map D.str))) (hm : h[m]? = some (.lst [])) (hy : ∀ y ∈ ys, PyData.strOk y = true) : opEq (.ref n) (.ref m) h = .ok (.bl ys.isEmpty) h := by
  have p1 := pd_lst hn (pd_strs h 65 ys)
  have p2 : pd 66 h (.ref m) = some (.list []) := pd_lst hm rfl
  have s2 : SeqAt.shaped (.list []) = true := shaped_ints []
  simp only [opEq, scalEq, p1, p2, strs_shaped hy, s2, and_self, if_true, eqv_strs]
theorem get_last {h : AH} {o : O} : (h ++ [o])[h.length]? = some o := by simp
theorem get_old {h : AH} {o : O} {n : Nat} {u : O} (e : h[n]? = some u) : (h ++ [o])[n]? = some u := by
  rw [List.getElem?_append_left (List.getElem?_eq_some_iff.mp e).1]
  exact e
end Mi

namespace K01
open Mi L2 PySem PySem.Spec PyProof.Rows
def top (i : Nat) : Stmt := PySem.Challenge.pw_everso_k01_names_of_anything.main.body.getD i (.Pass ⟨0, 0, 0, 0⟩)
abbrev st_l_begun : Stmt := top 4
abbrev N_l_begun : List Str := [("_law_script" : Str), ("_law_cell" : Str), ("_law_cells" : Str), ("_law_total" : Str)]
abbrev ps_l_begun : List Str := [("_law_script" : Str)]
theorem sc_l_begun : FnScope N_l_begun ps_l_begun (defScope st_l_begun) := ⟨rfl, rfl, rfl, by decide +kernel, rfl, by decide +kernel, by decide +kernel⟩
theorem bd_l_begun : Bd ("_law_begun" : Str) st_l_begun ps_l_begun := fun _ _ _ _ _ _ us hl => match us, hl with | [_], _ => rfl
def b_l_begun : SF := (sSeq (sPar2 2 3 (cCall fList (aCons (cCut (cVar 0) oNone (oSome (cC (.int 63)))) aNil)) (cC (.int 50021)))
    (sSeq (sFor (iAny (cVar 2)) (gN 1) (sSet 3 (cBin opMod (cBin opAdd (cBin opAdd (cBin opMul (cVar 3) (cC (.int 48271))) (cBin opMod (cVar 1) (cC (.int 2147483563)))) (cC (.int 17))) (cC (.int 2147483629)))))
    (sRet (cLst (aCons (cRev (cVar 2)) (aCons (cVar 3) (aCons (cC (.int 0)) aNil)))))))
def f_l_begun : FN := runB ps_l_begun.length N_l_begun.length b_l_begun
abbrev st_l_dealt : Stmt := top 5
abbrev N_l_dealt : List Str := [("_law_hand" : Str), ("_law_lots" : Str), ("_law_cell" : Str), ("_law_mixed" : Str)]
abbrev ps_l_dealt : List Str := [("_law_hand" : Str), ("_law_lots" : Str)]
theorem sc_l_dealt : FnScope N_l_dealt ps_l_dealt (defScope st_l_dealt) := ⟨rfl, rfl, rfl, by decide +kernel, rfl, by decide +kernel, by decide +kernel⟩
theorem bd_l_dealt : Bd ("_law_dealt" : Str) st_l_dealt ps_l_dealt := fun _ _ _ _ _ _ us hl => match us, hl with | [_, _], _ => rfl
def b_l_dealt : SF := (sSeq (sPut (cBin opAdd (cBin opIx (cVar 0) (cC (.int 2))) (cC (.int 1))) (cVar 0) (cC (.int 2)))
    (sSeq (sSet 2 (cBin opIx (cVar 0) (cC (.int 1))))
    (sSeq (sIf (tVal (cBin opNe (cBin opIx (cVar 0) (cC (.int 0))) (cLst aNil)))
      (sSeq (sSet 2 (cMeth "list" mPop (cBin opIx (cVar 0) (cC (.int 0))) aNil))
    (sIf (tVal (cBin opGe (cVar 2) (cBin opPow (cC (.int 10)) (cC (.int 18)))))
      (sSeq (sExpr (cMeth "list" mAppend (cBin opIx (cVar 0) (cC (.int 0))) (aCons (cBin opFdiv (cVar 2) (cVar 1)) aNil)))
    (sRet (cBin opMod (cVar 2) (cVar 1))))
      sPass))
      sPass)
    (sSeq (sSet 3 (cBin opAdd (cBin opAdd (cBin opAdd (cBin opMod (cVar 2) (cC (.int 2147483629))) (cBin opMul (cBin opMul (cC (.int 16807)) (cBin opIx (cVar 0) (cC (.int 2)))) (cBin opIx (cVar 0) (cC (.int 2))))) (cBin opIx (cVar 0) (cC (.int 1)))) (cC (.int 97))))
    (sSeq (sSet 3 (cBin opMod (cBin opMul (cVar 3) (cC (.int 48271))) (cC (.int 2147483647))))
    (sSeq (sSet 3 (cBin opMod (cBin opAdd (cBin opAdd (cBin opMul (cVar 3) (cVar 3)) (cBin opMul (cC (.int 69621)) (cBin opIx (cVar 0) (cC (.int 2))))) (cC (.int 11))) (cC (.int 2147483587))))
    (sRet (cBin opMod (cBin opFdiv (cBin opMod (cBin opMul (cVar 3) (cBin opAdd (cBin opFdiv (cVar 3) (cC (.int 5))) (cC (.int 39373)))) (cC (.int 2147483563))) (cC (.int 128))) (cVar 1)))))))))
def f_l_dealt : FN := runB ps_l_dealt.length N_l_dealt.length b_l_dealt
abbrev st_l_pick : Stmt := top 6
abbrev N_l_pick : List Str := [("_law_hand" : Str), ("_law_some" : Str)]
abbrev ps_l_pick : List Str := [("_law_hand" : Str), ("_law_some" : Str)]
theorem sc_l_pick : FnScope N_l_pick ps_l_pick (defScope st_l_pick) := ⟨rfl, rfl, rfl, by decide +kernel, rfl, by decide +kernel, by decide +kernel⟩
theorem bd_l_pick : Bd ("_law_pick" : Str) st_l_pick ps_l_pick := fun _ _ _ _ _ _ us hl => match us, hl with | [_, _], _ => rfl
def b_l_pick : SF := (sRet (cBin opIx (cVar 1) (cFn f_l_dealt (aCons (cVar 0) (aCons (cCall fLen (aCons (cVar 1) aNil)) aNil)))))
def f_l_pick : FN := runB ps_l_pick.length N_l_pick.length b_l_pick
abbrev st_l_text_of : Stmt := top 8
abbrev N_l_text_of : List Str := [("_law_hand" : Str), ("_law_letters" : Str), ("_law_sign" : Str), ("_law_found" : Str), ("_law_odd" : Str), ("_law_size" : Str), ("_law_at" : Str), ("_law_turn" : Str)]
abbrev ps_l_text_of : List Str := [("_law_hand" : Str)]
theorem sc_l_text_of : FnScope N_l_text_of ps_l_text_of (defScope st_l_text_of) := ⟨rfl, rfl, rfl, by decide +kernel, rfl, by decide +kernel, by decide +kernel⟩
theorem bd_l_text_of : Bd ("_law_text_of" : Str) st_l_text_of ps_l_text_of := fun _ _ _ _ _ _ us hl => match us, hl with | [_], _ => rfl
def b_l_text_of : SF := (sSeq (sSet 1 (cC (.str ("abcdefghijklmnopqrstuvwxyz" : Str))))
    (sSeq (sPar3 4 5 6 (cBin opEq (cFn f_l_dealt (aCons (cVar 0) (aCons (cC (.int 2)) aNil))) (cC (.int 1))) (cFn f_l_dealt (aCons (cVar 0) (aCons (cC (.int 10)) aNil))) (cFn f_l_dealt (aCons (cVar 0) (aCons (cC (.int 9)) aNil))))
    (sSeq (sSet 2 (cFn f_l_pick (aCons (cVar 0) (aCons (cLst (aCons (cC (.str ("A" : Str))) (aCons (cC (.str ("Z" : Str))) (aCons (cC (.str ("0" : Str))) (aCons (cC (.str ("9" : Str))) (aCons (cC (.str (" " : Str))) (aCons (cC (.str ("." : Str))) (aCons (cC (.str (":" : Str))) (aCons (cC (.str ("'" : Str))) (aCons (cC (.str ("\n" : Str))) (aCons (cC (.str ("`" : Str))) (aCons (cC (.str ("{" : Str))) (aCons (cC (.str ("_" : Str))) (aCons (cC (.str ("-" : Str))) (aCons (cC (.str ("@" : Str))) (aCons (cC (.str ("[" : Str))) (aCons (cC (.str ("~" : Str))) (aCons (cC (.str ("!" : Str))) aNil)))))))))))))))))) aNil))))
    (sSeq (sSet 3 (cMeth "str" mJoin (cC (.str ("" : Str))) (aCons (cComp (iRange1 (cVar 5)) (gN 7) tYes' (cBin opIx (cVar 1) (cFn f_l_dealt (aCons (cVar 0) (aCons (cC (.int 26)) aNil)))) [7]) aNil)))
    (sRet (cIf (tTru (cVar 4)) (cBin opAdd (cBin opAdd (cCut (cVar 3) oNone (oSome (cVar 6))) (cVar 2)) (cCut (cVar 3) (oSome (cBin opAdd (cVar 6) (cC (.int 1)))) oNone)) (cVar 3)))))))
def f_l_text_of : FN := runB ps_l_text_of.length N_l_text_of.length b_l_text_of
abbrev st_is_name : Stmt := top 2
abbrev N_is_name : List Str := [("thing" : Str)]
abbrev ps_is_name : List Str := [("thing" : Str)]
theorem sc_is_name : FnScope N_is_name ps_is_name (defScope st_is_name) := ⟨rfl, rfl, rfl, by decide +kernel, rfl, by decide +kernel, by decide +kernel⟩
theorem bd_is_name : Bd ("is_name" : Str) st_is_name ps_is_name := fun _ _ _ _ _ _ us hl => match us, hl with | [_], _ => rfl
def b_is_name : SF := (sSeq (sIf (tOr' (tNot' (tVal (cCall fIsi (aCons (cVar 0) (aCons (cC (.ty "str")) aNil))))) (tNot' (tVal (cChain opLe opLe (cC (.int 1)) (cCall fLen (aCons (cVar 0) aNil)) (cC (.int 8))))))
      (sRet (cC (.bl false)))
      sPass)
    (sRet (cAllS (between ("a" : Str) ("z" : Str)) (cVar 0))))
def f_is_name : FN := runB ps_is_name.length N_is_name.length b_is_name
abbrev st_l_deemed : Stmt := top 7
abbrev N_l_deemed : List Str := [("_law_it" : Str), ("_law_sign" : Str)]
abbrev ps_l_deemed : List Str := [("_law_it" : Str)]
theorem sc_l_deemed : FnScope N_l_deemed ps_l_deemed (defScope st_l_deemed) := ⟨rfl, rfl, rfl, by decide +kernel, rfl, by decide +kernel, by decide +kernel⟩
theorem bd_l_deemed : Bd ("_law_deemed" : Str) st_l_deemed ps_l_deemed := fun _ _ _ _ _ _ us hl => match us, hl with | [_], _ => rfl
def b_l_deemed : SF := (sSeq (sIf (tOr' (tNot' (tVal (cCall fIsi (aCons (cVar 0) (aCons (cC (.ty "str")) aNil))))) (tOr' (tVal (cBin opLt (cCall fLen (aCons (cVar 0) aNil)) (cC (.int 1)))) (tVal (cBin opGt (cCall fLen (aCons (cVar 0) aNil)) (cC (.int 8))))))
      (sRet (cC (.bl false)))
      sPass)
    (sRet (cBin opEq (cComp (iAny (cVar 0)) (gN 1) (tVal (cBin opLt (cMeth "str" mFind (cC (.str ("abcdefghijklmnopqrstuvwxyz" : Str))) (aCons (cVar 1) aNil)) (cC (.int 0)))) (cVar 1) [1]) (cLst aNil))))
def f_l_deemed : FN := runB ps_l_deemed.length N_l_deemed.length b_l_deemed
abbrev st_l_right : Stmt := top 9
abbrev N_l_right : List Str := [("_law_it" : Str), ("_law_kept" : Str)]
abbrev ps_l_right : List Str := [("_law_it" : Str)]
theorem sc_l_right : FnScope N_l_right ps_l_right (defScope st_l_right) := ⟨rfl, rfl, rfl, by decide +kernel, rfl, by decide +kernel, by decide +kernel⟩
theorem bd_l_right : Bd ("_law_right" : Str) st_l_right ps_l_right := fun _ _ _ _ _ _ us hl => match us, hl with | [_], _ => rfl
def b_l_right : SF := (sSeq (sSet 1 (cCall fRepr (aCons (cVar 0) aNil)))
    (sRet (cAnd (cBin opEq (cCall fRepr (aCons (cLst (aCons (cFn f_is_name (aCons (cVar 0) aNil)) (aCons (cFn (fun es h => f_is_name (pm0 es) h) (aCons (cVar 0) aNil)) aNil))) aNil)) (cCall fRepr (aCons (cBin opMul (cLst (aCons (cFn f_l_deemed (aCons (cVar 0) aNil)) aNil)) (cC (.int 2))) aNil))) (cBin opEq (cCall fRepr (aCons (cVar 0) aNil)) (cVar 1)))))
def f_l_right : FN := runB ps_l_right.length N_l_right.length b_l_right
abbrev st_law : Stmt := top 10
abbrev N_law : List Str := [("_law_script" : Str), ("_law_hand" : Str), ("_law_some" : Str), ("_law_turn" : Str), ("_law_it" : Str)]
abbrev ps_law : List Str := [("_law_script" : Str)]
theorem sc_law : FnScope N_law ps_law (defScope st_law) := ⟨rfl, rfl, rfl, by decide +kernel, rfl, by decide +kernel, by decide +kernel⟩
theorem bd_law : Bd ("law" : Str) st_law ps_law := fun _ _ _ _ _ _ us hl => match us, hl with | [_], _ => rfl
def b_law : SF := (sSeq (sSet 1 (cFn f_l_begun (aCons (cVar 0) aNil)))
    (sSeq (sSet 2 (cComp (iRange1 (cC (.int 40))) (gN 3) tYes' (cFn f_l_text_of (aCons (cVar 1) aNil)) [3]))
    (sSeq (sSet 2 (cBin opAdd (cVar 2) (cLst (aCons (cC (.str ("row" : Str))) (aCons (cC (.str ("none" : Str))) (aCons (cC (.str ("yes" : Str))) (aCons (cC (.str ("main" : Str))) (aCons (cC (.str ("a" : Str))) (aCons (cC (.str ("abcdefgh" : Str))) (aCons (cC (.str ("abcdefghi" : Str))) (aCons (cC (.str ("" : Str))) (aCons (cC .non) (aCons (cC (.bl true)) (aCons (cC (.bl false)) (aCons (cC (.int 0)) (aCons (cC (.int 1)) (aCons (cBin opPow (cC (.int 10)) (cC (.int 39))) aNil)))))))))))))))))
    (sSeq (sSet 2 (cBin opAdd (cVar 2) (cLst (aCons (cTup (aCons (cC (.str ("a" : Str))) aNil)) (aCons (cLst (aCons (cC (.str ("a" : Str))) aNil)) (aCons (cD1 ("a" : Str) (cC (.str ("a" : Str)))) (aCons (cTup aNil) (aCons (cLst aNil) (aCons cD0 (aCons (cTup (aCons (cC (.str ("deed" : Str))) (aCons (cC (.str ("a" : Str))) (aCons (cC (.str ("b" : Str))) aNil)))) (aCons (cTup (aCons (cC (.str ("row" : Str))) (aCons (cTup (aCons (cC (.str ("a" : Str))) aNil)) aNil))) (aCons (cTup (aCons (cC (.str ("thing" : Str))) (aCons (cC (.int 0)) aNil))) (aCons (cBin opMul (cC (.str ("a" : Str))) (cC (.int 4000))) aNil)))))))))))))
    (sRet (cBin opEq (cComp (iAny (cBin opAdd (cVar 2) (cRev (cVar 2)))) (gN 4) (tNot' (tVal (cFn f_l_right (aCons (cVar 4) aNil)))) (cVar 4) [4]) (cLst aNil)))))))
def f_law : FN := runB ps_law.length N_law.length b_law
theorem bk_is_name_0 : BdK ("is_name" : Str) st_is_name ps_is_name [("thing" : Str)] 0 (fun _ ws => pm0 ws) := fun _ _ _ _ _ _ us ws h1 h2 => match us, ws, h1, h2 with | [], [_], _, _ => rfl
structure Txt (K : PySem.W.Frag) (mg : Str → Option Value) : Prop where
  b_all : mg ("all" : Str) = none
  b_isinstance : mg ("isinstance" : Str) = none
  b_len : mg ("len" : Str) = none
  b_list : mg ("list" : Str) = none
  b_range : mg ("range" : Str) = none
  b_repr : mg ("repr" : Str) = none
  b_str : mg ("str" : Str) = none
  g_NAME_SIGNS : ∃ u, mg ("NAME_SIGNS" : Str) = some u ∧ RelV (.int 8) u
section
variable {P : Program} {w : World} {K : PySem.W.Frag} {mg : Str → Option Value} {base : Heap} {cls ts : List Addr}
theorem ok_l_begun (T : Txt K mg) {f : Addr} {cdv : Value} {fd : FuncData} (D : Kd K mg ("_law_begun" : Str) st_l_begun f cdv fd) : Ca P w K mg base cls ts 1 ("_law_begun" : Str) st_l_begun ps_l_begun f_l_begun :=
  ⟨f, cdv, fd, D, D.fn sc_l_begun fun A outer s H E hg hr tk =>
    (ss_cons (s_par2 (i := 2) (j := 3) rfl sc_l_begun.nd rfl rfl (by decide) rfl rfl (e_callTy call_list_of list_ok (by rfl) T.b_list boot_list (a_cons (e_cut (e_var 0) o_none (o_some e_int)) a_nil)) e_int rfl)
    (ss_cons (s_for (passes_of rfl) rfl (i_any (e_var 2)) (g_name (i := 1) sc_l_begun.nd rfl (Or.inl rfl)) (ss_one (s_set (i := 3) sc_l_begun.nd rfl (Or.inl rfl) (e_bin op_modN opMod_ok (e_bin op_addM opAdd_ok (e_bin op_addM opAdd_ok (e_bin op_mulM opMul_ok (e_var 3) e_int) (e_bin op_modN opMod_ok (e_var 1) e_int)) e_int) e_int))))
    (ss_one (s_ret (e_lst (a_cons (e_rev (e_var 2)) (a_cons (e_var 3) (a_cons e_int a_nil))))))))⟩
theorem ok_l_dealt (T : Txt K mg) {f : Addr} {cdv : Value} {fd : FuncData} (D : Kd K mg ("_law_dealt" : Str) st_l_dealt f cdv fd) : Ca P w K mg base cls ts 1 ("_law_dealt" : Str) st_l_dealt ps_l_dealt f_l_dealt :=
  ⟨f, cdv, fd, D, D.fn sc_l_dealt fun A outer s H E hg hr tk =>
    (ss_cons (s_put (e_bin op_addM opAdd_ok (e_ix (e_var 0) e_int) e_int) (e_var 0) e_int)
    (ss_cons (s_set (i := 2) sc_l_dealt.nd rfl (Or.inl rfl) (e_ix (e_var 0) e_int))
    (ss_cons (s_if (t_cmp (op_neM hr.units) opNe_ok (e_ix (e_var 0) e_int) (e_lst a_nil) (by rfl))
      (ss_cons (s_set (i := 2) sc_l_dealt.nd rfl (Or.inl rfl) (e_meth0 (.inl rfl) PySem.F.plainAttrs_list PySem.F.slot_list_pop PySem.F.type_list_pop mt_pop pop_ok (e_ix (e_var 0) e_int)))
    (ss_one (s_if (t_cmp op_geM opGe_ok (e_var 2) (e_bin op_pow opPow_ok e_int e_int) (by rfl))
      (ss_cons (s_expr (e_meth (.inl rfl) PySem.F.plainAttrs_list PySem.F.slot_list_append PySem.F.type_list_append mt_append append_ok (e_ix (e_var 0) e_int) (a_cons (e_bin op_fdivN opFdiv_ok (e_var 2) (e_var 1)) a_nil)))
    (ss_one (s_ret (e_bin op_modN opMod_ok (e_var 2) (e_var 1)))))
      ss_nil)))
      ss_nil)
    (ss_cons (s_set (i := 3) sc_l_dealt.nd rfl (Or.inl rfl) (e_bin op_addM opAdd_ok (e_bin op_addM opAdd_ok (e_bin op_addM opAdd_ok (e_bin op_modN opMod_ok (e_var 2) e_int) (e_bin op_mulM opMul_ok (e_bin op_mulM opMul_ok e_int (e_ix (e_var 0) e_int)) (e_ix (e_var 0) e_int))) (e_ix (e_var 0) e_int)) e_int))
    (ss_cons (s_set (i := 3) sc_l_dealt.nd rfl (Or.inl rfl) (e_bin op_modN opMod_ok (e_bin op_mulM opMul_ok (e_var 3) e_int) e_int))
    (ss_cons (s_set (i := 3) sc_l_dealt.nd rfl (Or.inl rfl) (e_bin op_modN opMod_ok (e_bin op_addM opAdd_ok (e_bin op_addM opAdd_ok (e_bin op_mulM opMul_ok (e_var 3) (e_var 3)) (e_bin op_mulM opMul_ok e_int (e_ix (e_var 0) e_int))) e_int) e_int))
    (ss_one (s_ret (e_bin op_modN opMod_ok (e_bin op_fdivN opFdiv_ok (e_bin op_modN opMod_ok (e_bin op_mulM opMul_ok (e_var 3) (e_bin op_addM opAdd_ok (e_bin op_fdivN opFdiv_ok (e_var 3) e_int) e_int)) e_int) e_int) (e_var 1))))))))))⟩
theorem ok_l_pick (T : Txt K mg) (C_l_dealt : Ca P w K mg base cls ts 1 ("_law_dealt" : Str) st_l_dealt ps_l_dealt f_l_dealt) {f : Addr} {cdv : Value} {fd : FuncData} (D : Kd K mg ("_law_pick" : Str) st_l_pick f cdv fd) : Ca P w K mg base cls ts 2 ("_law_pick" : Str) st_l_pick ps_l_pick f_l_pick :=
  ⟨f, cdv, fd, D, D.fn sc_l_pick fun A outer s H E hg hr tk =>
    (ss_one (s_ret (e_ix (e_var 1) (e_ca C_l_dealt bd_l_dealt hg (hr.mono (by decide)) tk (by rfl) (a_cons (e_var 0) (a_cons (e_callB call_lenM len_ok (by rfl) T.b_len PySem.boot_len (a_cons (e_var 1) a_nil)) a_nil))))))⟩
theorem ok_l_text_of (T : Txt K mg) (C_l_dealt : Ca P w K mg base cls ts 1 ("_law_dealt" : Str) st_l_dealt ps_l_dealt f_l_dealt) (C_l_pick : Ca P w K mg base cls ts 2 ("_law_pick" : Str) st_l_pick ps_l_pick f_l_pick) {f : Addr} {cdv : Value} {fd : FuncData} (D : Kd K mg ("_law_text_of" : Str) st_l_text_of f cdv fd) : Ca P w K mg base cls ts 3 ("_law_text_of" : Str) st_l_text_of ps_l_text_of f_l_text_of :=
  ⟨f, cdv, fd, D, D.fn sc_l_text_of fun A outer s H E hg hr tk =>
    (ss_cons (s_set (i := 1) sc_l_text_of.nd rfl (Or.inr rfl) e_str)
    (ss_cons (s_par3 (i := 4) (j := 5) (k := 6) rfl sc_l_text_of.nd rfl rfl rfl (by decide) (by decide) (by decide) rfl rfl rfl (e_cmp (op_eqM hr.units) opEq_ok (e_ca C_l_dealt bd_l_dealt hg (hr.mono (by decide)) tk (by rfl) (a_cons (e_var 0) (a_cons e_int a_nil))) e_int (by rfl)) (e_ca C_l_dealt bd_l_dealt hg (hr.mono (by decide)) tk (by rfl) (a_cons (e_var 0) (a_cons e_int a_nil))) (e_ca C_l_dealt bd_l_dealt hg (hr.mono (by decide)) tk (by rfl) (a_cons (e_var 0) (a_cons e_int a_nil))) rfl)
    (ss_cons (s_set (i := 2) sc_l_text_of.nd rfl (Or.inl rfl) (e_ca C_l_pick bd_l_pick hg (hr.mono (by decide)) tk (by rfl) (a_cons (e_var 0) (a_cons (e_lst (a_cons e_str (a_cons e_str (a_cons e_str (a_cons e_str (a_cons e_str (a_cons e_str (a_cons e_str (a_cons e_str (a_cons e_str (a_cons e_str (a_cons e_str (a_cons e_str (a_cons e_str (a_cons e_str (a_cons e_str (a_cons e_str (a_cons e_str a_nil)))))))))))))))))) a_nil))))
    (ss_cons (s_set (i := 3) sc_l_text_of.nd rfl (Or.inl rfl) (e_meth (.inr (.inl rfl)) PySem.F.plainAttrs_str PySem.F.slot_str_join PySem.F.type_str_join mt_join join_ok e_str (a_cons (e_comp (own := [(("_law_turn" : Str), 7)]) rfl sc_l_text_of.nd (i_range1 (by rfl) T.b_range (e_var 5)) (blkOk_by (N := N_l_text_of) (sc := defScope st_l_text_of) (by decide +kernel)) (by decide) (fun _ _ _ _ _ => (g_name (i := 7) sc_l_text_of.nd rfl (Or.inl rfl))) (fun _ _ _ _ _ => ts_nil) (fun _ _ _ _ _ => (e_ix (e_var 1) (e_ca C_l_dealt bd_l_dealt hg (hr.mono (by decide)) L2.takes0 (by rfl) (a_cons (e_var 0) (a_cons e_int a_nil)))))) a_nil)))
    (ss_one (s_ret (e_ifExp (t_tru (e_var 4)) (e_bin op_addM opAdd_ok (e_bin op_addM opAdd_ok (e_cut (e_var 3) o_none (o_some (e_var 6))) (e_var 2)) (e_cut (e_var 3) (o_some (e_bin op_addM opAdd_ok (e_var 6) e_int)) o_none)) (e_var 3))))))))⟩
theorem ok_is_name (T : Txt K mg) {c Pt : Addr} (TB : GxR.TabB base mg c Pt) (hP : Pt ∈ ts) {f : Addr} {fd : FuncData} (D : Kd K mg ("is_name" : Str) st_is_name f (.ref c) fd) : Ca P w K mg base cls ts 1 ("is_name" : Str) st_is_name ps_is_name f_is_name :=
  ⟨f, (.ref c), fd, D, D.fn sc_is_name fun A outer s H E hg hr tk =>
    (ss_cons (s_if (t_pw (w_or (t_not (t_val (e_callB call_isi isi_ok (by rfl) T.b_isinstance (by decide +kernel) (a_cons (e_var 0) (a_cons (e_bty (by rfl) T.b_str boot_str) a_nil))))) (w_or1 (t_not (t_chain op_leM opLe_ok op_leM opLe_ok e_int (e_callB call_lenM len_ok (by rfl) T.b_len PySem.boot_len (a_cons (e_var 0) a_nil)) (e_globE (by rfl) T.g_NAME_SIGNS))))))
      (ss_one (s_ret e_bl))
      ss_nil)
    (ss_one (s_ret (e_allS hr (by rfl) T.b_all TB rfl hP (genS_by (by decide +kernel)) (e_var 0) (elt_between rfl rfl) (by intro _; rfl)))))⟩
theorem ok_l_deemed (T : Txt K mg) {f : Addr} {cdv : Value} {fd : FuncData} (D : Kd K mg ("_law_deemed" : Str) st_l_deemed f cdv fd) : Ca P w K mg base cls ts 1 ("_law_deemed" : Str) st_l_deemed ps_l_deemed f_l_deemed :=
  ⟨f, cdv, fd, D, D.fn sc_l_deemed fun A outer s H E hg hr tk =>
    (ss_cons (s_if (t_pw (w_or (t_not (t_val (e_callB call_isi isi_ok (by rfl) T.b_isinstance (by decide +kernel) (a_cons (e_var 0) (a_cons (e_bty (by rfl) T.b_str boot_str) a_nil))))) (w_or (t_cmp op_ltM opLt_ok (e_callB call_lenM len_ok (by rfl) T.b_len PySem.boot_len (a_cons (e_var 0) a_nil)) e_int (by rfl)) (w_or1 (t_cmp op_gtM opGt_ok (e_callB call_lenM len_ok (by rfl) T.b_len PySem.boot_len (a_cons (e_var 0) a_nil)) e_int (by rfl))))))
      (ss_one (s_ret e_bl))
      ss_nil)
    (ss_one (s_ret (e_cmp (op_eqM hr.units) opEq_ok (e_comp (own := [(("_law_sign" : Str), 1)]) rfl sc_l_deemed.nd (i_any (e_var 0)) (blkOk_by (N := N_l_deemed) (sc := defScope st_l_deemed) (by decide +kernel)) (by decide) (fun _ _ _ _ _ => (g_name (i := 1) sc_l_deemed.nd rfl (Or.inl rfl))) (fun _ _ _ _ _ => (ts_one (t_cmp op_ltM opLt_ok (e_meth (.inr (.inl rfl)) PySem.F.plainAttrs_str PySem.F.slot_str_find PySem.F.type_str_find mt_find find_ok e_str (a_cons (e_var 1) a_nil)) e_int (by rfl)))) (fun _ _ _ _ _ => (e_var 1))) (e_lst a_nil) (by rfl)))))⟩
theorem ok_l_right (T : Txt K mg) (C_is_name : Ca P w K mg base cls ts 1 ("is_name" : Str) st_is_name ps_is_name f_is_name) (C_l_deemed : Ca P w K mg base cls ts 1 ("_law_deemed" : Str) st_l_deemed ps_l_deemed f_l_deemed) {f : Addr} {cdv : Value} {fd : FuncData} (D : Kd K mg ("_law_right" : Str) st_l_right f cdv fd) : Ca P w K mg base cls ts 2 ("_law_right" : Str) st_l_right ps_l_right f_l_right :=
  ⟨f, cdv, fd, D, D.fn sc_l_right fun A outer s H E hg hr tk =>
    (ss_cons (s_set (i := 1) sc_l_right.nd rfl (Or.inl rfl) (e_callB (call_reprM hg hr.units) repr_ok (by rfl) T.b_repr (by decide +kernel) (a_cons (e_var 0) a_nil)))
    (ss_one (s_ret (e_and (e_cmp (op_eqM hr.units) opEq_ok (e_callB (call_reprM hg hr.units) repr_ok (by rfl) T.b_repr (by decide +kernel) (a_cons (e_lst (a_cons (e_ca C_is_name bd_is_name hg (hr.mono (by decide)) tk (by rfl) (a_cons (e_var 0) a_nil)) (a_cons (e_caK (gv := pm0) (gV := pm0) (gD := pm0) C_is_name bk_is_name_0 hg (hr.mono (by decide)) tk (by rfl) pmV0 (fun _ _ => pmD0) (k_cons (e_var 0) k_nil) (aLenS aLen0)) a_nil))) a_nil)) (e_callB (call_reprM hg hr.units) repr_ok (by rfl) T.b_repr (by decide +kernel) (a_cons (e_bin op_mulM opMul_ok (e_lst (a_cons (e_ca C_l_deemed bd_l_deemed hg (hr.mono (by decide)) tk (by rfl) (a_cons (e_var 0) a_nil)) a_nil)) e_int) a_nil)) (by rfl)) (e_one (e_cmp (op_eqM hr.units) opEq_ok (e_callB (call_reprM hg hr.units) repr_ok (by rfl) T.b_repr (by decide +kernel) (a_cons (e_var 0) a_nil)) (e_var 1) (by rfl)))))))⟩
theorem fn_law (T : Txt K mg) (C_l_begun : Ca P w K mg base cls ts 1 ("_law_begun" : Str) st_l_begun ps_l_begun f_l_begun) (C_l_text_of : Ca P w K mg base cls ts 3 ("_law_text_of" : Str) st_l_text_of ps_l_text_of f_l_text_of) (C_l_right : Ca P w K mg base cls ts 2 ("_law_right" : Str) st_l_right ps_l_right f_l_right) {f : Addr} {cdv : Value} {fd : FuncData} (D : Kd K mg ("law" : Str) st_law f cdv fd) : FnG P w K mg base cls ts 4 f fd ps_law f_law :=
  D.fn sc_law fun A outer s H E hg hr tk =>
    (ss_cons (s_set (i := 1) sc_law.nd rfl (Or.inr rfl) (e_ca C_l_begun bd_l_begun hg (hr.mono (by decide)) tk (by rfl) (a_cons (e_var 0) a_nil)))
    (ss_cons (s_setLc (i := 2) (own := [(("_law_turn" : Str), 3)]) rfl sc_law.nd rfl rfl rfl (i_range1 (by rfl) T.b_range e_int) (blkOk_by (N := N_law) (sc := defScope st_law) (by decide +kernel)) (by decide) (fun _ _ _ _ _ => (g_name (i := 3) sc_law.nd rfl (Or.inl rfl))) (fun _ _ _ _ _ => ts_nil) (fun _ _ _ _ _ => (e_ca C_l_text_of bd_l_text_of hg (hr.mono (by decide)) L2.takes0 (by rfl) (a_cons (e_var 1) a_nil))))
    (ss_cons (s_set (i := 2) sc_law.nd rfl (Or.inl rfl) (e_bin op_addM opAdd_ok (e_var 2) (e_lst (a_cons e_str (a_cons e_str (a_cons e_str (a_cons e_str (a_cons e_str (a_cons e_str (a_cons e_str (a_cons e_str (a_cons e_non (a_cons e_bl (a_cons e_bl (a_cons e_int (a_cons e_int (a_cons (e_bin op_pow opPow_ok e_int e_int) a_nil)))))))))))))))))
    (ss_cons (s_set (i := 2) sc_law.nd rfl (Or.inl rfl) (e_bin op_addM opAdd_ok (e_var 2) (e_lst (a_cons (e_tup (a_cons e_str a_nil)) (a_cons (e_lst (a_cons e_str a_nil)) (a_cons (e_d1 e_str) (a_cons (e_tup a_nil) (a_cons (e_lst a_nil) (a_cons e_d0 (a_cons (e_tup (a_cons e_str (a_cons e_str (a_cons e_str a_nil)))) (a_cons (e_tup (a_cons e_str (a_cons (e_tup (a_cons e_str a_nil)) a_nil))) (a_cons (e_tup (a_cons e_str (a_cons e_int a_nil))) (a_cons (e_bin op_mulM opMul_ok e_str e_int) a_nil)))))))))))))
    (ss_one (s_ret (e_cmp (op_eqM hr.units) opEq_ok (e_comp (own := [(("_law_it" : Str), 4)]) rfl sc_law.nd (i_any (e_bin op_addM opAdd_ok (e_var 2) (e_rev (e_var 2)))) (blkOk_by (N := N_law) (sc := defScope st_law) (by decide +kernel)) (by decide) (fun _ _ _ _ _ => (g_name (i := 4) sc_law.nd rfl (Or.inl rfl))) (fun _ _ _ _ _ => (ts_one (t_not (t_val (e_ca C_l_right bd_l_right hg (hr.mono (by decide)) L2.takes0 (by rfl) (a_cons (e_var 4) a_nil)))))) (fun _ _ _ _ _ => (e_var 4))) (e_lst a_nil) (by rfl))))))))
end
end K01

namespace K01
open Mi L2 PySem PySem.Spec PyProof.Rows
theorem dealt_eq : f_l_dealt = fDealt := rfl
theorem begun_eq : f_l_begun = fBegun := rfl
theorem pick_eq : f_l_pick = fPick := rfl

/-! ### is_name -/
def nameB (x : Str) : Bool := decide (1 ≤ x.length) && decide (x.length ≤ 8) && x.cps.toList.all (between "a" "z")
theorem isi_str {ε : AEnv} {h : AH} {d : D} {t : String} {b : Bool} (hε : ε[0]? = some (some d)) (ht : tyD d h = some t) (hb : kitB t "str" = some b) :
    tVal (cCall fIsi (aCons (cVar 0) (aCons (cC (.ty "str")) aNil))) ε h = .ok b h := by
  refine tVal_eq ((cCall_eq (aCons_eq (x := d) (h1 := h) (by simp [cVar, hε]) (aCons_eq rfl aNil_eq))).trans ?_)
  simp only [fIsi, ht, hb]
theorem isName_not {h : AH} {d : D} {t : String} (ht : tyD d h = some t) (hb : kitB t "str" = some false) : f_is_name [d] h = .ok (.bl false) h := by
  have q := isi_str (ε := [some d]) rfl ht hb
  exact runB_ret rfl (sSeq_ret ((sIf_t (tOr_t (tNot_eq q))).trans (sRet_eq rfl)))
theorem kit_str : kitB "str" "str" = some true := by decide +kernel
theorem len_str {ε : AEnv} {h : AH} {x : Str} (hε : ε[0]? = some (some (.str x))) (hx : x.length ≤ sizeLine) : cCall fLen (aCons (cVar 0) aNil) ε h = .ok (.int x.length) h := by
  refine (cCall_eq (aCons_eq (x := .str x) (h1 := h) (by simp [cVar, hε]) aNil_eq)).trans ?_
  simp only [fLen, if_pos hx]
theorem isName_str {h : AH} {x : Str} (hx : x.length ≤ sizeLine) : f_is_name [.str x] h = .ok (.bl (nameB x)) h := by
  have q := isi_str (ε := [some (.str x)]) (h := h) rfl rfl kit_str
  have ch : tVal (cChain opLe opLe (cC (.int 1)) (cCall fLen (aCons (cVar 0) aNil)) (cC (.int 8))) [some (.str x)] h = .ok (decide (1 ≤ x.length) && decide (x.length ≤ 8)) h := by
    refine tVal_eq ?_
    unfold cChain
    rw [show (cC (.int 1) : EF) [some (.str x)] h = .ok (.int 1) h from rfl, Res.bind_ok, len_str rfl hx, Res.bind_ok]
    have e1 : opLe (.int 1) (.int (x.length : Int)) h = .ok (.bl (decide ((1 : Int) ≤ x.length))) h := rfl
    rw [e1, Res.bind_ok]
    by_cases c : 1 ≤ x.length
    · have c' : (1 : Int) ≤ x.length := by omega
      rw [decide_eq_true c', decide_eq_true c]
      show Res.ok (D.bl (decide ((x.length : Int) ≤ 8))) h = _
      congr 2
      rw [Bool.true_and]
      refine decide_eq_decide.mpr ?_
      omega
    · have c' : ¬ (1 : Int) ≤ x.length := by omega
      rw [decide_eq_false c', decide_eq_false c]
      rfl
  have t := tOr_f (T2 := tNot' (tVal (cChain opLe opLe (cC (.int 1)) (cCall fLen (aCons (cVar 0) aNil)) (cC (.int 8))))) (tNot_eq q)
  have t2 := t.trans (tNot_eq ch)
  cases c : (decide (1 ≤ x.length) && decide (x.length ≤ 8)) with
  | false =>
    rw [c] at t2
    have e : nameB x = false := by unfold nameB; rw [c, Bool.false_and]
    rw [e]
    exact runB_ret rfl (sSeq_ret ((sIf_t t2).trans (sRet_eq rfl)))
  | true =>
    rw [c] at t2
    have e : nameB x = x.cps.toList.all (between "a" "z") := by unfold nameB; rw [c, Bool.true_and]
    rw [e]
    exact runB_ret rfl ((sSeq_nx ((sIf_f t2).trans rfl)).trans (sRet_eq rfl))

/-! ### deemed -/
theorem between_iff (c : Nat) : between "a" "z" c = decide (97 ≤ c ∧ c ≤ 122) := by
  have ea : (("a" : Str).cps.toList : List Nat) = [97] := by decide +kernel
  have ez : (("z" : Str).cps.toList : List Nat) = [122] := by decide +kernel
  unfold between
  have l1 : ([c] : List Nat) < [97] ↔ c < 97 := by rw [List.cons_lt_cons_iff]; simp
  have l2 : ([122] : List Nat) < [c] ↔ 122 < c := by rw [List.cons_lt_cons_iff]; simp
  rw [ea, ez, Bool.eq_iff_iff]
  simp only [Bool.and_eq_true, Bool.not_eq_true', decide_eq_false_iff_not, decide_eq_true_eq, l1, l2]
  omega
theorem find_iff (c : Nat) : decide (Txt.find ("abcdefghijklmnopqrstuvwxyz" : Str) ⟨#[c]⟩ < 0) = !between "a" "z" c := by
  have el : (("abcdefghijklmnopqrstuvwxyz" : Str).cps.toList : List Nat) = List.range' 97 26 := by decide +kernel
  have f1 := StrLaws.found_one ("abcdefghijklmnopqrstuvwxyz" : Str) c
  rw [el] at f1
  have m : decide (c ∈ List.range' 97 26) = between "a" "z" c := by
    rw [between_iff]
    apply decide_eq_decide.mpr
    rw [List.mem_range'_1]
    omega
  rw [m] at f1
  unfold Txt.find
  rw [← f1]
  cases Builtin.Str.occurrences ("abcdefghijklmnopqrstuvwxyz" : Str) ⟨#[c]⟩ 0 ("abcdefghijklmnopqrstuvwxyz" : Str).length 1 with
  | nil => rfl
  | cons i r =>
    show decide (((i : Nat) : Int) < 0) = false
    exact decide_eq_false fun z => by omega
theorem deemed_not {h : AH} {d : D} {t : String} (ht : tyD d h = some t) (hb : kitB t "str" = some false) : f_l_deemed [d] h = .ok (.bl false) h := by
  have q := isi_str (ε := [some d, none]) rfl ht hb
  exact runB_ret rfl (sSeq_ret ((sIf_t (tOr_t (tNot_eq q))).trans (sRet_eq rfl)))
def sign1 (c : Nat) : Str := ⟨#[c]⟩
theorem deemed_str {h : AH} {x : Str} (hx : x.length ≤ 100000) (ho : PyData.strOk x = true) : ∃ r : AH, f_l_deemed [.str x] h = .ok (.bl (nameB x)) (h ++ r) := by
  have hx2 : x.length ≤ sizeLine := by rw [sizeLine_eq]; omega
  have q := isi_str (ε := [some (.str x), none]) (h := h) rfl rfl kit_str
  have a1 : tVal (cBin opLt (cCall fLen (aCons (cVar 0) aNil)) (cC (.int 1))) [some (.str x), none] h = .ok (decide ((x.length : Int) < 1)) h := tVal_eq ((cBin_eq (len_str rfl hx2) rfl).trans rfl)
  have a2 : tVal (cBin opGt (cCall fLen (aCons (cVar 0) aNil)) (cC (.int 8))) [some (.str x), none] h = .ok (decide ((8 : Int) < x.length)) h := tVal_eq ((cBin_eq (len_str rfl hx2) rfl).trans rfl)
  have t0 := tOr_f (T2 := tOr' (tVal (cBin opLt (cCall fLen (aCons (cVar 0) aNil)) (cC (.int 1)))) (tVal (cBin opGt (cCall fLen (aCons (cVar 0) aNil)) (cC (.int 8))))) (tNot_eq q)
  by_cases c1 : x.length < 1
  · rw [decide_eq_true (show (x.length : Int) < 1 by omega)] at a1
    have e : nameB x = false := by unfold nameB; rw [decide_eq_false (show ¬ 1 ≤ x.length by omega)]; rfl
    rw [e]
    exact ⟨[], by rw [List.append_nil]; exact runB_ret rfl (sSeq_ret ((sIf_t (t0.trans (tOr_t a1))).trans (sRet_eq rfl)))⟩
  rw [decide_eq_false (show ¬ (x.length : Int) < 1 by omega)] at a1
  by_cases c2 : 8 < x.length
  · rw [decide_eq_true (show (8 : Int) < x.length by omega)] at a2
    have e : nameB x = false := by unfold nameB; rw [decide_eq_false (show ¬ x.length ≤ 8 by omega), Bool.and_false]; rfl
    rw [e]
    exact ⟨[], by rw [List.append_nil]; exact runB_ret rfl (sSeq_ret ((sIf_t (t0.trans ((tOr_f a1).trans a2))).trans (sRet_eq rfl)))⟩
  rw [decide_eq_false (show ¬ (8 : Int) < x.length by omega)] at a2
  have e : nameB x = x.cps.toList.all (between "a" "z") := by
    unfold nameB
    rw [decide_eq_true (show 1 ≤ x.length by omega), decide_eq_true (show x.length ≤ 8 by omega)]
    rfl
  rw [e]
  have lx : x.cps.toList.length = x.length := (len_list x).symm
  have cmp : cComp (iAny (cVar 0)) (gN 1) (tVal (cBin opLt (cMeth "str" mFind (cC (.str ("abcdefghijklmnopqrstuvwxyz" : Str))) (aCons (cVar 1) aNil)) (cC (.int 0)))) (cVar 1) [1] [some (.str x), none] h =
      .ok (.ref h.length) (h ++ [.lst ((x.cps.toList.filter fun c => !between "a" "z" c).map fun c => D.str ⟨#[c]⟩)]) := by
    refine (cComp_filter (ds := x.cps.toList.map fun c => .str ⟨#[c]⟩) rfl (by rw [List.length_map, lx, sizeLine_eq]; omega) (fun d => [some (.str x), some d]) (fun d => match d with | .str y => decide (Txt.find ("abcdefghijklmnopqrstuvwxyz" : Str) y < 0) | _ => false) id
      (fun d _ h => rfl) (fun d hd h => ?_) (fun d _ h => rfl)).trans ?_
    · obtain ⟨c, _, rfl⟩ := List.mem_map.mp hd
      exact tVal_eq ((cBin_eq ((cMeth_eq (T := "str") (d := .str ("abcdefghijklmnopqrstuvwxyz" : Str)) rfl rfl (aCons_eq rfl aNil_eq)).trans rfl) rfl).trans rfl)
    · rw [List.filter_map, List.map_id]
      congr 4
      refine congrArg (List.map _) ?_
      apply List.filter_congr
      intro c _
      exact find_iff c
  obtain ⟨cs, ecs⟩ : ∃ cs, cs = x.cps.toList.filter fun c => !between "a" "z" c := ⟨_, rfl⟩
  rw [← ecs] at cmp
  have emp : cs.isEmpty = x.cps.toList.all (between "a" "z") := by
    rw [ecs, Bool.eq_iff_iff, List.isEmpty_iff, List.filter_eq_nil_iff, List.all_eq_true]
    simp
  have ok1 : ∀ y ∈ cs.map (fun c => (⟨#[c]⟩ : Str)), PyData.strOk y = true := fun y hy => by
    obtain ⟨c, hc, rfl⟩ := List.mem_map.mp hy
    have hx := (List.mem_filter.mp (by rw [ecs] at hc; exact hc)).1
    unfold PyData.strOk at ho ⊢
    rw [← Array.all_toList, List.all_eq_true] at ho
    have := ho c hx
    simpa using this
  refine ⟨[.lst (cs.map fun c => D.str ⟨#[c]⟩), .lst []], ?_⟩
  have fin : opEq (.ref h.length) (.ref (h ++ [O.lst (cs.map fun c => D.str ⟨#[c]⟩)]).length) ((h ++ [O.lst (cs.map fun c => D.str ⟨#[c]⟩)]) ++ [.lst []]) = .ok (.bl (x.cps.toList.all (between "a" "z"))) ((h ++ [O.lst (cs.map fun c => D.str ⟨#[c]⟩)]) ++ [.lst []]) := by
    refine (opEq_strs (ys := cs.map fun c => (⟨#[c]⟩ : Str)) (get_old (by rw [List.map_map]; exact get_last)) get_last ok1).trans ?_
    rw [List.isEmpty_map, emp]
  rw [show h ++ [O.lst (cs.map fun c => D.str ⟨#[c]⟩), .lst []] = (h ++ [O.lst (cs.map fun c => D.str ⟨#[c]⟩)]) ++ [.lst []] from by simp]
  exact runB_ret rfl ((sSeq_nx ((sIf_f (t0.trans ((tOr_f a1).trans a2))).trans rfl)).trans (sRet_eq ((cBin_eq cmp (cLst_eq aNil_eq (Nat.zero_le _))).trans fin)))
/-! ### right -/
def txt2 (b : Bool) : Str := (PyData.list [.bool b, .bool b]).shown
theorem repr_two {h : AH} {n : Nat} {b : Bool} (e : h[n]? = some (.lst [.bl b, .bl b])) : reprD (.ref n) h = some (txt2 b) := by
  have q : pd 60 h (.ref n) = some (.list [.bool b, .bool b]) := pd_lst e rfl
  have z : (PyData.list [.bool b, .bool b]).shown.length ≤ sizeLine := by
    have := shown_le13 (d := .list [.bool b, .bool b]) (by cases b <;> decide +kernel) (by simp [PyData.intsShort, PyData.intsShortAll])
    rw [sizeLine_eq]
    omega
  have z2 : (PyData.list [.bool b, .bool b]).showable = true ∧ (PyData.list [.bool b, .bool b]).shown.length ≤ sizeLine := ⟨by simp [PyData.showable, PyData.showableAll], z⟩
  unfold reprD
  rw [q]
  simp only
  rw [if_pos z2]
  rfl
theorem cRepr_eq {A : AF} {ε : AEnv} {h h1 : AH} {d : D} {s : Str} (e : A ε h = .ok [d] h1) (r : reprD d h1 = some s) : cCall fRepr A ε h = .ok (.str s) h1 := by
  refine (cCall_eq e).trans ?_
  simp only [fRepr, r]
theorem opEq_str {h : AH} {x : Str} : opEq (.str x) (.str x) h = .ok (.bl true) h := by
  simp [opEq, scalEq]
theorem right_ok {h : AH} {d : D} {s : Str} (hs : reprD d h = some s) (hd : (∃ x, d = .str x ∧ x.length ≤ 100000 ∧ PyData.strOk x = true) ∨ ∃ t, tyD d h = some t ∧ kitB t "str" = some false) : ∃ r, f_l_right [d] h = .ok (.bl true) (h ++ r) := by
  obtain ⟨b, isn, dee⟩ : ∃ b : Bool, (∀ h', h <+: h' → f_is_name [d] h' = .ok (.bl b) h') ∧ ∀ h', h <+: h' → ∃ r, f_l_deemed [d] h' = .ok (.bl b) (h' ++ r) := by
    rcases hd with ⟨x, rfl, h1, h2⟩ | ⟨t, h1, h2⟩
    · exact ⟨nameB x, fun h' _ => isName_str (by rw [sizeLine_eq]; omega), fun h' _ => deemed_str h1 h2⟩
    · exact ⟨false, fun h' p => isName_not (tyD_pre p h1) h2, fun h' p => ⟨[], by rw [List.append_nil]; exact deemed_not (tyD_pre p h1) h2⟩⟩
  have k : cCall fRepr (aCons (cVar 0) aNil) [some d, none] h = .ok (.str s) h := cRepr_eq (aCons_eq rfl aNil_eq) hs
  have n2 : ([D.bl b, D.bl b] : List D).length ≤ sizeLine := by rw [sizeLine_eq]; exact Nat.le_of_ble_eq_true rfl
  have n1 : ([D.bl b] : List D).length ≤ sizeLine := by rw [sizeLine_eq]; exact Nat.le_of_ble_eq_true rfl
  have l1 : cLst (aCons (cFn f_is_name (aCons (cVar 0) aNil)) (aCons (cFn (fun es h => f_is_name (pm0 es) h) (aCons (cVar 0) aNil)) aNil)) [some d, some (.str s)] h = .ok (.ref h.length) (h ++ [.lst [.bl b, .bl b]]) :=
    cLst_eq (aCons_eq ((cFn_eq (aCons_eq rfl aNil_eq)).trans (isn h (List.prefix_refl _))) (aCons_eq ((cFn_eq (ds := [d]) (aCons_eq rfl aNil_eq)).trans (isn h (List.prefix_refl _))) aNil_eq)) n2
  have t1 := cRepr_eq (aCons_eq l1 aNil_eq) (repr_two (b := b) get_last)
  obtain ⟨r, e2⟩ := dee (h ++ [.lst [.bl b, .bl b]]) (List.prefix_append _ _)
  obtain ⟨h2, eh2⟩ : ∃ h2, h2 = h ++ [O.lst [.bl b, .bl b]] ++ r := ⟨_, rfl⟩
  rw [← eh2] at e2
  have p2 : h <+: h2 := by rw [eh2, List.append_assoc]; exact List.prefix_append _ _
  have l2 : cLst (aCons (cFn f_l_deemed (aCons (cVar 0) aNil)) aNil) [some d, some (.str s)] (h ++ [.lst [.bl b, .bl b]]) = .ok (.ref h2.length) (h2 ++ [.lst [.bl b]]) :=
    cLst_eq (aCons_eq ((cFn_eq (aCons_eq rfl aNil_eq)).trans e2) aNil_eq) n1
  have m2 : opMul (.ref h2.length) (.int 2) (h2 ++ [.lst [.bl b]]) = .ok (.ref (h2 ++ [O.lst [.bl b]]).length) ((h2 ++ [.lst [.bl b]]) ++ [.lst [.bl b, .bl b]]) := by
    simp only [opMul, get_last]
    rw [if_pos]
    · rfl
    · simp [sizeLine_eq]
  have t2 := cRepr_eq (aCons_eq ((cBin_eq (G := cC (.int 2)) l2 rfl).trans m2) aNil_eq) (repr_two (b := b) get_last)
  obtain ⟨h3, eh3⟩ : ∃ h3, h3 = (h2 ++ [O.lst [.bl b]]) ++ [.lst [.bl b, .bl b]] := ⟨_, rfl⟩
  rw [← eh3] at t2
  have p3 : h <+: h3 := by rw [eh3, List.append_assoc]; exact p2.trans (List.prefix_append _ _)
  have k2 : cCall fRepr (aCons (cVar 0) aNil) [some d, some (.str s)] h3 = .ok (.str s) h3 := cRepr_eq (aCons_eq rfl aNil_eq) (reprD_pre p3 hs)
  obtain ⟨r3, er3⟩ := p3
  refine ⟨r3, ?_⟩
  rw [er3]
  exact runB_ret rfl ((sSeq_nx (sSet_eq k)).trans (sRet_eq ((cAnd_t ((cBin_eq t1 t2).trans opEq_str)).trans ((cBin_eq (G := cVar 1) k2 rfl).trans opEq_str))))

/-! ### text_of -/
theorem letter_at {h : AH} {r : Int} (h1 : 0 ≤ r) (h2 : r < 26) : ∃ y, opIx (.str ("abcdefghijklmnopqrstuvwxyz" : Str)) (.int r) h = .ok (.str y) h ∧ Asc 1 y := by
  have el : (("abcdefghijklmnopqrstuvwxyz" : Str).cps.toList : List Nat) = List.range' 97 26 := by decide +kernel
  have ll : ("abcdefghijklmnopqrstuvwxyz" : Str).length ≤ sizeLine := by rw [Mi.len_list, el, sizeLine_eq]; exact Nat.le_of_ble_eq_true rfl
  have hl : r.toNat < (List.range' 97 26).length := by rw [List.length_range']; omega
  have ea : atI (List.range' 97 26) r = some (List.range' 97 26)[r.toNat] := by
    unfold atI ixN
    rw [if_pos h1, if_pos (by rw [List.length_range']; omega)]
    exact List.getElem?_eq_getElem hl
  refine ⟨⟨#[(List.range' 97 26)[r.toNat]]⟩, ?_, asc_one ?_⟩
  · simp only [opIx]
    rw [if_pos ll, el, ea]
  · rw [List.getElem_range']
    omega
theorem step_new {n m k : Nat} {h h2 : AH} {o : O} (s : Step n m h h2) (hk : h.length ≤ k) : Step n m h (h2.set k o) :=
  ⟨by rw [List.length_set]; exact s.len, fun j h1 h2 h3 => by rw [List.getElem?_set_ne (by omega)]; exact s.keep j h1 h2 h3⟩
def signs : List Str := ["A", "Z", "0", "9", " ", ".", ":", "'", "\n", "`", "{", "_", "-", "@", "[", "~", "!"]
theorem signs_asc : ∀ y ∈ signs, Asc 1 y := by
  have q : (signs.all fun y => decide (y.length ≤ 1) && y.cps.toList.all fun c => decide (c < 128)) = true := by decide +kernel
  intro y hy
  have z := List.all_eq_true.mp q y hy
  simp only [Bool.and_eq_true, decide_eq_true_eq, List.all_eq_true] at z
  exact z
theorem omap_strs : ∀ ys : List Str, omap asStr (ys.map D.str) = some ys
  | [] => rfl
  | y :: ys => by
    rw [List.map_cons]
    unfold omap
    rw [omap_strs ys]
    rfl
theorem sum_asc : ∀ ys : List Str, (∀ y ∈ ys, Asc 1 y) → (ys.map (·.length)).sum ≤ ys.length
  | [], _ => Nat.le_refl _
  | y :: ys, h => by
    have ih := sum_asc ys fun z hz => h z (List.mem_cons_of_mem _ hz)
    have := (h y List.mem_cons_self).1
    rw [List.map_cons, List.sum_cons, List.length_cons]
    omega
theorem textOf_ok {h : AH} {n m : Nat} {c : Int} (H : Hand h n m c) (hc : 0 ≤ c) (hc2 : c < 1000) : ∃ (x : Str) (h' : AH) (c' : Int), f_l_text_of [.ref n] h = .ok (.str x) h' ∧ Asc 30 x ∧ Hand h' n m c' ∧ c ≤ c' ∧ c' ≤ c + 20 ∧ Step n m h h' := by
  obtain ⟨r1, h1, e1, a1, b1, H1, s1⟩ := dealt_ok (lots := 2) H hc (by omega) (by decide) (by decide)
  obtain ⟨r2, h2, e2, a2, b2, H2, s2⟩ := dealt_ok (lots := 10) H1 (by omega) (by omega) (by decide) (by decide)
  obtain ⟨r3, h3, e3, a3, b3, H3, s3⟩ := dealt_ok (lots := 9) H2 (by omega) (by omega) (by decide) (by decide)
  obtain ⟨L, eL⟩ : ∃ L : Str, L = ("abcdefghijklmnopqrstuvwxyz" : Str) := ⟨_, rfl⟩
  have lt3 := H3.lt
  -- the sign
  have zs : (signs.map D.str).length ≤ sizeLine := by rw [List.length_map, sizeLine_eq]; exact Nat.le_of_ble_eq_true rfl
  obtain ⟨d, h5, e5, hd, H5, s5⟩ := pick_ok (ds := signs.map D.str) (s := h3.length) (H3.app (os := [.lst (signs.map D.str)])) (by omega) (by omega) get_last (by omega) (by omega) (by simp [signs]) (by rw [List.length_map]; exact Nat.lt_of_le_of_lt (Nat.le_of_ble_eq_true rfl : signs.length ≤ 17) (by decide))
  obtain ⟨y, hy, rfl⟩ := List.mem_map.mp hd
  have ay := signs_asc y hy
  have s35 : Step n m h h5 := s1.trans (s2.trans (s3.trans (Step.app.trans s5)))
  have lt5 := H5.lt
  -- the letters
  obtain ⟨acc, h6, e6, ys, c6, rfl, ly, ya, H6, b6, b6', s6, g6⟩ := cComp_inv (iF := iRange1 (cVar 5)) (it := .fix ((List.range r2.toNat).map fun (i : Nat) => .int (0 + i))) (g := gN 7) (t := tYes') (F := cBin opIx (cVar 1) (cFn f_l_dealt (aCons (cVar 0) (aCons (cC (.int 26)) aNil)))) (own := [7])
    (ε := [some (.ref n), some (.str L), some (.str y), none, some (.bl (decide (r1 = 1))), some (.int r2), some (.int r3), none]) (h := h5) (h1 := h5)
    (by
      show (match D.int r2 with
        | .int j => if decide (-(2 ^ 62) ≤ j) && decide (j < 2 ^ 62) then Res.ok (AIt.fix ((List.range j.toNat).map fun (i : Nat) => .int (0 + i))) h5 else .stuck
        | _ => .stuck) = _
      have q : (decide (-(2 ^ 62) ≤ r2) && decide (r2 < 2 ^ 62)) = true := by
        rw [Bool.and_eq_true]
        exact ⟨decide_eq_true (by omega), decide_eq_true (by omega)⟩
      simp only
      rw [if_pos q])
    (fun i acc h => ∃ (ys : List Str) (c' : Int), acc = ys.map D.str ∧ ys.length = i ∧ (∀ y ∈ ys, Asc 1 y) ∧ Hand h n m c' ∧ c + 4 ≤ c' ∧ c' ≤ c + 4 + i ∧ Step n m h5 h ∧ h[h5.length]? = some (.lst acc)) r2.toNat (by simp [AIt.len]) (by rw [sizeLine_eq]; omega)
    (by rintro i acc h ⟨ys, c', rfl, _, _, _, _, _, _, g⟩; exact g) (by rintro i acc h ⟨ys, c', rfl, l, _⟩; rw [List.length_map]; omega)
    ⟨[], c + 4, rfl, rfl, by simp, (by have := H5.app (os := [.lst []]); rw [show c + 1 + 1 + 1 + 1 = c + 4 by omega] at this; exact this), by omega, by omega, .app, get_last⟩
    (by
      rintro i acc h hi ⟨ys, c', rfl, l, ya, H, q1, q2, st, g⟩
      obtain ⟨r, h', e, z1, z2, H', st'⟩ := dealt_ok (lots := 26) H (by omega) (by omega) (by decide) (by decide)
      obtain ⟨w, ew, aw⟩ := letter_at (h := h') z1 z2
      rw [← eL] at ew
      have ne1 : h5.length ≠ n := by omega
      have ne2 : h5.length ≠ m := by omega
      have g' : h'[h5.length]? = some (.lst (ys.map D.str)) := (st'.keep _ ne1 ne2 (List.getElem?_eq_some_iff.mp g).1).trans g
      refine ⟨.int (0 + (i : Int)), [some (.ref n), some (.str L), some (.str y), none, some (.bl (decide (r1 = 1))), some (.int r2), some (.int r3), some (.int (0 + (i : Int)))], true, h, ?_, rfl, rfl, .inr ⟨rfl, .str w, h', ?_, g', ?_⟩⟩
      · simp [AIt.item, hi]
      · exact (cBin_eq (h1 := h) (h2 := h') (x := .str L) (y := .int r) rfl ((cFn_eq (aCons_eq rfl (aCons_eq rfl aNil_eq))).trans e)).trans ew
      · refine ⟨ys ++ [w], c' + 1, by rw [List.map_append]; rfl, by rw [List.length_append, l]; rfl, fun z hz => ?_, H'.set ne1 ne2, by omega, by omega, step_new (st.trans st') (Nat.le_refl _), List.getElem?_set_self (List.getElem?_eq_some_iff.mp g').1⟩
        rcases List.mem_append.mp hz with hz | hz
        · exact ya z hz
        · rw [List.mem_singleton.mp hz]; exact aw)
    (by rintro acc h _; rfl)
  have e0 : ("" : Str) = ⟨#[]⟩ := by decide +kernel
  obtain ⟨x, ex⟩ : ∃ x, x = Str.join (⟨#[]⟩ : Str) ys := ⟨_, rfl⟩
  have ax : Asc ys.length x := by rw [ex]; exact asc_join ys ya
  have jn : mJoin (.str ("" : Str)) [.ref h5.length] h6 = .ok (.str x) h6 := by
    have b : (ys.map (·.length)).sum + ys.length * (⟨#[]⟩ : Str).length ≤ 16777216 := by
      have := sum_asc ys ya
      have z : (⟨#[]⟩ : Str).length = 0 := rfl
      rw [z]
      omega
    simp only [mJoin, seqD, g6, omap_strs, e0]
    rw [if_pos b, ex, TL.join_eq]
  have sz : ∀ {k : Nat} {z : Str}, Asc k z → k ≤ 1000 → z.length ≤ sizeLine := fun a h => by
    have := a.1
    rw [sizeLine_eq]
    omega
  have cut1 : cutD (.str x) none (some r3) h6 = .ok (.str (cutS x none (some r3))) h6 := by
    simp only [Mi.cutD]
    rw [if_pos (sz ax (by omega))]
  have cut2 : cutD (.str x) (some (r3 + 1)) none h6 = .ok (.str (cutS x (some (r3 + 1)) none)) h6 := by
    simp only [Mi.cutD]
    rw [if_pos (sz ax (by omega))]
  have p1 := (ax.cut none (some r3)).app ay
  have p2 := p1.app (ax.cut (some (r3 + 1)) none)
  have ad1 : opAdd (.str (cutS x none (some r3))) (.str y) h6 = .ok (.str (cutS x none (some r3) ++ y)) h6 := by
    have q : (cutS x none (some r3)).length + y.length ≤ sizeLine := by
      have h1 := (ax.cut none (some r3)).1
      have h2 := ay.1
      rw [sizeLine_eq]
      omega
    simp only [opAdd]
    rw [if_pos q]
  have ad2 : opAdd (.str (cutS x none (some r3) ++ y)) (.str (cutS x (some (r3 + 1)) none)) h6 = .ok (.str (cutS x none (some r3) ++ y ++ cutS x (some (r3 + 1)) none)) h6 := by
    have q : (cutS x none (some r3) ++ y).length + (cutS x (some (r3 + 1)) none).length ≤ sizeLine := by
      have h1 := p1.1
      have h2 := (ax.cut (some (r3 + 1)) none).1
      rw [sizeLine_eq]
      omega
    simp only [opAdd]
    rw [if_pos q]
  have st : Step n m h h6 := s35.trans s6
  have q2 : sPar3 4 5 6 (cBin opEq (cFn f_l_dealt (aCons (cVar 0) (aCons (cC (.int 2)) aNil))) (cC (.int 1))) (cFn f_l_dealt (aCons (cVar 0) (aCons (cC (.int 10)) aNil))) (cFn f_l_dealt (aCons (cVar 0) (aCons (cC (.int 9)) aNil))) [some (.ref n), some (.str L), none, none, none, none, none, none] h =
      .nx [some (.ref n), some (.str L), none, none, some (.bl (decide (r1 = 1))), some (.int r2), some (.int r3), none] h3 :=
    sPar3_eq ((cBin_eq (y := .int 1) ((cFn_eq (aCons_eq rfl (aCons_eq rfl aNil_eq))).trans e1) rfl).trans rfl) ((cFn_eq (aCons_eq rfl (aCons_eq rfl aNil_eq))).trans e2) ((cFn_eq (aCons_eq rfl (aCons_eq rfl aNil_eq))).trans e3)
  have fin : ∃ z, cIf (tTru (cVar 4)) (cBin opAdd (cBin opAdd (cCut (cVar 3) oNone (oSome (cVar 6))) (cVar 2)) (cCut (cVar 3) (oSome (cBin opAdd (cVar 6) (cC (.int 1)))) oNone)) (cVar 3) [some (.ref n), some (.str L), some (.str y), some (.str x), some (.bl (decide (r1 = 1))), some (.int r2), some (.int r3), none] h6 = .ok (.str z) h6 ∧ Asc 30 z := by
    have tt : tTru (cVar 4) [some (.ref n), some (.str L), some (.str y), some (.str x), some (.bl (decide (r1 = 1))), some (.int r2), some (.int r3), none] h6 = .ok (decide (r1 = 1)) h6 := rfl
    have lx : ys.length ≤ 9 := by omega
    cases q : decide (r1 = 1) with
    | false =>
      rw [q] at tt
      exact ⟨x, (cIf_eq tt).trans (by rw [if_neg Bool.false_ne_true]; rfl), ax.mono (by omega)⟩
    | true =>
      rw [q] at tt
      refine ⟨_, (cIf_eq tt).trans ?_, p2.mono (by omega)⟩
      rw [if_pos rfl]
      exact (cBin_eq ((cBin_eq (y := .str y) ((cCut_eq (d := .str x) (l := none) (u := some r3) rfl rfl (oSome_eq rfl)).trans cut1) rfl).trans ad1) ((cCut_eq (d := .str x) (l := some (r3 + 1)) (u := none) rfl (oSome_eq rfl) rfl).trans cut2)).trans ad2
  obtain ⟨z, ez, az⟩ := fin
  refine ⟨z, h6, c6, runB_ret rfl ?_, az, H6, by omega, by omega, st⟩
  refine (sSeq_nx (sSet_eq (d := .str L) (by rw [eL]; rfl))).trans ((sSeq_nx q2).trans ((sSeq_nx (sSet_eq (d := .str y) (h1 := h5) ((cFn_eq (aCons_eq rfl (aCons_eq (cLst_eq (ds := signs.map D.str) (h1 := h3) rfl zs) aNil_eq))).trans e5))).trans ((sSeq_nx (sSet_eq (d := .str x) (h1 := h6) ((cMeth_eq (T := "str") (d := .str ("" : Str)) rfl rfl (aCons_eq e6 aNil_eq)).trans jn))).trans (sRet_eq ez))))
end K01

namespace K01
open Mi L2 PySem PySem.Spec PyProof.Rows
/-- d may be asked in the store h -/
def OKd (h : AH) (d : D) : Prop := (∃ s, reprD d h = some s) ∧ ((∃ x, d = .str x ∧ x.length ≤ 100000 ∧ PyData.strOk x = true) ∨ ∃ t, tyD d h = some t ∧ kitB t "str" = some false)
theorem OKd.pre {h h' : AH} {d : D} (o : OKd h d) (p : h <+: h') : OKd h' d := by
  obtain ⟨⟨s, e⟩, q⟩ := o
  refine ⟨⟨s, reprD_pre p e⟩, ?_⟩
  rcases q with q | ⟨t, h1, h2⟩
  · exact .inl q
  · exact .inr ⟨t, tyD_pre p h1, h2⟩
theorem okd_str {h : AH} {x : Str} {n : Nat} (a : Asc n x) (hn : n ≤ 100000) : OKd h (.str x) := ⟨reprD_str a hn, .inl ⟨x, rfl, Nat.le_trans a.1 hn, a.ok⟩⟩
theorem okd_data {h : AH} {d : D} {p : PyData} {t : String} (e : pd 60 h d = some p) (q : (p.showable && decide (p.shown.length ≤ sizeLine)) = true) (ht : tyD d h = some t) (hk : kitB t "str" = some false) : OKd h d := by
  rw [Bool.and_eq_true, decide_eq_true_eq] at q
  refine ⟨⟨p.shown, ?_⟩, .inr ⟨t, ht, hk⟩⟩
  unfold reprD
  rw [e]
  simp only
  rw [if_pos q]
theorem okd_dict {h : AH} {n : Nat} {kvs : List (Key × D)} {p : PyData} (e : h[n]? = some (.dic kvs)) (e2 : pdDict h (.ref n) = some p) (q : (p.showable && decide (p.shown.length ≤ sizeLine)) = true) : OKd h (.ref n) := by
  rw [Bool.and_eq_true, decide_eq_true_eq] at q
  refine ⟨⟨p.shown, ?_⟩, .inr ⟨"dict", by simp only [tyD, e], by decide +kernel⟩⟩
  have e0 : pd 60 h (.ref n) = none := by simp only [pd, e]
  unfold reprD
  rw [e0, e2]
  simp only
  rw [if_pos q]
def consts : List D := [.str "row", .str "none", .str "yes", .str "main", .str "a", .str "abcdefgh", .str "abcdefghi", .str "", .non, .bl true, .bl false, .int 0, .int 1, .int (10 ^ (39 : Int).toNat)]
theorem consts_ok (h : AH) : ∀ d ∈ consts, OKd h d := by
  have st : ∀ x : Str, (decide (x.length ≤ 100) && x.cps.toList.all fun c => decide (c < 128)) = true → OKd h (.str x) := fun x z => by
    simp only [Bool.and_eq_true, decide_eq_true_eq, List.all_eq_true] at z
    exact okd_str (n := 100) z (by decide)
  intro d hd
  simp only [consts, List.mem_cons, List.not_mem_nil, or_false] at hd
  rcases hd with rfl | rfl | rfl | rfl | rfl | rfl | rfl | rfl | rfl | rfl | rfl | rfl | rfl | rfl
  · exact st _ (by decide +kernel)
  · exact st _ (by decide +kernel)
  · exact st _ (by decide +kernel)
  · exact st _ (by decide +kernel)
  · exact st _ (by decide +kernel)
  · exact st _ (by decide +kernel)
  · exact st _ (by decide +kernel)
  · exact st _ (by decide +kernel)
  · exact okd_data (p := .none) (t := "NoneType") rfl (by decide +kernel) rfl (by decide +kernel)
  · exact okd_data (p := .bool true) (t := "bool") rfl (by decide +kernel) rfl (by decide +kernel)
  · exact okd_data (p := .bool false) (t := "bool") rfl (by decide +kernel) rfl (by decide +kernel)
  · exact okd_data (p := .int 0) (t := "int") rfl (by decide +kernel) rfl (by decide +kernel)
  · exact okd_data (p := .int 1) (t := "int") rfl (by decide +kernel) rfl (by decide +kernel)
  · exact okd_data (p := .int (10 ^ (39 : Int).toNat)) (t := "int") rfl (by decide +kernel) rfl (by decide +kernel)
def news : AH := [.lst [.str "a"], .dic [(.inr "a", .str "a")], .lst [], .dic []]
def things (k : Nat) : List D := [.tup [.str "a"], .ref k, .ref (k + 1), .tup [], .ref (k + 2), .ref (k + 3), .tup [.str "deed", .str "a", .str "b"], .tup [.str "row", .tup [.str "a"]], .tup [.str "thing", .int 0], .str (strRep "a" 4000)]
theorem things_ok (h : AH) : ∀ d ∈ things h.length, OKd (h ++ news) d := by
  have g0 : (h ++ news)[h.length]? = some (.lst [.str "a"]) := by rw [List.getElem?_append_right (Nat.le_refl _)]; simp [news]
  have g1 : (h ++ news)[h.length + 1]? = some (.dic [(.inr "a", .str "a")]) := by rw [List.getElem?_append_right (by omega)]; simp [news]
  have g2 : (h ++ news)[h.length + 2]? = some (.lst []) := by rw [List.getElem?_append_right (by omega)]; simp [news]
  have g3 : (h ++ news)[h.length + 3]? = some (.dic []) := by rw [List.getElem?_append_right (by omega)]; simp [news]
  intro d hd
  simp only [things, List.mem_cons, List.not_mem_nil, or_false] at hd
  rcases hd with rfl | rfl | rfl | rfl | rfl | rfl | rfl | rfl | rfl | rfl
  · exact okd_data (p := .tuple [.str "a"]) (t := "tuple") rfl (by decide +kernel) rfl (by decide +kernel)
  · exact okd_data (p := .list [.str "a"]) (t := "list") (pd_lst g0 rfl) (by decide +kernel) (by simp only [tyD, g0]) (by decide +kernel)
  · exact okd_dict (p := .dict [(.str "a", .str "a")]) g1 (by simp only [pdDict, g1]; rfl) (by decide +kernel)
  · exact okd_data (p := .tuple []) (t := "tuple") rfl (by decide +kernel) rfl (by decide +kernel)
  · exact okd_data (p := .list []) (t := "list") (pd_lst g2 rfl) (by decide +kernel) (by simp only [tyD, g2]) (by decide +kernel)
  · exact okd_dict (p := .dict []) g3 (by simp only [pdDict, g3]; rfl) (by decide +kernel)
  · exact okd_data (p := .tuple [.str "deed", .str "a", .str "b"]) (t := "tuple") rfl (by decide +kernel) rfl (by decide +kernel)
  · exact okd_data (p := .tuple [.str "row", .tuple [.str "a"]]) (t := "tuple") rfl (by decide +kernel) rfl (by decide +kernel)
  · exact okd_data (p := .tuple [.str "thing", .int 0]) (t := "tuple") rfl (by decide +kernel) rfl (by decide +kernel)
  · refine okd_str (n := 4000) ⟨?_, fun c hc => ?_⟩ (by decide)
    · rw [strRep_length]
      have : ("a" : Str).length = 1 := by decide +kernel
      rw [this]
      exact Nat.le_refl _
    · have ea : (("a" : Str).cps.toList : List Nat) = [97] := by decide +kernel
      unfold strRep at hc
      rw [ea] at hc
      simp only [List.mem_flatten, List.mem_replicate] at hc
      obtain ⟨l, ⟨_, rfl⟩, hc⟩ := hc
      rw [List.mem_singleton] at hc
      omega
def newsA : AF := (aCons (cTup (aCons (cC (.str ("a" : Str))) aNil)) (aCons (cLst (aCons (cC (.str ("a" : Str))) aNil)) (aCons (cD1 ("a" : Str) (cC (.str ("a" : Str)))) (aCons (cTup aNil) (aCons (cLst aNil) (aCons cD0 (aCons (cTup (aCons (cC (.str ("deed" : Str))) (aCons (cC (.str ("a" : Str))) (aCons (cC (.str ("b" : Str))) aNil)))) (aCons (cTup (aCons (cC (.str ("row" : Str))) (aCons (cTup (aCons (cC (.str ("a" : Str))) aNil)) aNil))) (aCons (cTup (aCons (cC (.str ("thing" : Str))) (aCons (cC (.int 0)) aNil))) (aCons (cBin opMul (cC (.str ("a" : Str))) (cC (.int 4000))) aNil))))))))))
theorem le_sz {n : Nat} (h : Nat.ble n 1000 = true) : n ≤ sizeLine := by
  have q := Nat.le_of_ble_eq_true h
  rw [sizeLine_eq]
  omega
theorem newsA_eq {ε : AEnv} {h : AH} : newsA ε h = .ok (things h.length) (h ++ news) := by
  have h1 : cLst (aCons (cC (.str ("a" : Str))) aNil) ε h = .ok (.ref h.length) (h ++ [.lst [.str "a"]]) := cLst_eq rfl (le_sz rfl)
  have h2 : cD1 ("a" : Str) (cC (.str ("a" : Str))) ε (h ++ [.lst [.str "a"]]) = .ok (.ref (h.length + 1)) (h ++ [.lst [.str "a"], .dic [(.inr "a", .str "a")]]) := by
    simp [cD1, cC]
  have h3 : cLst aNil ε (h ++ [.lst [.str "a"], .dic [(.inr "a", .str "a")]]) = .ok (.ref (h.length + 2)) (h ++ [.lst [.str "a"], .dic [(.inr "a", .str "a")], .lst []]) := by
    refine (cLst_eq (ds := []) rfl (le_sz rfl)).trans ?_
    simp
  have h4 : cD0 ε (h ++ [.lst [.str "a"], .dic [(.inr "a", .str "a")], .lst []]) = .ok (.ref (h.length + 3)) (h ++ news) := by
    simp [cD0, news]
  have h5 : cBin opMul (cC (.str ("a" : Str))) (cC (.int 4000)) ε (h ++ news) = .ok (.str (strRep "a" 4000)) (h ++ news) := by
    have l : ("a" : Str).length = 1 := by decide +kernel
    refine (cBin_eq (x := .str "a") (y := .int 4000) rfl rfl).trans ?_
    simp [opMul, l]
  exact aCons_eq (cTup_eq rfl (le_sz rfl)) (aCons_eq h1 (aCons_eq h2 (aCons_eq (cTup_eq rfl (le_sz rfl)) (aCons_eq h3 (aCons_eq h4 (aCons_eq (cTup_eq rfl (le_sz rfl)) (aCons_eq (cTup_eq (aCons_eq rfl (aCons_eq (cTup_eq rfl (le_sz rfl)) aNil_eq)) (le_sz rfl)) (aCons_eq (cTup_eq rfl (le_sz rfl)) (aCons_eq h5 aNil_eq)))))))))
theorem add_lst {h : AH} {a b : Nat} {xs ys : List D} (ha : h[a]? = some (.lst xs)) (hb : h[b]? = some (.lst ys)) (hz : xs.length + ys.length ≤ 1000) : opAdd (.ref a) (.ref b) h = .ok (.ref h.length) (h ++ [.lst (xs ++ ys)]) := by
  have : xs.length + ys.length ≤ sizeLine := by rw [sizeLine_eq]; omega
  simp only [opAdd, ha, hb, if_pos this]
theorem law_ok {ns : List Int} (hl : ns.length ≤ 63) (_ : ∀ z ∈ ns, Builtin.Int.intBits z ≤ 1048576) : ∃ h', f_law [.rol (ns.map D.int)] [] = .ok (.bl true) h' := by
  obtain ⟨n, m, h1, e1, H1⟩ := begun_ok hl
  obtain ⟨S, eS⟩ : ∃ S : D, S = .rol (ns.map D.int) := ⟨_, rfl⟩
  rw [← eS] at e1 ⊢
  have lt1 := H1.lt
  -- the texts
  obtain ⟨acc, h2, e2, ys, c2, rfl, ly, ya, H2, _, _, s2, g2⟩ := cComp_inv (iF := iRange1 (cC (.int 40))) (it := .fix ((List.range (40 : Int).toNat).map fun (i : Nat) => .int (0 + i))) (g := gN 3) (t := tYes') (F := cFn f_l_text_of (aCons (cVar 1) aNil)) (own := [3])
    (ε := [some S, some (.ref n), none, none, none]) (h := h1) (h1 := h1) rfl
    (fun i acc h => ∃ (ys : List Str) (c' : Int), acc = ys.map D.str ∧ ys.length = i ∧ (∀ y ∈ ys, Asc 30 y) ∧ Hand h n m c' ∧ 0 ≤ c' ∧ c' ≤ 20 * i ∧ Mi.Step n m h1 h ∧ h[h1.length]? = some (.lst acc)) 40 (by simp [AIt.len]) (by rw [sizeLine_eq]; omega)
    (by rintro i acc h ⟨ys, c', rfl, _, _, _, _, _, _, g⟩; exact g) (by rintro i acc h ⟨ys, c', rfl, l, _⟩; rw [List.length_map]; omega)
    ⟨[], 0, rfl, rfl, by simp, H1.app, by omega, by omega, .app, get_last⟩
    (by
      rintro i acc h hi ⟨ys, c', rfl, l, ya, H, q1, q2, st, g⟩
      obtain ⟨x, h', c'', e, ax, H', b1, b2, st'⟩ := textOf_ok H q1 (by omega)
      have ne1 : h1.length ≠ n := by omega
      have ne2 : h1.length ≠ m := by omega
      have g' : h'[h1.length]? = some (.lst (ys.map D.str)) := (st'.keep _ ne1 ne2 (List.getElem?_eq_some_iff.mp g).1).trans g
      refine ⟨.int (0 + (i : Int)), [some S, some (.ref n), none, some (.int (0 + (i : Int))), none], true, h, ?_, rfl, rfl, .inr ⟨rfl, .str x, h', ?_, g', ?_⟩⟩
      · have q : (List.range (40 : Int).toNat)[i]? = some i := List.getElem?_range (show i < 40 from hi)
        simp only [AIt.item, List.getElem?_map, q]
        rfl
      · exact (cFn_eq (aCons_eq rfl aNil_eq)).trans e
      · refine ⟨ys ++ [x], c'', by rw [List.map_append]; rfl, by rw [List.length_append, l]; rfl, fun z hz => ?_, H'.set ne1 ne2, by omega, by omega, step_new (st.trans st') (Nat.le_refl _), List.getElem?_set_self (List.getElem?_eq_some_iff.mp g').1⟩
        rcases List.mem_append.mp hz with hz | hz
        · exact ya z hz
        · rw [List.mem_singleton.mp hz]; exact ax)
    (by rintro acc h _; rfl)
  have l1 : (ys.map D.str).length = 40 := by rw [List.length_map]; exact ly
  -- the constants
  have e3 : cLst (aCons (cC (.str ("row" : Str))) (aCons (cC (.str ("none" : Str))) (aCons (cC (.str ("yes" : Str))) (aCons (cC (.str ("main" : Str))) (aCons (cC (.str ("a" : Str))) (aCons (cC (.str ("abcdefgh" : Str))) (aCons (cC (.str ("abcdefghi" : Str))) (aCons (cC (.str ("" : Str))) (aCons (cC .non) (aCons (cC (.bl true)) (aCons (cC (.bl false)) (aCons (cC (.int 0)) (aCons (cC (.int 1)) (aCons (cBin opPow (cC (.int 10)) (cC (.int 39))) aNil)))))))))))))) [some S, some (.ref n), some (.ref h1.length), none, none] h2 = .ok (.ref h2.length) (h2 ++ [.lst consts]) :=
    cLst_eq (ds := consts) (h1 := h2) rfl (le_sz rfl)
  obtain ⟨h3, eh3⟩ : ∃ h3, h3 = h2 ++ [O.lst consts] := ⟨_, rfl⟩
  have e4 := add_lst (h := h3) (a := h1.length) (b := h2.length) (by rw [eh3]; exact get_old g2) (by rw [eh3]; exact get_last) (by rw [l1]; exact Nat.le_of_ble_eq_true rfl)
  rw [← eh3] at e3
  obtain ⟨h4, eh4⟩ : ∃ h4, h4 = h3 ++ [O.lst (ys.map D.str ++ consts)] := ⟨_, rfl⟩
  rw [← eh4] at e4
  have g4 : h4[h3.length]? = some (.lst (ys.map D.str ++ consts)) := by rw [eh4]; exact get_last
  -- the things
  have e5 : cLst newsA [some S, some (.ref n), some (.ref h3.length), none, none] h4 = .ok (.ref (h4 ++ news).length) ((h4 ++ news) ++ [.lst (things h4.length)]) := cLst_eq newsA_eq (le_sz rfl)
  obtain ⟨h5, eh5⟩ : ∃ h5, h5 = (h4 ++ news) ++ [O.lst (things h4.length)] := ⟨_, rfl⟩
  rw [← eh5] at e5
  have g5 : h5[h3.length]? = some (.lst (ys.map D.str ++ consts)) := by
    rw [eh5]
    refine get_old ?_
    rw [List.getElem?_append_left (List.getElem?_eq_some_iff.mp g4).1]
    exact g4
  have e6 := add_lst (h := h5) (a := h3.length) (b := (h4 ++ news).length) g5 (by rw [eh5]; exact get_last) (by rw [List.length_append, l1]; exact Nat.le_of_ble_eq_true rfl)
  obtain ⟨some5, es⟩ : ∃ some5, some5 = (ys.map D.str ++ consts) ++ things h4.length := ⟨_, rfl⟩
  rw [← es] at e6
  have ls : some5.length = 64 := by rw [es, List.length_append, List.length_append, l1]; rfl
  obtain ⟨h6, eh6⟩ : ∃ h6, h6 = h5 ++ [O.lst some5] := ⟨_, rfl⟩
  rw [← eh6] at e6
  have g6 : h6[h5.length]? = some (.lst some5) := by rw [eh6]; exact get_last
  have p46 : (h4 ++ news) <+: h6 := by rw [eh6, eh5, List.append_assoc]; exact List.prefix_append _ _
  have all : ∀ d ∈ some5, OKd h6 d := by
    intro d hd
    rw [es] at hd
    rcases List.mem_append.mp hd with hd | hd
    · rcases List.mem_append.mp hd with hd | hd
      · obtain ⟨y, hy, rfl⟩ := List.mem_map.mp hd
        exact okd_str (ya y hy) (by decide)
      · exact consts_ok _ d hd
    · exact (things_ok h4 d hd).pre p46
  -- walked
  have e7 : cRev (cVar 2) [some S, some (.ref n), some (.ref h5.length), none, none] h6 = .ok (.ref h6.length) (h6 ++ [.lst some5.reverse]) := by
    unfold cRev
    show revD (.ref h5.length) h6 = _
    simp only [revD, g6]
  obtain ⟨h7, eh7⟩ : ∃ h7, h7 = h6 ++ [O.lst some5.reverse] := ⟨_, rfl⟩
  rw [← eh7] at e7
  have e8 := add_lst (h := h7) (a := h5.length) (b := h6.length) (by rw [eh7]; exact get_old g6) (by rw [eh7]; exact get_last) (by rw [List.length_reverse, ls]; exact Nat.le_of_ble_eq_true rfl)
  obtain ⟨h8, eh8⟩ : ∃ h8, h8 = h7 ++ [O.lst (some5 ++ some5.reverse)] := ⟨_, rfl⟩
  rw [← eh8] at e8
  have g8 : h8[h7.length]? = some (.lst (some5 ++ some5.reverse)) := by rw [eh8]; exact get_last
  have p8 : h6 <+: h8 := by rw [eh8, eh7, List.append_assoc]; exact List.prefix_append _ _
  have l8 : (some5 ++ some5.reverse).length = 128 := by rw [List.length_append, List.length_reverse, ls]
  have all8 : ∀ d ∈ some5 ++ some5.reverse, OKd h6 d := fun d hd => by
    rcases List.mem_append.mp hd with hd | hd
    · exact all d hd
    · exact all d (List.mem_reverse.mp hd)
  obtain ⟨acc9, h9, e9, rfl, p9⟩ := cComp_inv (iF := iAny (cBin opAdd (cVar 2) (cRev (cVar 2)))) (it := .live h7.length (some5 ++ some5.reverse).length) (g := gN 4) (t := tNot' (tVal (cFn f_l_right (aCons (cVar 4) aNil)))) (F := cVar 4) (own := [4])
    (ε := [some S, some (.ref n), some (.ref h5.length), none, none]) (h := h6) (h1 := h8)
    (by
      unfold iAny
      rw [(cBin_eq (x := .ref h5.length) rfl e7).trans e8, Res.bind_ok]
      simp only [itOf, g8])
    (fun i acc h => acc = [] ∧ (h8 ++ [O.lst []]) <+: h) 128 l8 (by rw [sizeLine_eq]; omega)
    (by rintro i acc h ⟨rfl, p⟩; exact getElem_pre p get_last) (by rintro i acc h ⟨rfl, _⟩; exact Nat.zero_le _) ⟨rfl, List.prefix_refl _⟩
    (by
      rintro i acc h hi ⟨rfl, p⟩
      have hi' : i < (some5 ++ some5.reverse).length := by rw [l8]; exact hi
      have pp : h6 <+: h := (p8.trans (List.prefix_append _ _)).trans p
      obtain ⟨⟨s, es⟩, q⟩ := (all8 _ (List.getElem_mem hi')).pre pp
      obtain ⟨r, er⟩ := right_ok es q
      refine ⟨(some5 ++ some5.reverse)[i], [some S, some (.ref n), some (.ref h5.length), none, some ((some5 ++ some5.reverse)[i])], false, h ++ r, ?_, rfl, ?_, .inl ⟨rfl, rfl, p.trans (List.prefix_append _ _)⟩⟩
      · have gg : h[h7.length]? = some (.lst (some5 ++ some5.reverse)) := getElem_pre p (get_old g8)
        simp only [AIt.item, gg, if_true]
        exact List.getElem?_eq_getElem hi'
      · exact tNot_eq (tVal_eq ((cFn_eq (aCons_eq rfl aNil_eq)).trans er)))
    (by
      rintro acc h ⟨_, p⟩
      have gg : h[h7.length]? = some (.lst (some5 ++ some5.reverse)) := getElem_pre p (get_old g8)
      simp only [AIt.fin, gg, decide_true])
  have g9 : h9[h8.length]? = some (.lst (([] : List Str).map D.str)) := getElem_pre p9 get_last
  refine ⟨h9 ++ [.lst []], runB_ret rfl ?_⟩
  refine (sSeq_nx (sSet_eq ((cFn_eq (aCons_eq rfl aNil_eq)).trans e1))).trans ((sSeq_nx (sSet_eq e2)).trans ((sSeq_nx (sSet_eq ((cBin_eq (x := .ref h1.length) rfl e3).trans e4))).trans ((sSeq_nx (sSet_eq ((cBin_eq (x := .ref h3.length) rfl e5).trans e6))).trans (sRet_eq ((cBin_eq e9 (cLst_eq (ds := []) rfl (le_sz rfl))).trans ?_)))))
  exact opEq_strs (ys := []) (get_old g9) get_last (by simp)
end K01

namespace K01
open Mi L2 PySem PySem.Spec PyProof.Rows
theorem all_mk {l : PySem.W.OpenLaw} {q : Program} {loose : List Str} {w : World} {K : PySem.W.Frag} {h : Heap} {mg mb : Str → Option Value} {mean : ExcName → Option Value} {fa : Addr} (T : Top q (PySem.W.looseW q loose) mean mg mb h) (X : K.In h) (G : h.Ns mainGlobals mg) (hfa : mg "law" = some (.ref fa))
    {f0 : Addr} {od0 an0 : Option Addr} {sl0 : Array (Option Value)} {oc0 kV0 dc0 pm0 cd0 ct0 : Value}
    {f1 : Addr} {od1 an1 : Option Addr} {sl1 : Array (Option Value)} {oc1 kV1 dc1 pm1 cd1 ct1 : Value}
    {f2 : Addr} {od2 an2 : Option Addr} {sl2 : Array (Option Value)} {oc2 kV2 dc2 pm2 cd2 ct2 : Value}
    {f3 : Addr} {od3 an3 : Option Addr} {sl3 : Array (Option Value)} {oc3 kV3 dc3 pm3 cd3 ct3 : Value}
    {f4 : Addr} {od4 an4 : Option Addr} {sl4 : Array (Option Value)} {oc4 kV4 dc4 pm4 ct4 : Value} {c4 P4 : Addr} {dr4 : DefRec} {oq4 : Value} {oe4 : Option Addr} {vs4 : Array Value} {sm4 : Array (Option Value)}
    {f5 : Addr} {od5 an5 : Option Addr} {sl5 : Array (Option Value)} {oc5 kV5 dc5 pm5 cd5 ct5 : Value}
    {f6 : Addr} {od6 an6 : Option Addr} {sl6 : Array (Option Value)} {oc6 kV6 dc6 pm6 cd6 ct6 : Value}
    {f7 : Addr} {od7 an7 : Option Addr} {sl7 : Array (Option Value)} {oc7 kV7 dc7 pm7 cd7 ct7 : Value}
    {tk_NAME_SIGNS : Tok}
    (a0 : PySem.W.nsIn K mainGlobals ("_law_begun" : Str) = some (some (.ref f0)))
    (l0 : K.lookup f0 = some ⟨oc0, od0, .func (PySem.W.fnOf ("_law_begun" : Str) ("_law_begun" : Str) (defArgs st_l_begun) (defBody st_l_begun) (defScope st_l_begun) .none kV0 dc0 pm0 an0 cd0 ct0), sl0⟩)
    (c_0 : PySem.W.codeIn K cd0 ("_law_begun" : Str) = true)
    (k0 : PySem.W.keepIn K (.ref f0) = true)
    (a1 : PySem.W.nsIn K mainGlobals ("_law_dealt" : Str) = some (some (.ref f1)))
    (l1 : K.lookup f1 = some ⟨oc1, od1, .func (PySem.W.fnOf ("_law_dealt" : Str) ("_law_dealt" : Str) (defArgs st_l_dealt) (defBody st_l_dealt) (defScope st_l_dealt) .none kV1 dc1 pm1 an1 cd1 ct1), sl1⟩)
    (c_1 : PySem.W.codeIn K cd1 ("_law_dealt" : Str) = true)
    (k1 : PySem.W.keepIn K (.ref f1) = true)
    (a2 : PySem.W.nsIn K mainGlobals ("_law_pick" : Str) = some (some (.ref f2)))
    (l2 : K.lookup f2 = some ⟨oc2, od2, .func (PySem.W.fnOf ("_law_pick" : Str) ("_law_pick" : Str) (defArgs st_l_pick) (defBody st_l_pick) (defScope st_l_pick) .none kV2 dc2 pm2 an2 cd2 ct2), sl2⟩)
    (c_2 : PySem.W.codeIn K cd2 ("_law_pick" : Str) = true)
    (k2 : PySem.W.keepIn K (.ref f2) = true)
    (a3 : PySem.W.nsIn K mainGlobals ("_law_text_of" : Str) = some (some (.ref f3)))
    (l3 : K.lookup f3 = some ⟨oc3, od3, .func (PySem.W.fnOf ("_law_text_of" : Str) ("_law_text_of" : Str) (defArgs st_l_text_of) (defBody st_l_text_of) (defScope st_l_text_of) .none kV3 dc3 pm3 an3 cd3 ct3), sl3⟩)
    (c_3 : PySem.W.codeIn K cd3 ("_law_text_of" : Str) = true)
    (k3 : PySem.W.keepIn K (.ref f3) = true)
    (a4 : PySem.W.nsIn K mainGlobals ("is_name" : Str) = some (some (.ref f4)))
    (l4 : K.lookup f4 = some ⟨oc4, od4, .func (PySem.W.fnOf ("is_name" : Str) ("is_name" : Str) (defArgs st_is_name) (defBody st_is_name) (defScope st_is_name) .none kV4 dc4 pm4 an4 (.ref c4) ct4), sl4⟩)
    (c_4 : PySem.W.codeIn K (.ref c4) ("is_name" : Str) = true)
    (k4 : PySem.W.keepIn K (.ref f4) = true)
    (lc4 : K.lookup c4 = some ⟨oq4, oe4, .fields vs4, sm4⟩)
    (t4 : (vs4[11]? : Option Value) = some (.ref P4))
    (n4 : K.lookup P4 = none)
    (r4 : (recsOf q).find? (fun e => e.name == ("is_name" : Str)) = some dr4)
    (a5 : PySem.W.nsIn K mainGlobals ("_law_deemed" : Str) = some (some (.ref f5)))
    (l5 : K.lookup f5 = some ⟨oc5, od5, .func (PySem.W.fnOf ("_law_deemed" : Str) ("_law_deemed" : Str) (defArgs st_l_deemed) (defBody st_l_deemed) (defScope st_l_deemed) .none kV5 dc5 pm5 an5 cd5 ct5), sl5⟩)
    (c_5 : PySem.W.codeIn K cd5 ("_law_deemed" : Str) = true)
    (k5 : PySem.W.keepIn K (.ref f5) = true)
    (a6 : PySem.W.nsIn K mainGlobals ("_law_right" : Str) = some (some (.ref f6)))
    (l6 : K.lookup f6 = some ⟨oc6, od6, .func (PySem.W.fnOf ("_law_right" : Str) ("_law_right" : Str) (defArgs st_l_right) (defBody st_l_right) (defScope st_l_right) .none kV6 dc6 pm6 an6 cd6 ct6), sl6⟩)
    (c_6 : PySem.W.codeIn K cd6 ("_law_right" : Str) = true)
    (k6 : PySem.W.keepIn K (.ref f6) = true)
    (a7 : PySem.W.nsIn K mainGlobals ("law" : Str) = some (some (.ref f7)))
    (l7 : K.lookup f7 = some ⟨oc7, od7, .func (PySem.W.fnOf ("law" : Str) ("law" : Str) (defArgs st_law) (defBody st_law) (defScope st_law) .none kV7 dc7 pm7 an7 cd7 ct7), sl7⟩)
    (c_7 : PySem.W.codeIn K cd7 ("law" : Str) = true)
    (k7 : PySem.W.keepIn K (.ref f7) = true)
    (z_all : PySem.W.nsIn K mainGlobals ("all" : Str) = some none)
    (z_isinstance : PySem.W.nsIn K mainGlobals ("isinstance" : Str) = some none)
    (z_len : PySem.W.nsIn K mainGlobals ("len" : Str) = some none)
    (z_list : PySem.W.nsIn K mainGlobals ("list" : Str) = some none)
    (z_range : PySem.W.nsIn K mainGlobals ("range" : Str) = some none)
    (z_repr : PySem.W.nsIn K mainGlobals ("repr" : Str) = some none)
    (z_str : PySem.W.nsIn K mainGlobals ("str" : Str) = some none)
    (v_NAME_SIGNS : PySem.W.nsIn K mainGlobals ("NAME_SIGNS" : Str) = some (some (.int (8) tk_NAME_SIGNS)))
    : LawG l w K 4 63 "_law_script" mg fa h := by
  have e := hfa.symm.trans (PySem.W.mg_of X G a7)
  cases e
  have D0 : Kd K mg ("_law_begun" : Str) st_l_begun _ _ _ := ⟨⟨_, _, _, _, _, _, _, _, rfl, l0⟩, ⟨k0, c_0⟩, PySem.W.mg_of X G a0⟩
  have D1 : Kd K mg ("_law_dealt" : Str) st_l_dealt _ _ _ := ⟨⟨_, _, _, _, _, _, _, _, rfl, l1⟩, ⟨k1, c_1⟩, PySem.W.mg_of X G a1⟩
  have D2 : Kd K mg ("_law_pick" : Str) st_l_pick _ _ _ := ⟨⟨_, _, _, _, _, _, _, _, rfl, l2⟩, ⟨k2, c_2⟩, PySem.W.mg_of X G a2⟩
  have D3 : Kd K mg ("_law_text_of" : Str) st_l_text_of _ _ _ := ⟨⟨_, _, _, _, _, _, _, _, rfl, l3⟩, ⟨k3, c_3⟩, PySem.W.mg_of X G a3⟩
  have D4 : Kd K mg ("is_name" : Str) st_is_name _ _ _ := ⟨⟨_, _, _, _, _, _, _, _, rfl, l4⟩, ⟨k4, c_4⟩, PySem.W.mg_of X G a4⟩
  have D5 : Kd K mg ("_law_deemed" : Str) st_l_deemed _ _ _ := ⟨⟨_, _, _, _, _, _, _, _, rfl, l5⟩, ⟨k5, c_5⟩, PySem.W.mg_of X G a5⟩
  have D6 : Kd K mg ("_law_right" : Str) st_l_right _ _ _ := ⟨⟨_, _, _, _, _, _, _, _, rfl, l6⟩, ⟨k6, c_6⟩, PySem.W.mg_of X G a6⟩
  have D7 : Kd K mg ("law" : Str) st_law _ _ _ := ⟨⟨_, _, _, _, _, _, _, _, rfl, l7⟩, ⟨k7, c_7⟩, PySem.W.mg_of X G a7⟩
  have Tx : Txt K mg := ⟨PySem.W.mg_none_of X G z_all, PySem.W.mg_none_of X G z_isinstance, PySem.W.mg_none_of X G z_len, PySem.W.mg_none_of X G z_list, PySem.W.mg_none_of X G z_range, PySem.W.mg_none_of X G z_repr, PySem.W.mg_none_of X G z_str, ⟨_, PySem.W.mg_of X G v_NAME_SIGNS, ⟨_, rfl⟩⟩⟩
  have tb4 := PySem.W.tab_of T X r4 (Mi.tabIn_of a4 l4 rfl lc4 t4)
  refine ⟨PySem.W.fnOf "law" "law" (defArgs st_law) (defBody st_law) (defScope st_law) .none kV7 dc7 pm7 an7 cd7 ct7, [], [(c4, P4)], f_law, (by intro p hp; simp only [List.mem_cons, List.not_mem_nil, or_false] at hp; rcases hp with rfl <;> first | exact tb4.2), (by intro p hp; simp only [List.mem_cons, List.not_mem_nil, or_false] at hp; rcases hp with rfl <;> first | exact n4), (by intro p hp; simp only [List.mem_cons, List.not_mem_nil, or_false] at hp; rcases hp with rfl <;> first | exact tb4.1), fun s v => .of_eq rfl, fun ns hl hb => law_ok hl hb, fun base _ _ TB => ?_⟩
  have TB4 := TB (c4, P4) (by simp)
  have hP4 : P4 ∈ [(c4, P4)].map (·.2) := by simp
  have C_l_begun := ok_l_begun (P := l.prog) (w := w) (base := base) (cls := []) (ts := [(c4, P4)].map (·.2)) Tx D0
  have C_l_dealt := ok_l_dealt (P := l.prog) (w := w) (base := base) (cls := []) (ts := [(c4, P4)].map (·.2)) Tx D1
  have C_l_pick := ok_l_pick (P := l.prog) (w := w) (base := base) (cls := []) (ts := [(c4, P4)].map (·.2)) Tx C_l_dealt D2
  have C_l_text_of := ok_l_text_of (P := l.prog) (w := w) (base := base) (cls := []) (ts := [(c4, P4)].map (·.2)) Tx C_l_dealt C_l_pick D3
  have C_is_name := ok_is_name (P := l.prog) (w := w) (base := base) (cls := []) (ts := [(c4, P4)].map (·.2)) Tx TB4 hP4 D4
  have C_l_deemed := ok_l_deemed (P := l.prog) (w := w) (base := base) (cls := []) (ts := [(c4, P4)].map (·.2)) Tx D5
  have C_l_right := ok_l_right (P := l.prog) (w := w) (base := base) (cls := []) (ts := [(c4, P4)].map (·.2)) Tx C_is_name C_l_deemed D6
  exact fn_law (P := l.prog) (w := w) (cls := []) Tx C_l_begun C_l_text_of C_l_right D7
end K01
open PySem PySem.W PyProof.Rows in
set_option maxRecDepth 100000 in
set_option maxHeartbeats 0 in
theorem PySem.Challenge.cw_everso_k01_names_of_anything_holds : PySem.Challenge.rw_everso_k01_names_of_anything.Holds := by
  w_on; o_law; k_head; (case hw => w_witness2)
  k_fill
  refine Mi.walkG (l := PySem.Challenge.rw_everso_k01_names_of_anything) (n := 63) (k := 4) (x := "_law_script") rfl (by decide) rfl ⟨rfl, by decide, by decide⟩ (fun w h Y => PySem.W.kIn_of Y) ?F
  case F =>
    intro w mg mb mean fa h T Y KX G hmg
    refine' K01.all_mk T KX G hmg ?a0 ?l0 ?c_0 ?k0 ?a1 ?l1 ?c_1 ?k1 ?a2 ?l2 ?c_2 ?k2 ?a3 ?l3 ?c_3 ?k3 ?a4 ?l4 ?c_4 ?k4 ?lc4 ?t4 ?n4 ?r4 ?a5 ?l5 ?c_5 ?k5 ?a6 ?l6 ?c_6 ?k6 ?a7 ?l7 ?c_7 ?k7 ?z_all ?z_isinstance ?z_len ?z_list ?z_range ?z_repr ?z_str ?v_NAME_SIGNS
    (case a0 => k_is)
    (case l0 => k_is)
    (case c_0 => k_is)
    (case k0 => k_is)
    (case a1 => k_is)
    (case l1 => k_is)
    (case c_1 => k_is)
    (case k1 => k_is)
    (case a2 => k_is)
    (case l2 => k_is)
    (case c_2 => k_is)
    (case k2 => k_is)
    (case a3 => k_is)
    (case l3 => k_is)
    (case c_3 => k_is)
    (case k3 => k_is)
    (case a4 => k_is)
    (case l4 => k_is)
    (case c_4 => k_is)
    (case k4 => k_is)
    (case lc4 => k_is)
    (case t4 => first | rfl | kernel_rfl)
    (case n4 => first | rfl | kernel_rfl)
    (case r4 => first | rfl | kernel_rfl)
    (case a5 => k_is)
    (case l5 => k_is)
    (case c_5 => k_is)
    (case k5 => k_is)
    (case a6 => k_is)
    (case l6 => k_is)
    (case c_6 => k_is)
    (case k6 => k_is)
    (case a7 => k_is)
    (case l7 => k_is)
    (case c_7 => k_is)
    (case k7 => k_is)
    (case z_all => k_is)
    (case z_isinstance => k_is)
    (case z_len => k_is)
    (case z_list => k_is)
    (case z_range => k_is)
    (case z_repr => k_is)
    (case z_str => k_is)
    (case v_NAME_SIGNS => k_is)

