import PyProof.Rows.All
import Wide.All
import OpenK.AllK
import Wide.FinOn
import HandS.TupAny
import HandS.ForMost
import HandS.ForExc
import HandS.Walk
import HandS.Zip
import HandS.IsInst
import HandS.Wide
import HandS.CallSlots
import HandS.TryOnly
import HandS.ExcField
import HandS.Flow
import KE.GoesEnum
import KE.GoesMore
import KE.KExcSuper
import KE.KSuper
import HandS.ExcSuper
import HandS.ExcIs
import KE.KExcIs
import HandS.Conv
import HandS.Rev
import HandS.RevRange
import HandS.Style
import HandS.SortInts
import HandS.SetFor
import HandS.ClsMeth
import HandS.MakeKwOnly
import HandS.TupMul
import HandS.Property
import HandS.OwnEq
import HandS.Star
import HandS.CallRecv
import KE.DataCmp
import HandS.Deep
import HandS.TupLen
import HandS.DictComp
import HandS.More
import HandS.Flt
import HandS.TryMany
import PyProof.EqAt
import PyProof.EqKinds
import PyProof.TupleCall
import KE.RegKSuper
import PySem.Challenge.RW_fewchairs_k36_shares_ends
set_option Elab.async false
set_option linter.all false
set_option maxRecDepth 100000
namespace FC
open PySem PySem.Spec L2

/-! ### data, stores, results -/
inductive Dv where
  | non | bl (b : Bool) | int (i : Int) | str (x : Str)
  | tup (xs : List Dv) | lst (xs : List Dv)
  | obj (n : Nat)
  | ins (c : Str) (fs : List (Str × Dv))
  | dic (kvs : List (Key × Dv)) | dit (kvs : List (List Key × Dv))
  | cls (c : Str)
abbrev Store := List Dv
inductive Rs (α : Type) where
  | ok (a : α) (S : Store)
  | exc (c : Str) (fs : List (Str × Dv)) (S : Store)
abbrev Mm (α : Type) := Store → Option (Rs α)
@[simp] def ret {α : Type} (a : α) : Mm α := fun S => some (.ok a S)
@[simp] def bnd {α β : Type} (m : Mm α) (k : α → Mm β) : Mm β := fun S => match m S with
  | none => none
  | some (.exc c fs S') => some (.exc c fs S')
  | some (.ok a S') => k a S'
@[simp] def stuck {α : Type} : Mm α := fun _ => none
@[simp] def ofO {α : Type} (o : Option α) : Mm α := fun S => match o with
  | none => none
  | some a => some (.ok a S)
abbrev DEnv := List (Option Dv)
abbrev FE := DEnv → Mm Dv
abbrev FT := DEnv → Mm Bool
abbrev FA := DEnv → Mm (List Dv)

/-! ### the worlds -/
structure Gp where
  K : PySem.W.Frag
  cA : Str → Addr
structure Wd where
  H : Hp
  as : List Addr
  M0 : List Addr
def Wd.M (w : Wd) (a : Addr) : Prop := a ∈ w.M0 ∨ a ∈ w.as
def SqLM (G : Gp) (w : Wd) (a : Addr) (xs : List V) : Prop :=
  (Rd w.H a (.lst xs) ∧ ¬ w.M a) ∨
    ∃ (o : Obj) (its : Array Value) (n : Nat), G.K.lookup a = some o ∧ o.cls = .type "list" ∧ o.dict = none ∧ o.data = .seq its n ∧ its.size ≤ sizeLine ∧ Vals xs its.toList
def SqTM (G : Gp) (w : Wd) (a : Addr) (xs : List V) : Prop :=
  (w.H a = some (.tup xs) ∧ ¬ w.M a) ∨ xs = [] ∧
    ∃ (o : Obj) (its : Array Value) (n : Nat), G.K.lookup a = some o ∧ o.cls = .type "tuple" ∧ o.data = .seq its n ∧ its.size ≤ sizeLine ∧ Vals xs its.toList
theorem SqLM.to {G : Gp} {w : Wd} {a : Addr} {xs : List V} (h : SqLM G w a xs) : SqL G.K w.H a xs := by
  rcases h with h | h
  · exact .inl h.1
  · exact .inr h
theorem SqTM.to {G : Gp} {w : Wd} {a : Addr} {xs : List V} (h : SqTM G w a xs) : SqT G.K w.H a xs := by
  rcases h with h | h
  · exact .inl (.inl h.1)
  · exact .inr h.2
mutual
inductive Rp (G : Gp) (w : Wd) : V → Dv → Prop
  | non : Rp G w .non .non
  | bl (b : Bool) : Rp G w (.bl b) (.bl b)
  | int (i : Int) : Rp G w (.int i) (.int i)
  | str (x : Str) : Rp G w (.str x) (.str x)
  | cls (c : Str) : Rp G w (.ref (G.cA c)) (.cls c)
  | tup {a : Addr} {xs : List V} {ds : List Dv} : SqTM G w a xs → RpAll G w xs ds → Rp G w (.ref a) (.tup ds)
  | lst {a : Addr} {xs : List V} {ds : List Dv} : SqLM G w a xs → RpAll G w xs ds → Rp G w (.ref a) (.lst ds)
  | obj {a : Addr} {n : Nat} : w.as[n]? = some a → Rp G w (.ref a) (.obj n)
  | ins {a dx : Addr} {c : Str} {fs' : List (Str × V)} {fs : List (Str × Dv)} : w.H a = some (.ins (G.cA c) dx fs') → ¬ w.M a → fs'.map Prod.fst = fs.map Prod.fst → RpAll G w (fs'.map Prod.snd) (fs.map Prod.snd) → Rp G w (.ref a) (.ins c fs)
  | dic {a : Addr} {kvs' : List (Key × V)} {kvs : List (Key × Dv)} : Rd w.H a (.dK kvs') → ¬ w.M a → kvs'.map Prod.fst = kvs.map Prod.fst → RpAll G w (kvs'.map Prod.snd) (kvs.map Prod.snd) → Rp G w (.ref a) (.dic kvs)
  | dit {a : Addr} {kvs' : List (List Key × V)} {kvs : List (List Key × Dv)} : Rd w.H a (.dT kvs') → ¬ w.M a → kvs'.map Prod.fst = kvs.map Prod.fst → RpAll G w (kvs'.map Prod.snd) (kvs.map Prod.snd) → Rp G w (.ref a) (.dit kvs)
inductive RpAll (G : Gp) (w : Wd) : List V → List Dv → Prop
  | nil : RpAll G w [] []
  | cons {v : V} {vs : List V} {d : Dv} {ds : List Dv} : Rp G w v d → RpAll G w vs ds → RpAll G w (v :: vs) (d :: ds)
end

/-- what may have happened since: new objects, changes of the named ones -/
structure Ext (w w' : Wd) : Prop where
  as : ∃ bs, w'.as = w.as ++ bs
  m0 : ∀ a ∈ w.M0, a ∈ w'.M0
  na : ∀ a o, w.H a = some o → a ∉ w.as → a ∉ w'.as
  nM : ∀ a o, w.H a = some o → ¬ w.M a → ¬ w'.M a
  keep : ∀ a o, a ∉ w.as → w.H a = some o → w'.H a = some o
theorem Ext.refl (w : Wd) : Ext w w := ⟨⟨[], by simp⟩, fun _ h => h, fun _ _ _ h => h, fun _ _ _ h => h, fun _ _ _ h => h⟩
theorem Ext.as_of {w w' : Wd} (e : Ext w w') {n : Nat} {a : Addr} (h : w.as[n]? = some a) : w'.as[n]? = some a := by
  obtain ⟨bs, hb⟩ := e.as
  rw [hb]
  have hn : n < w.as.length := (List.getElem?_eq_some_iff.mp h).1
  rw [List.getElem?_append_left hn]
  exact h
theorem Ext.trans {w w1 w2 : Wd} (a : Ext w w1) (b : Ext w1 w2) : Ext w w2 := by
  obtain ⟨bs, hb⟩ := a.as
  obtain ⟨cs, hc⟩ := b.as
  refine ⟨⟨bs ++ cs, by rw [hc, hb, List.append_assoc]⟩, fun x hx => b.m0 x (a.m0 x hx), fun x o h n => ?_, fun x o h n => ?_, fun x o hx h => ?_⟩
  · exact b.na x o (a.keep x o n h) (a.na x o h n)
  · exact b.nM x o (a.keep x o (fun z => n (.inr z)) h) (a.nM x o h n)
  · exact b.keep x o (a.na x o h hx) (a.keep x o hx h)
theorem Ext.rd {w w' : Wd} (e : Ext w w') {a : Addr} {u : HO} (h : Rd w.H a u) (n : ¬ w.M a) : Rd w'.H a u ∧ ¬ w'.M a := by
  have na : a ∉ w.as := fun z => n (.inr z)
  rcases h with h | ⟨o, h⟩
  · exact ⟨.inl (e.keep _ _ na h), e.nM _ _ h n⟩
  · exact ⟨.inr ⟨o, e.keep _ _ na h⟩, e.nM _ _ h n⟩
theorem SqLM.mono {G : Gp} {w w' : Wd} (e : Ext w w') {a : Addr} {xs : List V} (h : SqLM G w a xs) : SqLM G w' a xs := by
  rcases h with h | h
  · exact .inl (e.rd h.1 h.2)
  · exact .inr h
theorem SqTM.mono {G : Gp} {w w' : Wd} (e : Ext w w') {a : Addr} {xs : List V} (h : SqTM G w a xs) : SqTM G w' a xs := by
  rcases h with h | h
  · exact .inl ⟨e.keep _ _ (fun z => h.2 (.inr z)) h.1, e.nM _ _ h.1 h.2⟩
  · exact .inr h
mutual
theorem Rp.mono {G : Gp} {w w' : Wd} (e : Ext w w') : ∀ {v : V} {d : Dv}, Rp G w v d → Rp G w' v d
  | _, _, .non => .non
  | _, _, .bl b => .bl b
  | _, _, .int i => .int i
  | _, _, .str x => .str x
  | _, _, .cls c => .cls c
  | _, _, .tup h r => .tup (h.mono e) (RpAll.mono e r)
  | _, _, .lst h r => .lst (h.mono e) (RpAll.mono e r)
  | _, _, .obj h => .obj (e.as_of h)
  | _, _, .ins h n q r => .ins (e.keep _ _ (fun z => n (.inr z)) h) (e.nM _ _ h n) q (RpAll.mono e r)
  | _, _, .dic h n q r => .dic (e.rd h n).1 (e.rd h n).2 q (RpAll.mono e r)
  | _, _, .dit h n q r => .dit (e.rd h n).1 (e.rd h n).2 q (RpAll.mono e r)
theorem RpAll.mono {G : Gp} {w w' : Wd} (e : Ext w w') : ∀ {vs : List V} {ds : List Dv}, RpAll G w vs ds → RpAll G w' vs ds
  | _, _, .nil => .nil
  | _, _, .cons h r => .cons (Rp.mono e h) (RpAll.mono e r)
end
/-- fewer names set apart, the same heap -/
structure Less (w w' : Wd) : Prop where
  H : w'.H = w.H
  M : ∀ a, w'.M a → w.M a
  as : ∀ (n : Nat) (a : Addr), w.as[n]? = some a → w'.as[n]? = some a
mutual
theorem Rp.less {G : Gp} {w w' : Wd} (e : Less w w') : ∀ {v : V} {d : Dv}, Rp G w v d → Rp G w' v d
  | _, _, .non => .non
  | _, _, .bl b => .bl b
  | _, _, .int i => .int i
  | _, _, .str x => .str x
  | _, _, .cls c => .cls c
  | _, _, .tup h r => .tup (by
      rcases h with h | h
      · exact .inl ⟨by rw [e.H]; exact h.1, fun z => h.2 (e.M _ z)⟩
      · exact .inr h) (RpAll.less e r)
  | _, _, .lst h r => .lst (by
      rcases h with h | h
      · exact .inl ⟨by rw [e.H]; exact h.1, fun z => h.2 (e.M _ z)⟩
      · exact .inr h) (RpAll.less e r)
  | _, _, .obj h => .obj (e.as _ _ h)
  | _, _, .ins h n q r => .ins (by rw [e.H]; exact h) (fun z => n (e.M _ z)) q (RpAll.less e r)
  | _, _, .dic h n q r => .dic (by rw [e.H]; exact h) (fun z => n (e.M _ z)) q (RpAll.less e r)
  | _, _, .dit h n q r => .dit (by rw [e.H]; exact h) (fun z => n (e.M _ z)) q (RpAll.less e r)
theorem RpAll.less {G : Gp} {w w' : Wd} (e : Less w w') : ∀ {vs : List V} {ds : List Dv}, RpAll G w vs ds → RpAll G w' vs ds
  | _, _, .nil => .nil
  | _, _, .cons h r => .cons (Rp.less e h) (RpAll.less e r)
end
section
variable {G : Gp} {w : Wd}
theorem RpAll.length : ∀ {vs : List V} {ds : List Dv}, RpAll G w vs ds → vs.length = ds.length
  | _, _, .nil => rfl
  | _, _, .cons _ r => by
    show _ + 1 = _ + 1
    rw [RpAll.length r]
theorem RpAll.get : ∀ {vs : List V} {ds : List Dv} {i : Nat} {d : Dv}, RpAll G w vs ds → ds[i]? = some d → ∃ v, vs[i]? = some v ∧ Rp G w v d
  | _, _, _, _, .nil, h => by simp at h
  | _, _, 0, _, .cons r _, h => by
    simp at h
    subst h
    exact ⟨_, rfl, r⟩
  | _, _, i + 1, d, .cons _ r, h => by
    obtain ⟨v, h1, h2⟩ := RpAll.get (i := i) (d := d) r (by simpa using h)
    exact ⟨v, by simpa using h1, h2⟩
theorem RpAll.getV : ∀ {vs : List V} {ds : List Dv} {i : Nat} {v : V}, RpAll G w vs ds → vs[i]? = some v → ∃ d, ds[i]? = some d ∧ Rp G w v d
  | _, _, _, _, .nil, h => by simp at h
  | _, _, 0, _, .cons r _, h => by
    simp at h
    subst h
    exact ⟨_, rfl, r⟩
  | _, _, i + 1, d, .cons _ r, h => by
    obtain ⟨v, h1, h2⟩ := RpAll.getV (i := i) (v := d) r (by simpa using h)
    exact ⟨v, by simpa using h1, h2⟩
theorem RpAll.append : ∀ {vs us : List V} {ds es : List Dv}, RpAll G w vs ds → RpAll G w us es → RpAll G w (vs ++ us) (ds ++ es)
  | _, _, _, _, .nil, s => s
  | _, _, _, _, .cons h r, s => .cons h (RpAll.append r s)
theorem RpAll.set {v : V} {d : Dv} (h : Rp G w v d) : ∀ {vs : List V} {ds : List Dv} (i : Nat), RpAll G w vs ds → RpAll G w (vs.set i v) (ds.set i d)
  | _, _, _, .nil => .nil
  | _, _, 0, .cons _ r => .cons h r
  | _, _, i + 1, .cons q r => .cons q (RpAll.set h i r)
theorem RpAll.take : ∀ {vs : List V} {ds : List Dv} (n : Nat), RpAll G w vs ds → RpAll G w (vs.take n) (ds.take n)
  | _, _, 0, _ => .nil
  | _, _, _ + 1, .nil => .nil
  | _, _, n + 1, .cons h r => .cons h (RpAll.take n r)
theorem RpAll.drop : ∀ {vs : List V} {ds : List Dv} (n : Nat), RpAll G w vs ds → RpAll G w (vs.drop n) (ds.drop n)
  | _, _, 0, r => r
  | _, _, _ + 1, .nil => .nil
  | _, _, n + 1, .cons _ r => RpAll.drop n r
theorem RpAll.ints : ∀ {vs : List V} {ns : List Int}, RpAll G w vs (ns.map Dv.int) → vs = ns.map V.int
  | _, [], h => by cases h; rfl
  | _, n :: ns, h => by
    cases h with
    | cons h r =>
      cases h
      rw [RpAll.ints r]
      rfl
theorem RpAll.bls : ∀ {vs : List V} {ns : List Bool}, RpAll G w vs (ns.map Dv.bl) → vs = ns.map V.bl
  | _, [], h => by cases h; rfl
  | _, n :: ns, h => by
    cases h with
    | cons h r =>
      cases h
      rw [RpAll.bls r]
      rfl
theorem RpAll.of_ints : ∀ (ns : List Int), RpAll G w (ns.map V.int) (ns.map Dv.int)
  | [] => .nil
  | n :: ns => .cons (.int n) (RpAll.of_ints ns)
end

/-! ### stores -/
def MOk (G : Gp) (w : Wd) (a : Addr) : Dv → Prop
  | .lst ds => ∃ xs, w.H a = some (.lst xs) ∧ RpAll G w xs ds
  | .ins c fs => ∃ dx fs', w.H a = some (.ins (G.cA c) dx fs') ∧ fs'.map Prod.fst = fs.map Prod.fst ∧ RpAll G w (fs'.map Prod.snd) (fs.map Prod.snd)
  | .dic kvs => ∃ kvs', w.H a = some (.dK kvs') ∧ kvs'.map Prod.fst = kvs.map Prod.fst ∧ RpAll G w (kvs'.map Prod.snd) (kvs.map Prod.snd)
  | .dit kvs => ∃ kvs', w.H a = some (.dT kvs') ∧ kvs'.map Prod.fst = kvs.map Prod.fst ∧ RpAll G w (kvs'.map Prod.snd) (kvs.map Prod.snd)
  | _ => False
theorem MOk.there {G : Gp} {w : Wd} {a : Addr} {d : Dv} (h : MOk G w a d) : ∃ o, w.H a = some o := by
  cases d <;> first | exact h.elim | skip
  · obtain ⟨xs, h, _⟩ := h; exact ⟨_, h⟩
  · obtain ⟨_, _, h, _⟩ := h; exact ⟨_, h⟩
  · obtain ⟨_, h, _⟩ := h; exact ⟨_, h⟩
  · obtain ⟨_, h, _⟩ := h; exact ⟨_, h⟩
/-- the object stands as it was -/
theorem MOk.mono {G : Gp} {w w' : Wd} (e : Ext w w') {a : Addr} {d : Dv} (hk : w'.H a = w.H a) (h : MOk G w a d) : MOk G w' a d := by
  cases d <;> first | exact h.elim | skip
  · obtain ⟨xs, h, r⟩ := h; exact ⟨xs, hk.trans h, r.mono e⟩
  · obtain ⟨dx, fs', h, q, r⟩ := h; exact ⟨dx, fs', hk.trans h, q, r.mono e⟩
  · obtain ⟨kvs', h, q, r⟩ := h; exact ⟨kvs', hk.trans h, q, r.mono e⟩
  · obtain ⟨kvs', h, q, r⟩ := h; exact ⟨kvs', hk.trans h, q, r.mono e⟩
theorem MOk.less {G : Gp} {w w' : Wd} (e : Less w w') {a : Addr} {d : Dv} (h : MOk G w a d) : MOk G w' a d := by
  have hk : w'.H a = w.H a := by rw [e.H]
  cases d <;> first | exact h.elim | skip
  · obtain ⟨xs, h, r⟩ := h; exact ⟨xs, hk.trans h, r.less e⟩
  · obtain ⟨dx, fs', h, q, r⟩ := h; exact ⟨dx, fs', hk.trans h, q, r.less e⟩
  · obtain ⟨kvs', h, q, r⟩ := h; exact ⟨kvs', hk.trans h, q, r.less e⟩
  · obtain ⟨kvs', h, q, r⟩ := h; exact ⟨kvs', hk.trans h, q, r.less e⟩
structure SOk (G : Gp) (w : Wd) (S : Store) : Prop where
  nd : w.as.Nodup
  len : w.as.length = S.length
  dom : ∀ a ∈ w.M0, ∃ o, w.H a = some o
  dj : ∀ a ∈ w.as, a ∉ w.M0
  cont : ∀ (i : Nat) (a : Addr) (d : Dv), w.as[i]? = some a → S[i]? = some d → MOk G w a d
theorem SOk.asd {G : Gp} {w : Wd} {S : Store} (h : SOk G w S) : ∀ a ∈ w.as, ∃ o, w.H a = some o := fun a ha => by
  obtain ⟨i, hi, e⟩ := List.getElem_of_mem ha
  have h2 : i < S.length := by rw [← h.len]; exact hi
  exact (h.cont i a S[i] (by rw [List.getElem?_eq_getElem hi, e]) (List.getElem?_eq_getElem h2)).there
theorem SOk.fresh {G : Gp} {w : Wd} {S : Store} (h : SOk G w S) {p : Addr} (hp : w.H p = none) : ¬ w.M p := by
  rintro (z | z)
  · obtain ⟨o, q⟩ := h.dom p z
    rw [hp] at q
    cases q
  · obtain ⟨o, q⟩ := h.asd p z
    rw [hp] at q
    cases q
theorem Ext.thru {G : Gp} {w w1 w2 : Wd} {S1 : Store} (a : Ext w w1) (b : Ext w1 w2) (_ : SOk G w1 S1) : Ext w w2 := a.trans b

/-- a new object that no name holds -/
def Wd.put (w : Wd) (p : Addr) (o : HO) : Wd := ⟨upd w.H p o, w.as, w.M0⟩
/-- a new object with a name -/
def Wd.add (w : Wd) (p : Addr) (o : HO) : Wd := ⟨upd w.H p o, w.as ++ [p], w.M0⟩
section
variable {G : Gp} {w : Wd} {S : Store} {p : Addr} {o : HO}
theorem Ext.put (hp : w.H p = none) : Ext w (w.put p o) := ⟨⟨[], by simp [Wd.put]⟩, fun _ h => h, fun _ _ _ h => h, fun _ _ _ h => h, fun a u _ h => by
    show upd w.H p o a = some u
    rw [upd_ne (ne_of_none h hp)]
    exact h⟩
theorem mem_add {as : List Addr} {a p : Addr} (h : a ∈ as ++ [p]) (n : a ≠ p) : a ∈ as := by
  rcases List.mem_append.mp h with z | z
  · exact z
  · exact absurd (by simpa using z) n
theorem Ext.add (hp : w.H p = none) : Ext w (w.add p o) := ⟨⟨[p], rfl⟩, fun _ h => h, fun a u h n z => n (mem_add z (ne_of_none h hp)), fun a u h n z => by
    rcases z with z | z
    · exact n (.inl z)
    · exact n (.inr (mem_add z (ne_of_none h hp))),
  fun a u _ h => by
    show upd w.H p o a = some u
    rw [upd_ne (ne_of_none h hp)]
    exact h⟩
theorem SOk.put (h : SOk G w S) (hp : w.H p = none) : SOk G (w.put p o) S := by
  have e : Ext w (w.put p o) := .put hp
  refine ⟨h.nd, h.len, fun a ha => ?_, h.dj, fun i a d h1 h2 => ?_⟩
  · obtain ⟨u, hu⟩ := h.dom a ha
    exact ⟨u, by show upd w.H p o a = some u; rw [upd_ne (ne_of_none hu hp)]; exact hu⟩
  · have q := h.cont i a d h1 h2
    obtain ⟨u, hu⟩ := q.there
    exact q.mono e (upd_ne (ne_of_none hu hp))
theorem SOk.add (h : SOk G w S) (hp : w.H p = none) {d : Dv} (hd : MOk G (w.add p o) p d) : SOk G (w.add p o) (S ++ [d]) := by
  have e : Ext w (w.add p o) := .add hp
  have hnp : p ∉ w.as := fun z => h.fresh hp (.inr z)
  refine ⟨?_, ?_, fun a ha => ?_, fun a ha z => ?_, fun i a d' h1 h2 => ?_⟩
  · show (w.as ++ [p]).Nodup
    rw [List.nodup_append]
    refine ⟨h.nd, by simp, fun a ha b hb => ?_⟩
    simp at hb
    subst hb
    rintro rfl
    exact hnp ha
  · show (w.as ++ [p]).length = (S ++ [d]).length
    simp [h.len]
  · obtain ⟨u, hu⟩ := h.dom a ha
    exact ⟨u, by show upd w.H p o a = some u; rw [upd_ne (ne_of_none hu hp)]; exact hu⟩
  · rcases List.mem_append.mp ha with q | q
    · exact h.dj a q z
    · rw [show a = p by simpa using q] at z
      exact h.fresh hp (.inl z)
  · have h1' : (w.as ++ [p])[i]? = some a := h1
    by_cases hi : i < w.as.length
    · rw [List.getElem?_append_left hi] at h1'
      rw [List.getElem?_append_left (by rw [← h.len]; exact hi)] at h2
      have q := h.cont i a d' h1' h2
      obtain ⟨u, hu⟩ := q.there
      exact q.mono e (upd_ne (ne_of_none hu hp))
    · have hi2 : w.as.length ≤ i := by omega
      rw [List.getElem?_append_right hi2] at h1'
      rw [List.getElem?_append_right (by rw [← h.len]; exact hi2)] at h2
      cases hk : i - w.as.length with
      | zero =>
        rw [hk] at h1'
        rw [← h.len, hk] at h2
        simp at h1' h2
        subst h1'; subst h2
        exact hd
      | succ k =>
        rw [hk] at h1'
        simp at h1'
theorem Rp.new_tup (h : SOk G w S) (hp : w.H p = none) {xs : List V} {ds : List Dv} (r : RpAll G w xs ds) : Rp G (w.put p (.tup xs)) (.ref p) (.tup ds) :=
  .tup (.inl ⟨upd_same, h.fresh hp⟩) (r.mono (.put hp))
theorem Rp.new_lst (h : SOk G w S) (hp : w.H p = none) {xs : List V} {ds : List Dv} (r : RpAll G w xs ds) : Rp G (w.put p (.lst xs)) (.ref p) (.lst ds) :=
  .lst (.inl ⟨.inl upd_same, h.fresh hp⟩) (r.mono (.put hp))
theorem Rp.add_obj (h : SOk G w S) : Rp G (w.add p o) (.ref p) (.obj S.length) := .obj (by
  show (w.as ++ [p])[S.length]? = some p
  rw [← h.len, List.getElem?_append_right (Nat.le_refl _), Nat.sub_self]
  rfl)
/-- a named object changes -/
theorem SOk.upd {i : Nat} {a : Addr} {d : Dv} (h : SOk G w S) (hi : w.as[i]? = some a) (hd : MOk G (w.put a o) a d) : SOk G (w.put a o) (S.set i d) := by
  have hil : i < w.as.length := (List.getElem?_eq_some_iff.mp hi).1
  have ha : a ∈ w.as := List.mem_of_getElem? hi
  have e : Ext w (w.put a o) := ⟨⟨[], by simp [Wd.put]⟩, fun _ h => h, fun _ _ _ h => h, fun _ _ _ h => h, fun b u hb hu => by
    show L2.upd w.H a o b = some u
    rw [upd_ne (show b ≠ a from fun z => hb (by rw [z]; exact ha))]
    exact hu⟩
  refine ⟨h.nd, by rw [List.length_set]; exact h.len, fun b hb => ?_, h.dj, fun j b d' h1 h2 => ?_⟩
  · by_cases q : b = a
    · subst q; exact ⟨o, upd_same⟩
    · obtain ⟨u, hu⟩ := h.dom b hb
      exact ⟨u, (upd_ne q).trans hu⟩
  · by_cases q : j = i
    · subst q
      have h1' : w.as[j]? = some b := h1
      rw [hi] at h1'
      cases h1'
      rw [List.getElem?_set_self (by rw [← h.len]; exact hil)] at h2
      cases h2
      exact hd
    · rw [List.getElem?_set_ne (Ne.symm q)] at h2
      have h1' : w.as[j]? = some b := h1
      have hjl : j < w.as.length := (List.getElem?_eq_some_iff.mp h1').1
      have hba : b ≠ a := by
        rintro rfl
        have e1 : w.as[j] = w.as[i] := by
          have z1 := (List.getElem?_eq_some_iff.mp h1').2
          have z2 := (List.getElem?_eq_some_iff.mp hi).2
          rw [z1, z2]
        exact q ((List.getElem_inj h.nd).mp e1)
      exact (h.cont j b d' h1' h2).mono e (upd_ne hba)
theorem Ext.upd {i : Nat} {a : Addr} (hi : w.as[i]? = some a) : Ext w (w.put a o) := ⟨⟨[], by simp [Wd.put]⟩, fun _ h => h, fun _ _ _ h => h, fun _ _ _ h => h, fun b u hb hu => by
  show L2.upd w.H a o b = some u
  rw [upd_ne (show b ≠ a from fun z => hb (by rw [z]; exact List.mem_of_getElem? hi))]
  exact hu⟩
end

/-! ### slots -/
/-- what else is known, and stays while no slot is stored but those that are ok -/
structure Iv where
  P : Wd → L2.St → Prop
  ok : Nat → Prop
  mono : ∀ w w' σ, Ext w w' → P w σ → P w' σ
  put : ∀ w σ i v, ok i → P w σ → P w (σ.set i v)
def Iv.no : Iv := ⟨fun _ _ => True, fun _ => True, fun _ _ _ _ h => h, fun _ _ _ _ _ h => h⟩
structure EOk (G : Gp) (I : Iv) (w : Wd) (σ : L2.St) (env : DEnv) : Prop where
  len : σ.length = env.length
  get : ∀ (i : Nat) (d : Dv), env[i]? = some (some d) → ∃ v, σ[i]? = some (some v) ∧ Rp G w v d
  inv : I.P w σ
theorem EOk.mono {G : Gp} {I : Iv} {w w' : Wd} {σ : L2.St} {env : DEnv} (e : Ext w w') (h : EOk G I w σ env) : EOk G I w' σ env := ⟨h.len, fun i d q => by
  obtain ⟨v, h1, h2⟩ := h.get i d q
  exact ⟨v, h1, h2.mono e⟩, I.mono _ _ _ e h.inv⟩
theorem EOk.set {G : Gp} {I : Iv} {w : Wd} {σ : L2.St} {env : DEnv} (h : EOk G I w σ env) {i : Nat} {v : V} {d : Dv} (hok : I.ok i) (r : Rp G w v d) : EOk G I w (σ.set i (some v)) (env.set i (some d)) := ⟨by simp [h.len], fun j e q => by
  by_cases z : i = j
  · subst z
    have hl : i < env.length := by
      have := (List.getElem?_eq_some_iff.mp q).1
      simpa using this
    rw [List.getElem?_set_self hl] at q
    cases q
    exact ⟨v, List.getElem?_set_self (by rw [h.len]; exact hl), r⟩
  · rw [List.getElem?_set_ne z] at q
    obtain ⟨u, h1, h2⟩ := h.get j e q
    exact ⟨u, by rw [List.getElem?_set_ne z]; exact h1, h2⟩, I.put _ _ _ _ hok h.inv⟩
end FC

set_option Elab.async false
set_option linter.all false
set_option maxRecDepth 100000
namespace FC
open PySem PySem.Spec L2

def cOf (mg : Str → Option Value) (s : Str) : Addr := match mg s with
  | some (.ref a) => a
  | _ => 0
abbrev gp (X : Cx) : Gp := ⟨X.K, cOf X.mg⟩

/-! ### what is wanted behind -/
def PX (G : Gp) (W : WX) (w : Wd) (σ : L2.St) (c : Str) (fs : List (Str × Dv)) (S' : Store) : Prop :=
  ∀ dd fs' w', Ext w w' → SOk G w' S' → w'.H dd = some (.xd fs') → ¬ w'.M dd → fs'.map Prod.fst = fs.map Prod.fst → RpAll G w' (fs'.map Prod.snd) (fs.map Prod.snd) → W (.ref (G.cA c)) (some dd) σ w'.H
def PR {α β : Type} (G : Gp) (W : WX) (R : Wd → β → α → Prop) (w : Wd) (σ : L2.St) (r : Rs α) (Q : β → Hp → Prop) : Prop := match r with
  | .ok d S' => ∀ v w', Ext w w' → SOk G w' S' → R w' v d → Q v w'.H
  | .exc c fs S' => PX G W w σ c fs S'
def PXr {α : Type} (G : Gp) (W : WX) (w : Wd) (σ : L2.St) (r : Rs α) : Prop := match r with
  | .ok _ _ => True
  | .exc c fs S' => PX G W w σ c fs S'
def tG {α β : Type} (G : Gp) (ξ : Iv) (W : WX) (R : Wd → β → α → Prop) (f : DEnv → Mm α) : L2.St → Hp → (β → Hp → Prop) → Prop := fun σ H Q =>
  ∃ (w : Wd) (env : DEnv) (S : Store) (r : Rs α), w.H = H ∧ SOk G w S ∧ EOk G ξ w σ env ∧ f env S = some r ∧ PR G W R w σ r Q
def RB (_ : Wd) (b c : Bool) : Prop := b = c
def tD (G : Gp) (ξ : Iv) (W : WX) (f : FE) : TE := tG G ξ W (Rp G) f
def tDT (G : Gp) (ξ : Iv) (W : WX) (f : FT) : TT := tG G ξ W RB f
def tDA (G : Gp) (ξ : Iv) (W : WX) (f : FA) : TA := tG G ξ W (RpAll G) f

section
variable {α β γ δ : Type} {G : Gp} {W : WX} {w w1 : Wd} {σ : L2.St} {S S1 : Store}
theorem PX.mono {c : Str} {fs : List (Str × Dv)} {S' : Store} (e : Ext w w1) (s1 : SOk G w1 S1) (h : PX G W w σ c fs S') : PX G W w1 σ c fs S' :=
  fun dd fs' w' e' s' hd hm hn hr => h dd fs' w' (e.thru e' s1) s' hd hm hn hr
theorem PR.px {R : Wd → β → α → Prop} {r : Rs α} {Q : β → Hp → Prop} (h : PR G W R w σ r Q) : PXr G W w σ r := by
  cases r with
  | ok _ _ => exact True.intro
  | exc _ _ _ => exact h
theorem PXr.mono {r : Rs α} (e : Ext w w1) (s1 : SOk G w1 S1) (h : PXr G W w σ r) : PXr G W w1 σ r := by
  cases r with
  | ok _ _ => exact True.intro
  | exc _ _ _ => exact PX.mono e s1 h
theorem PR.mono {R : Wd → β → α → Prop} {r : Rs α} {Q : β → Hp → Prop} (e : Ext w w1) (s1 : SOk G w1 S1) (h : PR G W R w σ r Q) : PR G W R w1 σ r Q := by
  cases r with
  | ok d S' => exact fun v w' e' s' hr => h v w' (e.thru e' s1) s' hr
  | exc _ _ _ => exact PX.mono e s1 h
theorem PR.ok_ {R : Wd → β → α → Prop} {d : α} {S' : Store} {Q : β → Hp → Prop} (h : PR G W R w σ (.ok d S') Q) {v : β} {w' : Wd} (e : Ext w w') (s : SOk G w' S') (hr : R w' v d) : Q v w'.H := h v w' e s hr
theorem PR.here {R : Wd → β → α → Prop} {d : α} {Q : β → Hp → Prop} (h : PR G W R w σ (.ok d S) Q) (s : SOk G w S) {v : β} (hr : R w v d) : Q v w.H := h v w (Ext.refl w) s hr
/-- a part, then the rest -/
theorem seqR {R : Wd → β → α → Prop} {f : DEnv → Mm α} {k : α → Mm γ} {env : DEnv} {r : Rs γ} (s : SOk G w S) (en : EOk G ξ w σ env) (hr : bnd (f env) k S = some r) (px : PXr G W w σ r) {Q : β → Hp → Prop}
    (K : ∀ a S1 v w1, Ext w w1 → SOk G w1 S1 → EOk G ξ w1 σ env → R w1 v a → k a S1 = some r → Q v w1.H) : tG G ξ W R f σ w.H Q := by
  unfold bnd at hr
  cases h : f env S with
  | none => rw [h] at hr; cases hr
  | some r1 =>
    rw [h] at hr
    refine ⟨w, env, S, r1, rfl, s, en, h, ?_⟩
    cases r1 with
    | exc c fs S' =>
      have e : (Rs.exc c fs S' : Rs γ) = r := Option.some.inj hr
      subst e
      exact px
    | ok a S' => exact fun v w' e s' q => K a S' v w' e s' (en.mono e) q hr
end

/-! ### judgements -/
section
variable (X : Cx) (ξ : Iv) (W : WX)
def DE (e : Expr) (f : FE) : Prop := PE X e (tD (gp X) ξ W f)
def DT (e : Expr) (f : FT) : Prop := PT X e (tDT (gp X) ξ W f)
def DW (e : Expr) (f : FT) : Prop := PW X e (tDT (gp X) ξ W f)
def DA (es : List Expr) (f : FA) : Prop := PA X es (tDA (gp X) ξ W f)
end
section
variable {X : Cx} {ξ : Iv} {W : WX}
theorem PE.imp {e : Expr} {t t' : TE} (h : PE X e t) (i : ∀ σ H Q, t' σ H Q → t σ H Q) : PE X e t' := ⟨fun pins s σ H Q I q => h.run pins s σ H Q I (i σ H Q q)⟩
theorem PT.imp {e : Expr} {t t' : TT} (h : PT X e t) (i : ∀ σ H Q, t' σ H Q → t σ H Q) : PT X e t' := ⟨fun pins s σ H Q I q => h.run pins s σ H Q I (i σ H Q q)⟩
theorem PW.imp {e : Expr} {t t' : TT} (h : PW X e t) (i : ∀ σ H Q, t' σ H Q → t σ H Q) : PW X e t' := ⟨fun wh pins s σ H Q I q => h.run wh pins s σ H Q I (i σ H Q q)⟩
theorem PA.imp {e : List Expr} {t t' : TA} (h : PA X e t) (i : ∀ σ H Q, t' σ H Q → t σ H Q) : PA X e t' := ⟨fun pos pins s σ H Q I q => h.run pos pins s σ H Q I (i σ H Q q)⟩
theorem PS.imp {e : Stmt} {t t' : TS} (h : PS X e t) (i : ∀ D σ H, t' D σ H → t D σ H) : PS X e t' := ⟨fun pins s σ H D I q => h.run pins s σ H D I (i D σ H q)⟩
theorem PSs.imp {e : List Stmt} {t t' : TS} (h : PSs X e t) (i : ∀ D σ H, t' D σ H → t D σ H) : PSs X e t' := ⟨fun pins s σ H D I q => h.run pins s σ H D I (i D σ H q)⟩

/-! ### names, constants -/
@[simp] def fVar (i : Nat) : FE := fun env => ofO (env[i]?).join
@[simp] def fC (d : Dv) : FE := fun _ => ret d
theorem d_var (i : Nat) {x : Str} {pos : Pos} (hN : X.N[i]? = some x := by rfl) (hv : Vis X.env.scope x := by first | exact Or.inl rfl | exact Or.inr (Or.inl rfl) | exact Or.inr (Or.inr rfl)) (hd : (x == ("__debug__" : Str)) = false := by decide)
    (hcd : (x == ("__classdict__" : Str)) = false := by decide) : DE X ξ W (.Name x pos) (fVar i) := PE.imp (pe_var (pos := pos) hN hv hd hcd) fun σ H Q ⟨w, env, S, r, eH, s, en, h, p⟩ => by
  subst eH
  unfold fVar ofO at h
  cases q : (env[i]?).join with
  | none => rw [q] at h; cases h
  | some d =>
    rw [q] at h
    cases h
    have q' : env[i]? = some (some d) := by
      cases z : env[i]? with
      | none => rw [z] at q; cases q
      | some o => rw [z] at q; cases o with
        | none => cases q
        | some d' => cases q; rfl
    obtain ⟨v, h1, h2⟩ := en.get i d q'
    exact ⟨v, h1, p.here s h2⟩
theorem d_const {e : Expr} {v : V} {d : Dv} (h : PE X e (tC v)) (hd : ∀ w, Rp (gp X) w v d) : DE X ξ W e (fC d) := PE.imp h fun σ H Q ⟨w, env, S, r, eH, s, en, h, p⟩ => by
  subst eH
  cases h
  exact p.here s (hd w)
theorem d_int {i j pos} : DE X ξ W (.Constant (.int i) j pos) (fC (.int i)) := d_const pe_int fun _ => .int i
theorem d_bl {i j pos} : DE X ξ W (.Constant (.bool i) j pos) (fC (.bl i)) := d_const pe_bl fun _ => .bl i
theorem d_non {j pos} : DE X ξ W (.Constant .none j pos) (fC .non) := d_const pe_non fun _ => .non
theorem d_str {i j pos} : DE X ξ W (.Constant (.str i) j pos) (fC (.str i)) := d_const pe_str fun _ => .str i
/-- a module's constant -/
theorem d_glob {x : Str} {v : V} {u : Value} {d : Dv} {pos : Pos} (hg : Gl X x) (hm : X.mg x = some u) (r : RelV v u) (hr : ∀ w, Rp (gp X) w v d) (hd : (x == ("__debug__" : Str)) = false := by decide) : DE X ξ W (.Name x pos) (fC d) := d_const (pe_glob hg hm r hd) hr

/-! ### operators -/
abbrev DOp := Dv → Dv → Mm Dv
def OpD (G : Gp) (r : R2) (o : DOp) : Prop := ∀ (W : WX) (w : Wd) (σ : L2.St) (S : Store) (x y : V) (dx dy : Dv) (res : Rs Dv) (Q : VK), SOk G w S → Rp G w x dx → Rp G w y dy → o dx dy S = some res → PR G W (Rp G) w σ res Q → r x y w.H Q
@[simp] def fOp (o : DOp) (fa fb : FE) : FE := fun env => bnd (fa env) fun x => bnd (fb env) fun y => o x y
theorem OpD.or {G : Gp} {r r' : R2} {o : DOp} (h : ∀ (W : WX) (w : Wd) (σ : L2.St) (S : Store) (x y : V) (dx dy : Dv) (res : Rs Dv) (Q : VK), SOk G w S → Rp G w x dx → Rp G w y dy → o dx dy S = some res → PR G W (Rp G) w σ res Q → r x y w.H Q ∨ r' x y w.H Q) : OpD G (fun x y H Q => r x y H Q ∨ r' x y H Q) o := h
theorem OpR.or {f : Value → Value → Sem Value} {r r' : R2} (h : OpR X f r) (h' : OpR X f r') : OpR X f (fun x y H Q => r x y H Q ∨ r' x y H Q) := by
  intro pins s σ H x y v u Q I rx ry q
  rcases q with q | q
  · exact h pins s σ H x y v u Q I rx ry q
  · exact h' pins s σ H x y v u Q I rx ry q
theorem op_body {G : Gp} {r : R2} {o : DOp} {fa fb : FE} (hd : OpD G r o) : ∀ σ H Q, tD G ξ W (fOp o fa fb) σ H Q → tOp r (tD G ξ W fa) (tD G ξ W fb) σ H Q := fun σ H Q ⟨w, env, S, res, eH, s, en, h, p⟩ => by
  subst eH
  exact seqR s en h p.px fun x S1 v w1 e1 s1 en1 r1 h1 => seqR s1 en1 h1 (p.px.mono e1 s1) fun y S2 u w2 e2 s2 en2 r2 h2 =>
    hd W w2 σ S2 v u x y res Q s2 (r1.mono e2) r2 h2 (p.mono (e1.thru e2 s1) s2)
theorem d_op {op : Operator} {r : R2} {o : DOp} {a b : Expr} {fa fb : FE} {pos : Pos} (ho : OpR X (binaryOp op) r) (hd : OpD (gp X) r o) (ha : DE X ξ W a fa) (hb : DE X ξ W b fb) : DE X ξ W (.BinOp a op b pos) (fOp o fa fb) :=
  PE.imp (pe_op ho ha hb) (op_body hd)
theorem d_cmp {op : CmpOp} {r : R2} {o : DOp} {a b : Expr} {fa fb : FE} {pos : Pos} (ho : OpR X (compareOp op) r) (hd : OpD (gp X) r o) (ha : DE X ξ W a fa) (hb : DE X ξ W b fb) (hm : behindInMarks op b = false) : DE X ξ W (.Compare a [op] [b] pos) (fOp o fa fb) :=
  PE.imp (pe_cmpR ho ha hb hm) (op_body hd)
/-- a value as a test -/
@[simp] def asB : Dv → Option Bool
  | .bl b => some b
  | _ => none
@[simp] def fTest (fa : FE) : FT := fun env => bnd (fa env) fun x => ofO (asB x)
theorem test_body {G : Gp} {fa : FE} : ∀ σ H Q, tDT G ξ W (fTest fa) σ H Q → tTest (tD G ξ W fa) σ H Q := fun σ H Q ⟨w, env, S, res, eH, s, en, h, p⟩ => by
  subst eH
  refine seqR s en h p.px fun x S1 v w1 e1 s1 en1 r1 h1 => ?_
  cases r1 <;> first | (cases h1; done) | skip
  rename_i b
  cases h1
  exact ⟨b, rfl, p.ok_ e1 s1 (show RB w1 b b from rfl)⟩
theorem t_cmp {op : CmpOp} {r : R2} {o : DOp} {a b : Expr} {fa fb : FE} {pos : Pos} (ho : OpR X (compareOp op) r) (hd : OpD (gp X) r o) (ha : DE X ξ W a fa) (hb : DE X ξ W b fb) (hm : behindInMarks op b = false) : DT X ξ W (.Compare a [op] [b] pos) (fTest (fOp o fa fb)) :=
  PT.imp (pt_cmpR ho ha hb hm) fun σ H Q h => by
    obtain ⟨w, env, S, res, eH, s, en, h, p⟩ := test_body (fa := fOp o fa fb) σ H Q h
    exact op_body hd σ H _ ⟨w, env, S, res, eH, s, en, h, p⟩

/-! ### the operators' values -/
def oI (g : Int → Int → Dv) : DOp := fun x y => match x, y with
  | .int i, .int j => ret (g i j)
  | _, _ => stuck
def oIC (C : Int → Int → Prop) [∀ i j, Decidable (C i j)] (g : Int → Int → Dv) : DOp := fun x y => match x, y with
  | .int i, .int j => if C i j then ret (g i j) else stuck
  | _, _ => stuck
theorem od_I {G : Gp} {g : Int → Int → V} {g' : Int → Int → Dv} (hg : ∀ w i j, Rp G w (g i j) (g' i j)) : OpD G (rI0 g) (oI g') := by
  intro W w σ S x y dx dy res Q s rx ry h p
  cases rx <;> first | (cases h; done) | skip
  cases ry <;> first | (cases h; done) | skip
  rename_i i j
  cases h
  exact ⟨i, j, rfl, rfl, p.here s (hg w i j)⟩
theorem od_IC {G : Gp} {C C' : Int → Int → Prop} [∀ i j, Decidable (C' i j)] {g : Int → Int → V} {g' : Int → Int → Dv} (hc : ∀ i j, C' i j → C i j) (hg : ∀ w i j, Rp G w (g i j) (g' i j)) : OpD G (rI C g) (oIC C' g') := by
  intro W w σ S x y dx dy res Q s rx ry h p
  cases rx <;> first | (cases h; done) | skip
  cases ry <;> first | (cases h; done) | skip
  rename_i i j
  have h' : (if C' i j then ret (g' i j) else stuck) S = some res := h
  by_cases q : C' i j
  · rw [if_pos q] at h'
    cases h'
    exact ⟨i, j, rfl, rfl, hc i j q, p.here s (hg w i j)⟩
  · rw [if_neg q] at h'
    cases h'
end
end FC

set_option Elab.async false
set_option linter.all false
set_option maxRecDepth 100000
namespace FC
open PySem PySem.Spec L2

/-- the largest length that is looked at -/
abbrev big : Nat := 1000000
theorem big_le {n : Nat} (h : n ≤ big) : n ≤ sizeLine := Nat.le_trans h (by decide)
theorem big_lt {n : Nat} (h : n ≤ big) : n < sizeLine := Nat.lt_of_le_of_lt h (by decide)
@[simp] def lim {α : Type} (n : Nat) (a : Mm α) : Mm α := if n ≤ big then a else stuck
theorem lim_some {α : Type} {n : Nat} {a : Mm α} {S : Store} {r : Rs α} (h : lim n a S = some r) : n ≤ big ∧ a S = some r := by
  unfold lim at h
  by_cases q : n ≤ big
  · rw [if_pos q] at h; exact ⟨q, h⟩
  · rw [if_neg q] at h; cases h

section
variable {X : Cx} {ξ : Iv} {W : WX} {G : Gp}
/-! ### + -/
/-- t + u with an empty t: u itself -/
def rCat0 (K : PySem.W.Frag) : R2 := fun x y H Q => ∃ a b ys, x = .ref a ∧ y = .ref b ∧ SqT K H a [] ∧ SqT K H b ys ∧ Q (.ref b) H
theorem op_cat0 : OpR X (binaryOp .Add) (rCat0 X.K) := by
  intro pins s σ H x y v u Q I rx ry h
  obtain ⟨a, b, ys, rfl, rfl, ha, hb, q⟩ := h
  cases rx
  cases ry
  obtain ⟨its, r1, p1, _⟩ := I.tuple ha
  obtain ⟨its2, r2, p2, _⟩ := I.tuple hb
  cases r1
  obtain ⟨⟨cls, dd, data, sl⟩, ho, hc, n, hd⟩ := id p1
  obtain ⟨⟨cls2, dd2, data2, sl2⟩, ho2, hc2, n2, hd2⟩ := id p2
  simp only at hc hd hc2 hd2
  subst hc hd hc2 hd2
  exact PySem.concat_meets ⟨_, ho, rfl⟩ ⟨_, ho2, rfl⟩ PySem.noFill_tuple_add PySem.seq_tuple_add PySem.F.slot_tuple_add PySem.F.entry_tuple_add (PySem.F.args_tuple_add_2 _ _)
      (PyProof.Rows.tuple_addW0 a b #[] its2.toArray n n2 dd dd2 sl sl2 rfl) ⟨ho, ho2, ⟨.ref b, H, I, rfl, q⟩⟩
def rAddS : R2 := fun x y H Q => ∃ i j, x = .str i ∧ y = .str j ∧ i.length + j.length ≤ sizeLine ∧ Q (.str (i ++ j)) H
/-- + of ints, of tuples -/
@[simp] def oAdd : DOp := fun x y => match x, y with
  | .int i, .int j => ret (.int (i + j))
  | .tup xs, .tup ys => lim (xs.length + ys.length) (ret (.tup (xs ++ ys)))
  | _, _ => stuck
def rAddD (K : PySem.W.Frag) : R2 := fun x y H Q => rI0 (fun i j => .int (i + j)) x y H Q ∨ (rCat0 K x y H Q ∨ rCatT K x y H Q)
theorem op_addD : OpR X (binaryOp .Add) (rAddD X.K) := OpR.or op_add (OpR.or op_cat0 op_catT)
theorem od_add : OpD G (rAddD G.K) oAdd := by
  intro W w σ S x y dx dy res Q s rx ry h p
  cases rx <;> first | (cases h; done) | skip
  · rename_i i
    cases ry <;> first | (cases h; done) | skip
    rename_i j
    cases h
    exact .inl ⟨i, j, rfl, rfl, p.here s (.int _)⟩
  · rename_i a xs ds ha ra
    cases ry <;> first | (cases h; done) | skip
    rename_i b ys es hb rb
    have h' : lim (ds.length + es.length) (ret (.tup (ds ++ es))) S = some res := h
    obtain ⟨hl, h'⟩ := lim_some h'
    cases h'
    refine .inr ?_
    cases ra with
    | nil => exact .inl ⟨a, b, ys, rfl, rfl, ha.to, hb.to, p.here s (.tup hb rb)⟩
    | @cons v vs d ds' hv rv =>
      refine .inr ⟨a, b, v :: vs, ys, rfl, rfl, ha.to, hb.to, by simp, ?_, fun e => ?_, fun _ q hq => ?_⟩
      · rw [(RpAll.cons hv rv).length, rb.length]; exact big_le hl
      · subst e
        cases rb
        refine p.here s ?_
        rw [List.append_nil]
        exact .tup ha (.cons hv rv)
      · exact p.ok_ (.put hq) (s.put hq) (Rp.new_tup s hq ((RpAll.cons hv rv).append rb))
theorem d_add {a b : Expr} {fa fb : FE} {pos : Pos} (ha : DE X ξ W a fa) (hb : DE X ξ W b fb) : DE X ξ W (.BinOp a .Add b pos) (fOp oAdd fa fb) := d_op op_addD od_add ha hb
/-! ### other arithmetic -/
def oSub : DOp := oI fun i j => .int (i - j)
theorem d_sub {a b : Expr} {fa fb : FE} {pos : Pos} (ha : DE X ξ W a fa) (hb : DE X ξ W b fb) : DE X ξ W (.BinOp a .Sub b pos) (fOp oSub fa fb) := d_op op_sub (od_I fun _ _ _ => .int _) ha hb
def CM (i j : Int) : Prop := i.natAbs.log2 + j.natAbs.log2 < 1000000
instance (i j : Int) : Decidable (CM i j) := inferInstanceAs (Decidable (_ < _))
def oMul : DOp := oIC CM fun i j => .int (i * j)
theorem d_mul {a b : Expr} {fa fb : FE} {pos : Pos} (ha : DE X ξ W a fa) (hb : DE X ξ W b fb) : DE X ξ W (.BinOp a .Mult b pos) (fOp oMul fa fb) := d_op op_mulW (od_IC (fun _ _ h => h) fun _ _ _ => .int _) ha hb
def CD (_ j : Int) : Prop := 0 < j ∧ j.natAbs.log2 < 9000
instance (i j : Int) : Decidable (CD i j) := inferInstanceAs (Decidable (_ ∧ _))
def oDiv : DOp := oIC CD fun i j => .int (i / j)
theorem d_div {a b : Expr} {fa fb : FE} {pos : Pos} (ha : DE X ξ W a fa) (hb : DE X ξ W b fb) : DE X ξ W (.BinOp a .FloorDiv b pos) (fOp oDiv fa fb) := d_op op_fdivW (od_IC (fun _ _ h => h) fun _ _ _ => .int _) ha hb
def CO (_ j : Int) : Prop := 0 < j
instance (i j : Int) : Decidable (CO i j) := inferInstanceAs (Decidable (_ < _))
def oMod : DOp := oIC CO fun i j => .int (i % j)
theorem d_mod {a b : Expr} {fa fb : FE} {pos : Pos} (ha : DE X ξ W a fa) (hb : DE X ξ W b fb) : DE X ξ W (.BinOp a .Mod b pos) (fOp oMod fa fb) := d_op op_mod (od_IC (fun _ _ h => h) fun _ _ _ => .int _) ha hb
def CPw (i j : Int) : Prop := 0 ≤ j ∧ j ≤ 1000000 ∧ i.natAbs < 2 ^ 64
instance (i j : Int) : Decidable (CPw i j) := inferInstanceAs (Decidable (_ ∧ _ ∧ _))
def oPow : DOp := oIC CPw fun i j => .int (i ^ j.toNat)
theorem d_pow {a b : Expr} {fa fb : FE} {pos : Pos} (ha : DE X ξ W a fa) (hb : DE X ξ W b fb) : DE X ξ W (.BinOp a .Pow b pos) (fOp oPow fa fb) := d_op op_pow (od_IC (fun _ _ h => h) fun _ _ _ => .int _) ha hb
def oShl : DOp := oIC CPw fun i j => .int (i * 2 ^ j.toNat)
theorem d_shl {a b : Expr} {fa fb : FE} {pos : Pos} (ha : DE X ξ W a fa) (hb : DE X ξ W b fb) : DE X ξ W (.BinOp a .LShift b pos) (fOp oShl fa fb) := d_op op_shl (od_IC (fun _ _ h => h) fun _ _ _ => .int _) ha hb
def CN (_ j : Int) : Prop := 0 ≤ j
instance (i j : Int) : Decidable (CN i j) := inferInstanceAs (Decidable (_ ≤ _))
def oShr : DOp := oIC CN fun i j => .int (i / 2 ^ j.toNat)
theorem d_shr {a b : Expr} {fa fb : FE} {pos : Pos} (ha : DE X ξ W a fa) (hb : DE X ξ W b fb) : DE X ξ W (.BinOp a .RShift b pos) (fOp oShr fa fb) := d_op op_shr (od_IC (fun _ _ h => h) fun _ _ _ => .int _) ha hb
def oBAnd : DOp := oI fun i j => .int (Builtin.bitAnd i j)
theorem d_band {a b : Expr} {fa fb : FE} {pos : Pos} (ha : DE X ξ W a fa) (hb : DE X ξ W b fb) : DE X ξ W (.BinOp a .BitAnd b pos) (fOp oBAnd fa fb) := d_op op_and (od_I fun _ _ _ => .int _) ha hb
@[simp] def fUn (o : Dv → Mm Dv) (fa : FE) : FE := fun env => bnd (fa env) o
@[simp] def oNeg : Dv → Mm Dv
  | .int i => ret (.int (-i))
  | _ => stuck
theorem d_neg {a : Expr} {fa : FE} {pos : Pos} (ha : DE X ξ W a fa) : DE X ξ W (.UnaryOp .USub a pos) (fUn oNeg fa) := PE.imp (pe_un un_neg ha) fun σ H Q ⟨w, env, S, res, eH, s, en, h, p⟩ => by
  subst eH
  refine seqR s en h p.px fun x S1 v w1 e1 s1 en1 r1 h1 => ?_
  cases r1 <;> first | (cases h1; done) | skip
  cases h1
  exact ⟨_, rfl, p.ok_ e1 s1 (.int _)⟩

/-! ### comparisons -/
def oLt : DOp := oI fun i j => .bl (decide (i < j))
def oLe : DOp := oI fun i j => .bl (decide (i ≤ j))
def oGt : DOp := oI fun i j => .bl (decide (j < i))
def oGe : DOp := oI fun i j => .bl (decide (j ≤ i))
theorem od_lt : OpD G (rI0 fun i j => .bl (decide (i < j))) oLt := od_I fun _ _ _ => .bl _
theorem od_le : OpD G (rI0 fun i j => .bl (decide (i ≤ j))) oLe := od_I fun _ _ _ => .bl _
theorem od_gt : OpD G (rI0 fun i j => .bl (decide (j < i))) oGt := od_I fun _ _ _ => .bl _
theorem od_ge : OpD G (rI0 fun i j => .bl (decide (j ≤ i))) oGe := od_I fun _ _ _ => .bl _
/-- scalars of one kind, or one of them None -/
def eqS : Dv → Dv → Option Bool
  | .int i, .int j => some (decide (i = j))
  | .bl i, .bl j => some (decide (i = j))
  | .str i, .str j => some (decide (i = j))
  | .non, .non => some true
  | .non, .int _ => some false
  | .int _, .non => some false
  | .non, .bl _ => some false
  | .bl _, .non => some false
  | .non, .str _ => some false
  | .str _, .non => some false
  | _, _ => none
theorem dec_i {i j : Int} : decide (V.int i = V.int j) = decide (i = j) := by
  rw [Bool.eq_iff_iff]; simp
theorem dec_b {i j : Bool} : decide (V.bl i = V.bl j) = decide (i = j) := by
  rw [Bool.eq_iff_iff]; simp
theorem dec_s {i j : Str} : decide (V.str i = V.str j) = decide (i = j) := by
  rw [Bool.eq_iff_iff]; simp
theorem eqS_ok {w : Wd} {x y : V} {dx dy : Dv} {b : Bool} (rx : Rp G w x dx) (ry : Rp G w y dy) (h : eqS dx dy = some b) : scal x y = true ∧ decide (x = y) = b := by
  cases rx <;> first | (cases h; done) | skip
  all_goals (cases ry <;> first | (cases h; done) | skip)
  all_goals cases h
  all_goals (refine ⟨rfl, ?_⟩; first | exact dec_i | exact dec_b | exact dec_s | rfl | skip)
/-! data as a whole -/
mutual
def toPy : Dv → Option PyData
  | .non => some .none
  | .bl b => some (.bool b)
  | .int i => some (.int i)
  | .str x => some (.str x)
  | .tup xs => (toPys xs).map .tuple
  | .lst xs => (toPys xs).map .list
  | _ => none
def toPys : List Dv → Option (List PyData)
  | [] => some []
  | d :: r => match toPy d, toPys r with
    | some p, some q => some (p :: q)
    | _, _ => none
end
mutual
theorem dp_of {w : Wd} : ∀ (d : Dv) (v : V) (p : PyData), Rp G w v d → toPy d = some p → Dp G.K w.H v p
  | .non, v, p, r, h => by cases r; cases h; exact .non
  | .bl b, v, p, r, h => by cases r; cases h; exact .bl b
  | .int i, v, p, r, h => by cases r; cases h; exact .int i
  | .str x, v, p, r, h => by cases r; cases h; exact .str x
  | .tup xs, v, p, r, h => by
    unfold toPy at h
    cases q : toPys xs with
    | none => rw [q] at h; cases h
    | some ps =>
      rw [q] at h
      cases h
      cases r with
      | tup hs ra => exact .tup hs.to (dps_of xs _ ps ra q)
  | .lst xs, v, p, r, h => by
    unfold toPy at h
    cases q : toPys xs with
    | none => rw [q] at h; cases h
    | some ps =>
      rw [q] at h
      cases h
      cases r with
      | lst hs ra => exact .lst hs.to (dps_of xs _ ps ra q)
  | .obj _, _, _, _, h => by cases h
  | .ins _ _, _, _, _, h => by cases h
  | .dic _, _, _, _, h => by cases h
  | .dit _, _, _, _, h => by cases h
theorem dps_of {w : Wd} : ∀ (ds : List Dv) (vs : List V) (ps : List PyData), RpAll G w vs ds → toPys ds = some ps → DpAll G.K w.H vs ps
  | [], vs, ps, r, h => by cases r; cases h; exact .nil
  | d :: ds, vs, ps, r, h => by
    unfold toPys at h
    cases q : toPy d with
    | none => rw [q] at h; cases h
    | some p =>
      cases q2 : toPys ds with
      | none => rw [q, q2] at h; cases h
      | some qs =>
        rw [q, q2] at h
        cases h
        cases r with
        | cons hd ra => exact .cons (dp_of d _ p hd q) (dps_of ds _ qs ra q2)
end
/-- == of data: scalars first, then lists and tuples as a whole -/
def eqD (x y : Dv) : Option Bool := match eqS x y with
  | some b => some b
  | none => match toPy x, toPy y with
    | some p, some q => if SeqAt.shaped p = true ∧ SeqAt.shaped q = true then some (PyData.eqv p q) else none
    | _, _ => none
def oEq : DOp := fun x y => ofO ((eqD x y).map .bl)
def oNe : DOp := fun x y => ofO ((eqD x y).map fun b => .bl (!b))
def rEqA (K : PySem.W.Frag) : R2 := fun x y H Q => rEq x y H Q ∨ rEqD K x y H Q
def rNeA (K : PySem.W.Frag) : R2 := fun x y H Q => rNe x y H Q ∨ rNeD K x y H Q
theorem ofO_some {α : Type} {o : Option α} {S : Store} {r : Rs α} (h : ofO o S = some r) : ∃ a, o = some a ∧ r = .ok a S := by
  unfold ofO at h
  cases o with
  | none => cases h
  | some a => cases h; exact ⟨a, rfl, rfl⟩
theorem eqD_some {x y : Dv} {b : Bool} (h : eqD x y = some b) : eqS x y = some b ∨ ∃ p q, toPy x = some p ∧ toPy y = some q ∧ SeqAt.shaped p = true ∧ SeqAt.shaped q = true ∧ b = PyData.eqv p q := by
  unfold eqD at h
  cases e : eqS x y with
  | some b' => rw [e] at h; cases h; exact .inl rfl
  | none =>
    rw [e] at h
    cases e1 : toPy x with
    | none => rw [e1] at h; cases h
    | some p =>
      cases e2 : toPy y with
      | none => rw [e1, e2] at h; cases h
      | some q =>
        rw [e1, e2] at h
        have h' : (if SeqAt.shaped p = true ∧ SeqAt.shaped q = true then some (PyData.eqv p q) else none) = some b := h
        by_cases z : SeqAt.shaped p = true ∧ SeqAt.shaped q = true
        · rw [if_pos z] at h'
          cases h'
          exact .inr ⟨p, q, rfl, rfl, z.1, z.2, rfl⟩
        · rw [if_neg z] at h'
          cases h'
theorem od_eq : OpD G (rEqA G.K) oEq := by
  intro W w σ S x y dx dy res Q s rx ry h p
  obtain ⟨d, hd, rfl⟩ := ofO_some h
  cases e : eqD dx dy with
  | none => rw [e] at hd; cases hd
  | some b =>
    rw [e] at hd
    cases hd
    rcases eqD_some e with e | ⟨p1, q1, h1, h2, h3, h4, rfl⟩
    · obtain ⟨a1, a2⟩ := eqS_ok rx ry e
      exact .inl ⟨a1, by rw [a2]; exact p.here s (.bl b)⟩
    · exact .inr ⟨p1, q1, dp_of dx x p1 rx h1, dp_of dy y q1 ry h2, h3, h4, p.here s (.bl _)⟩
theorem od_ne : OpD G (rNeA G.K) oNe := by
  intro W w σ S x y dx dy res Q s rx ry h p
  obtain ⟨d, hd, rfl⟩ := ofO_some h
  cases e : eqD dx dy with
  | none => rw [e] at hd; cases hd
  | some b =>
    rw [e] at hd
    cases hd
    rcases eqD_some e with e | ⟨p1, q1, h1, h2, h3, h4, rfl⟩
    · obtain ⟨a1, a2⟩ := eqS_ok rx ry e
      exact .inl ⟨a1, by rw [a2]; exact p.here s (.bl _)⟩
    · exact .inr ⟨p1, q1, dp_of dx x p1 rx h1, dp_of dy y q1 ry h2, h3, h4, p.here s (.bl _)⟩
@[simp] def isNonD : Dv → Bool
  | .non => true
  | _ => false
theorem isNonD_ok {w : Wd} {x : V} {d : Dv} (r : Rp G w x d) : decide (x = V.non) = isNonD d := by
  cases r <;> rfl
@[simp] def oIs : DOp := fun x y => match y with
  | .non => ret (.bl (isNonD x))
  | _ => stuck
@[simp] def oNis : DOp := fun x y => match y with
  | .non => ret (.bl (!isNonD x))
  | _ => stuck
theorem od_is : OpD G (fun x y H Q => y = .non ∧ Q (.bl (decide (x = .non))) H) oIs := by
  intro W w σ S x y dx dy res Q s rx ry h p
  cases ry <;> first | (cases h; done) | skip
  cases h
  exact ⟨rfl, by rw [isNonD_ok rx]; exact p.here s (.bl _)⟩
theorem od_nis : OpD G (fun x y H Q => y = .non ∧ Q (.bl (!decide (x = .non))) H) oNis := by
  intro W w σ S x y dx dy res Q s rx ry h p
  cases ry <;> first | (cases h; done) | skip
  cases h
  exact ⟨rfl, by rw [isNonD_ok rx]; exact p.here s (.bl _)⟩
section
variable {a b : Expr} {fa fb : FE} {pos : Pos}
theorem d_lt (ha : DE X ξ W a fa) (hb : DE X ξ W b fb) : DE X ξ W (.Compare a [.Lt] [b] pos) (fOp oLt fa fb) := d_cmp op_lt od_lt ha hb (nomark _)
theorem d_le (ha : DE X ξ W a fa) (hb : DE X ξ W b fb) : DE X ξ W (.Compare a [.LtE] [b] pos) (fOp oLe fa fb) := d_cmp op_le od_le ha hb (nomark _)
theorem d_gt (ha : DE X ξ W a fa) (hb : DE X ξ W b fb) : DE X ξ W (.Compare a [.Gt] [b] pos) (fOp oGt fa fb) := d_cmp op_gt od_gt ha hb (nomark _)
theorem d_ge (ha : DE X ξ W a fa) (hb : DE X ξ W b fb) : DE X ξ W (.Compare a [.GtE] [b] pos) (fOp oGe fa fb) := d_cmp op_ge od_ge ha hb (nomark _)
theorem d_eq (hu : X.A.units + 64 < cLine) (ha : DE X ξ W a fa) (hb : DE X ξ W b fb) : DE X ξ W (.Compare a [.Eq] [b] pos) (fOp oEq fa fb) := d_cmp (OpR.or op_eq (op_eqD hu)) od_eq ha hb (nomark _)
theorem d_ne (hu : X.A.units + 64 < cLine) (ha : DE X ξ W a fa) (hb : DE X ξ W b fb) : DE X ξ W (.Compare a [.NotEq] [b] pos) (fOp oNe fa fb) := d_cmp (OpR.or op_ne (op_neD hu)) od_ne ha hb (nomark _)
theorem d_is (ha : DE X ξ W a fa) (hb : DE X ξ W b fb) : DE X ξ W (.Compare a [.Is] [b] pos) (fOp oIs fa fb) := d_cmp op_isN od_is ha hb (nomark _)
theorem d_nis (ha : DE X ξ W a fa) (hb : DE X ξ W b fb) : DE X ξ W (.Compare a [.IsNot] [b] pos) (fOp oNis fa fb) := d_cmp op_notN od_nis ha hb (nomark _)
theorem t_lt (ha : DE X ξ W a fa) (hb : DE X ξ W b fb) : DT X ξ W (.Compare a [.Lt] [b] pos) (fTest (fOp oLt fa fb)) := t_cmp op_lt od_lt ha hb (nomark _)
theorem t_le (ha : DE X ξ W a fa) (hb : DE X ξ W b fb) : DT X ξ W (.Compare a [.LtE] [b] pos) (fTest (fOp oLe fa fb)) := t_cmp op_le od_le ha hb (nomark _)
theorem t_gt (ha : DE X ξ W a fa) (hb : DE X ξ W b fb) : DT X ξ W (.Compare a [.Gt] [b] pos) (fTest (fOp oGt fa fb)) := t_cmp op_gt od_gt ha hb (nomark _)
theorem t_ge (ha : DE X ξ W a fa) (hb : DE X ξ W b fb) : DT X ξ W (.Compare a [.GtE] [b] pos) (fTest (fOp oGe fa fb)) := t_cmp op_ge od_ge ha hb (nomark _)
theorem t_eq (hu : X.A.units + 64 < cLine) (ha : DE X ξ W a fa) (hb : DE X ξ W b fb) : DT X ξ W (.Compare a [.Eq] [b] pos) (fTest (fOp oEq fa fb)) := t_cmp (OpR.or op_eq (op_eqD hu)) od_eq ha hb (nomark _)
theorem t_ne (hu : X.A.units + 64 < cLine) (ha : DE X ξ W a fa) (hb : DE X ξ W b fb) : DT X ξ W (.Compare a [.NotEq] [b] pos) (fTest (fOp oNe fa fb)) := t_cmp (OpR.or op_ne (op_neD hu)) od_ne ha hb (nomark _)
theorem t_is (ha : DE X ξ W a fa) (hb : DE X ξ W b fb) : DT X ξ W (.Compare a [.Is] [b] pos) (fTest (fOp oIs fa fb)) := t_cmp op_isN od_is ha hb (nomark _)
theorem t_nis (ha : DE X ξ W a fa) (hb : DE X ξ W b fb) : DT X ξ W (.Compare a [.IsNot] [b] pos) (fTest (fOp oNis fa fb)) := t_cmp op_notN od_nis ha hb (nomark _)
end
end
end FC

set_option Elab.async false
set_option linter.all false
set_option maxRecDepth 100000
namespace FC
open PySem PySem.Spec L2

section
variable {X : Cx} {ξ : Iv} {W : WX} {G : Gp}
/-! ### truth -/
@[simp] def tru (d : Dv) : Mm Bool := fun S => match d with
  | .non => some (.ok false S)
  | .bl b => some (.ok b S)
  | .int i => some (.ok (i != 0) S)
  | .str x => if x.length ≤ big then some (.ok ((x.length : Int) != 0) S) else none
  | .tup xs => some (.ok (!xs.isEmpty) S)
  | .lst xs => some (.ok (!xs.isEmpty) S)
  | .obj n => match S[n]? with
    | some (.lst xs) => some (.ok (!xs.isEmpty) S)
    | some (.dic xs) => some (.ok (!xs.isEmpty) S)
    | _ => none
  | _ => none
theorem isE_all {w : Wd} {vs : List V} {ds : List Dv} (r : RpAll G w vs ds) : vs.isEmpty = ds.isEmpty := by
  cases r <;> rfl
theorem isE_map {κ : Type} {w : Wd} {vs : List (κ × V)} {ds : List (κ × Dv)} (r : RpAll G w (vs.map Prod.snd) (ds.map Prod.snd)) : vs.isEmpty = ds.isEmpty := by
  cases vs <;> cases ds <;> first | rfl | cases r
theorem Rp.obj_at {w : Wd} {S : Store} {n : Nat} {a : Addr} {d : Dv} (s : SOk G w S) (h : w.as[n]? = some a) (hd : S[n]? = some d) : MOk G w a d := s.cont n a d h hd
theorem tru_ok' {w : Wd} {S : Store} {x : V} {d : Dv} {b : Bool} {S' : Store} (s : SOk G w S) (r : Rp G w x d) (h : tru d S = some (.ok b S')) : S' = S ∧ TruV G.K x w.H b := by
  cases r with
  | non => cases h; exact ⟨rfl, rfl⟩
  | bl b' => cases h; exact ⟨rfl, rfl⟩
  | int i => cases h; exact ⟨rfl, rfl⟩
  | str z =>
    have h' : (if z.length ≤ big then some (Rs.ok ((z.length : Int) != 0) S) else none) = some (Rs.ok b S') := h
    by_cases q : z.length ≤ big
    · rw [if_pos q] at h'; cases h'; exact ⟨rfl, big_le q, rfl⟩
    · rw [if_neg q] at h'; cases h'
  | tup ha ra => cases h; exact ⟨rfl, .inr (.inl ⟨_, ha.to, by rw [isE_all ra]⟩)⟩
  | lst ha ra => cases h; exact ⟨rfl, .inl ⟨_, ha.to, by rw [isE_all ra]⟩⟩
  | dic _ _ _ _ => cases h
  | @obj a n ha =>
    dsimp only [tru] at h
    cases e : S[n]? with
    | none => rw [e] at h; cases h
    | some d =>
      rw [e] at h
      have m := s.cont n a d ha e
      cases d <;> first | (cases h; done) | skip
      · obtain ⟨xs, h1, h2⟩ := m
        cases h
        exact ⟨rfl, .inl ⟨_, SqL.of h1, by rw [isE_all h2]⟩⟩
      · obtain ⟨xs, h1, _, h2⟩ := m
        cases h
        exact ⟨rfl, .inr (.inr ⟨_, h1, by rw [isE_map h2]⟩)⟩
  | dit _ _ _ _ => cases h
  | ins _ _ _ _ => cases h
  | cls _ => cases h
theorem tru_exc {d : Dv} {S S' : Store} {c : Str} {fs : List (Str × Dv)} (h : tru d S = some (.exc c fs S')) : False := by
  unfold tru at h
  split at h <;> first | (cases h; done) | skip
  · split at h <;> cases h
  · split at h <;> cases h
@[simp] def fTru (fa : FE) : FT := fun env => bnd (fa env) tru
theorem t_tru {a : Expr} {fa : FE} (ha : DE X ξ W a fa) (he : ∀ whole, isTrue a X.env whole = (do let v ← whole; standAt a.pos; holding [v] (truthy v)) := by intro _; rfl) : DT X ξ W a (fTru fa) :=
  PT.imp (pt_truth ha he) fun σ H Q ⟨w, env, S, res, eH, s, en, h, p⟩ => by
    subst eH
    refine seqR s en h p.px fun x S1 v w1 e1 s1 en1 r1 h1 => ?_
    cases res with
    | exc c fs S' => exact (tru_exc h1).elim
    | ok b S' =>
      obtain ⟨rfl, t⟩ := tru_ok' s1 r1 h1
      exact ⟨b, t, p.ok_ e1 s1 rfl⟩
/-! ### and, or, not -/
@[simp] def fAnd (fa fb : FT) : FT := fun env => bnd (fa env) fun c => if c = true then fb env else ret false
@[simp] def fOr (fa fb : FT) : FT := fun env => bnd (fa env) fun c => if c = true then ret true else fb env
@[simp] def fNot (fa : FT) : FT := fun env => bnd (fa env) fun c => ret (!c)
section
variable {a b : Expr} {rest : List Expr} {fa fb : FT} {pos : Pos}
theorem w_and1 (ha : DT X ξ W a fa) : DW X ξ W (.BoolOp .And [a] pos) fa := pw_and1 ha
theorem w_or1 (ha : DT X ξ W a fa) : DW X ξ W (.BoolOp .Or [a] pos) fa := pw_or1 ha
theorem t_of (h : DW X ξ W a fa) : DT X ξ W a fa := PW.pt h
theorem w_and (ha : DT X ξ W a fa) (hb : DW X ξ W (.BoolOp .And (b :: rest) pos) fb) : DW X ξ W (.BoolOp .And (a :: b :: rest) pos) (fAnd fa fb) :=
  PW.imp (pw_and ha hb) fun σ H Q ⟨w, env, S, res, eH, s, en, h, p⟩ => by
    subst eH
    refine seqR s en h p.px fun x S1 v w1 e1 s1 en1 r1 h1 => ?_
    cases (show v = x from r1)
    cases x with
    | true => exact ⟨w1, env, S1, res, rfl, s1, en1, h1, p.mono e1 s1⟩
    | false =>
      cases h1
      exact p.ok_ e1 s1 rfl
theorem w_or (ha : DT X ξ W a fa) (hb : DW X ξ W (.BoolOp .Or (b :: rest) pos) fb) : DW X ξ W (.BoolOp .Or (a :: b :: rest) pos) (fOr fa fb) :=
  PW.imp (pw_or ha hb) fun σ H Q ⟨w, env, S, res, eH, s, en, h, p⟩ => by
    subst eH
    refine seqR s en h p.px fun x S1 v w1 e1 s1 en1 r1 h1 => ?_
    cases (show v = x from r1)
    cases x with
    | false => exact ⟨w1, env, S1, res, rfl, s1, en1, h1, p.mono e1 s1⟩
    | true =>
      cases h1
      exact p.ok_ e1 s1 rfl
theorem t_not (ha : DT X ξ W a fa) : DT X ξ W (.UnaryOp .Not a pos) (fNot fa) :=
  PT.imp (pt_not ha) fun σ H Q ⟨w, env, S, res, eH, s, en, h, p⟩ => by
    subst eH
    refine seqR s en h p.px fun x S1 v w1 e1 s1 en1 r1 h1 => ?_
    cases (show v = x from r1)
    cases h1
    exact p.ok_ e1 s1 rfl
end
/-- as values, all but the last bools -/
@[simp] def fAndV (fa fb : FE) : FE := fun env => bnd (fa env) fun x => bnd (ofO (asB x)) fun c => if c = true then fb env else ret (.bl false)
@[simp] def fOrV (fa fb : FE) : FE := fun env => bnd (fa env) fun x => bnd (ofO (asB x)) fun c => if c = true then ret (.bl true) else fb env
@[simp] def fNotV (fa : FE) : FE := fun env => bnd (fa env) fun x => bnd (ofO (asB x)) fun c => ret (.bl (!c))
@[simp] def fIfE (ft : FT) (fa fb : FE) : FE := fun env => bnd (ft env) fun c => if c = true then fa env else fb env
theorem asB_bnd {α : Type} {w : Wd} {v : V} {d : Dv} {k : Bool → Mm α} {S : Store} {r : Rs α} (rv : Rp G w v d) (h : bnd (ofO (asB d)) k S = some r) : ∃ c, v = .bl c ∧ k c S = some r := by
  cases rv <;> first | (cases h; done) | skip
  rename_i b
  exact ⟨b, rfl, h⟩
section
variable {a b c : Expr} {rest : List Expr} {fa fb : FE} {ft : FT} {pos : Pos}
theorem d_one {op} (h : DE X ξ W a fa) : DE X ξ W (.BoolOp op [a] pos) fa := pe_one h
theorem d_and (ha : DE X ξ W a fa) (hb : DE X ξ W (.BoolOp .And (b :: rest) pos) fb) : DE X ξ W (.BoolOp .And (a :: b :: rest) pos) (fAndV fa fb) :=
  PE.imp (pe_and ha hb) fun σ H Q ⟨w, env, S, res, eH, s, en, h, p⟩ => by
    subst eH
    refine seqR s en h p.px fun x S1 v w1 e1 s1 en1 r1 h1 => ?_
    obtain ⟨k, rfl, h2⟩ := asB_bnd r1 h1
    refine ⟨k, rfl, ?_⟩
    cases k with
    | true => exact ⟨w1, env, S1, res, rfl, s1, en1, h2, p.mono e1 s1⟩
    | false =>
      cases h2
      exact p.ok_ e1 s1 (.bl false)
theorem d_or (ha : DE X ξ W a fa) (hb : DE X ξ W (.BoolOp .Or (b :: rest) pos) fb) : DE X ξ W (.BoolOp .Or (a :: b :: rest) pos) (fOrV fa fb) :=
  PE.imp (pe_or ha hb) fun σ H Q ⟨w, env, S, res, eH, s, en, h, p⟩ => by
    subst eH
    refine seqR s en h p.px fun x S1 v w1 e1 s1 en1 r1 h1 => ?_
    obtain ⟨k, rfl, h2⟩ := asB_bnd r1 h1
    refine ⟨k, rfl, ?_⟩
    cases k with
    | false => exact ⟨w1, env, S1, res, rfl, s1, en1, h2, p.mono e1 s1⟩
    | true =>
      cases h2
      exact p.ok_ e1 s1 (.bl true)
theorem d_not (ha : DE X ξ W a fa) : DE X ξ W (.UnaryOp .Not a pos) (fNotV fa) :=
  PE.imp (pe_not ha) fun σ H Q ⟨w, env, S, res, eH, s, en, h, p⟩ => by
    subst eH
    refine seqR s en h p.px fun x S1 v w1 e1 s1 en1 r1 h1 => ?_
    obtain ⟨k, rfl, h2⟩ := asB_bnd r1 h1
    cases h2
    exact ⟨k, rfl, p.ok_ e1 s1 (.bl _)⟩
theorem d_if (hc : DT X ξ W c ft) (ha : DE X ξ W a fa) (hb : DE X ξ W b fb) : DE X ξ W (.IfExp c a b pos) (fIfE ft fa fb) :=
  PE.imp (pe_ifExp hc ha hb) fun σ H Q ⟨w, env, S, res, eH, s, en, h, p⟩ => by
    subst eH
    refine seqR s en h p.px fun x S1 v w1 e1 s1 en1 r1 h1 => ?_
    cases (show v = x from r1)
    cases x with
    | true => exact ⟨w1, env, S1, res, rfl, s1, en1, h1, p.mono e1 s1⟩
    | false => exact ⟨w1, env, S1, res, rfl, s1, en1, h1, p.mono e1 s1⟩
end
/-- a bool's value as a test -/
theorem t_val {a : Expr} {fa : FE} (ha : DE X ξ W a fa) (he : ∀ whole, isTrue a X.env whole = (do let v ← whole; standAt a.pos; holding [v] (truthy v)) := by intro _; rfl) : DT X ξ W a (fTest fa) :=
  PT.imp (pt_val ha he) (test_body (fa := fa))

/-! ### arguments, calls of built-in functions -/
@[simp] def fNil : FA := fun _ => ret []
@[simp] def fCons (fa : FE) (fr : FA) : FA := fun env => bnd (fa env) fun x => bnd (fr env) fun xs => ret (x :: xs)
theorem a_nil : DA X ξ W [] fNil := PA.imp pa_nil fun σ H Q ⟨w, env, S, res, eH, s, en, h, p⟩ => by
  subst eH
  cases h
  exact p.here s .nil
theorem a_cons {e : Expr} {es : List Expr} {fa : FE} {fr : FA} (ha : DE X ξ W e fa) (hr : DA X ξ W es fr) (hs : starEach (e :: es) X.env = (false, eval e X.env) :: starEach es X.env := by rfl) : DA X ξ W (e :: es) (fCons fa fr) :=
  PA.imp (pa_cons ha hr hs) fun σ H Q ⟨w, env, S, res, eH, s, en, h, p⟩ => by
    subst eH
    refine seqR s en h p.px fun x S1 v w1 e1 s1 en1 r1 h1 => seqR s1 en1 h1 (p.px.mono e1 s1) fun xs S2 vs w2 e2 s2 en2 r2 h2 => ?_
    cases h2
    exact p.ok_ (e1.trans e2) s2 (.cons (r1.mono e2) r2)
abbrev DCl := List Dv → Mm Dv
def CallD (G : Gp) (r : List V → Hp → VK → Prop) (o : DCl) : Prop := ∀ (W : WX) (w : Wd) (σ : L2.St) (S : Store) (xs : List V) (ds : List Dv) (res : Rs Dv) (Q : VK), SOk G w S → RpAll G w xs ds → o ds S = some res → PR G W (Rp G) w σ res Q → r xs w.H Q
@[simp] def fCall (o : DCl) (fa : FA) : FE := fun env => bnd (fa env) o
theorem call_body {r : List V → Hp → VK → Prop} {o : DCl} {fa : FA} (hd : CallD G r o) : ∀ σ H Q, tD G ξ W (fCall o fa) σ H Q → tCB r (tDA G ξ W fa) σ H Q := fun σ H Q ⟨w, env, S, res, eH, s, en, h, p⟩ => by
  subst eH
  exact seqR s en h p.px fun x S1 v w1 e1 s1 en1 r1 h1 => hd W w1 σ S1 v x res Q s1 r1 h1 (p.mono e1 s1)
section
variable {x : Str} {p pos : Pos} {e : Expr} {es : List Expr} {fa : FA} {id T : String} {r : List V → Hp → VK → Prop} {o : DCl}
theorem d_callB (hc : CallR X (.builtin id) r) (hd : CallD (gp X) r o) (hm : X.mg x = none) (hv : bootBuiltins x = some (.builtin id)) (ha : DA X ξ W (e :: es) fa) (hg : Gl X x := by rfl) (hn : x ≠ "__name__" := by decide) (hdb : (x == ("__debug__" : Str)) = false := by decide)
    (he : starEach (e :: es) X.env = (false, eval e X.env) :: starEach es X.env := by rfl) (hpl : (backTo pos (starEach es X.env)).any (·.1) = false := by rfl) : DE X ξ W (.Call (.Name x p) (e :: es) [] pos) (fCall o fa) :=
  PE.imp (pe_callB hc hg hm hv ha hn hdb he hpl) (call_body hd)
theorem d_callTy (hc : CallR X (.type T) r) (hd : CallD (gp X) r o) (hm : X.mg x = none) (hv : bootBuiltins x = some (.type T)) (ha : DA X ξ W (e :: es) fa) (hg : Gl X x := by rfl) (hn : x ≠ "__name__" := by decide) (hdb : (x == ("__debug__" : Str)) = false := by decide)
    (he : starEach (e :: es) X.env = (false, eval e X.env) :: starEach es X.env := by rfl) (hpl : (backTo pos (starEach es X.env)).any (·.1) = false := by rfl) : DE X ξ W (.Call (.Name x p) (e :: es) [] pos) (fCall o fa) :=
  PE.imp (pe_callTy hc hg hm hv ha hn hdb he hpl) (call_body hd)
end
/-! what the built-in functions answer -/
/-- a list or tuple, also a named list -/
@[simp] def seqOf (d : Dv) (S : Store) : Option (List Dv) := match d with
  | .tup xs => some xs
  | .lst xs => some xs
  | .obj n => match S[n]? with
    | some (.lst xs) => some xs
    | _ => none
  | _ => none
theorem seqOf_ok {w : Wd} {S : Store} {v : V} {d : Dv} {ds : List Dv} (s : SOk G w S) (r : Rp G w v d) (h : seqOf d S = some ds) : ∃ a xs, v = .ref a ∧ (SqL G.K w.H a xs ∨ SqT G.K w.H a xs) ∧ RpAll G w xs ds := by
  cases r <;> first | (cases h; done) | skip
  · rename_i ha ra; cases h; exact ⟨_, _, rfl, .inr ha.to, ra⟩
  · rename_i ha ra; cases h; exact ⟨_, _, rfl, .inl ha.to, ra⟩
  · rename_i a n ha
    dsimp only [seqOf] at h
    cases e : S[n]? with
    | none => rw [e] at h; cases h
    | some d =>
      rw [e] at h
      have m := s.cont n a d ha e
      cases d <;> first | (cases h; done) | skip
      obtain ⟨xs, h1, h2⟩ := m
      cases h
      exact ⟨a, xs, rfl, .inl (SqL.of h1), h2⟩
@[simp] def oLen : DCl := fun ds S => match ds with
  | [d] => match seqOf d S with
    | some xs => some (.ok (.int xs.length) S)
    | none => none
  | _ => none
theorem cd_len : CallD G (fun xs H Q => ∃ p ys, xs = [.ref p] ∧ (SqL G.K H p ys ∨ SqT G.K H p ys) ∧ Q (.int ys.length) H) oLen := by
  intro W w σ S xs ds res Q s r h p
  cases r with
  | nil => cases h
  | cons h1 r1 =>
    cases r1 with
    | cons _ _ => cases h
    | nil =>
      rename_i v d
      have h' : (match seqOf d S with | some xs => some (Rs.ok (Dv.int xs.length) S) | none => none) = some res := h
      cases e : seqOf d S with
      | none => rw [e] at h'; cases h'
      | some ys =>
        rw [e] at h'
        cases h'
        obtain ⟨a, zs, rfl, hs, hr⟩ := seqOf_ok s h1 e
        exact ⟨a, zs, rfl, hs, by rw [hr.length]; exact p.here s (.int _)⟩
def oAbs : DCl := fun ds => match ds with
  | [.int i] => ret (.int (if i < 0 then -i else i))
  | _ => stuck
theorem rp1 {w : Wd} {xs : List V} {d : Dv} (r : RpAll G w xs [d]) : ∃ v, xs = [v] ∧ Rp G w v d := by
  cases r with
  | cons h1 r1 => cases r1; exact ⟨_, rfl, h1⟩
theorem rp2 {w : Wd} {xs : List V} {d e : Dv} (r : RpAll G w xs [d, e]) : ∃ v u, xs = [v, u] ∧ Rp G w v d ∧ Rp G w u e := by
  cases r with
  | cons h1 r1 =>
    obtain ⟨u, rfl, h2⟩ := rp1 r1
    exact ⟨_, _, rfl, h1, h2⟩
theorem cd_abs : CallD G (fun xs H Q => ∃ i, xs = [.int i] ∧ Q (.int (if i < 0 then -i else i)) H) oAbs := by
  intro W w σ S xs ds res Q s r h p
  unfold oAbs at h
  split at h
  · obtain ⟨v, rfl, h1⟩ := rp1 r
    cases h1
    cases h
    exact ⟨_, rfl, p.here s (.int _)⟩
  · cases h
def oInt1 : DCl := fun ds => match ds with
  | [.int i] => ret (.int i)
  | [.bl k] => ret (.int (if k then 1 else 0))
  | _ => stuck
theorem cd_int1 : CallD G (fun xs H Q => (∃ i, xs = [.int i] ∧ Q (.int i) H) ∨ ∃ k, xs = [.bl k] ∧ Q (.int (if k then 1 else 0)) H) oInt1 := by
  intro W w σ S xs ds res Q s r h p
  unfold oInt1 at h
  split at h
  · obtain ⟨v, rfl, h1⟩ := rp1 r
    cases h1
    cases h
    exact .inl ⟨_, rfl, p.here s (.int _)⟩
  · obtain ⟨v, rfl, h1⟩ := rp1 r
    cases h1
    cases h
    exact .inr ⟨_, rfl, p.here s (.int _)⟩
  · cases h
def oMin2 : DCl := fun ds => match ds with
  | [.int i, .int j] => ret (.int (if j < i then j else i))
  | _ => stuck
def oMax2 : DCl := fun ds => match ds with
  | [.int i, .int j] => ret (.int (if j > i then j else i))
  | _ => stuck
theorem cd_min2 : CallD G (fun xs H Q => ∃ i j, xs = [.int i, .int j] ∧ Q (.int (if j < i then j else i)) H) oMin2 := by
  intro W w σ S xs ds res Q s r h p
  unfold oMin2 at h
  split at h
  · obtain ⟨v, u, rfl, h1, h2⟩ := rp2 r
    cases h1; cases h2
    cases h
    exact ⟨_, _, rfl, p.here s (.int _)⟩
  · cases h
theorem cd_max2 : CallD G (fun xs H Q => ∃ i j, xs = [.int i, .int j] ∧ Q (.int (if j > i then j else i)) H) oMax2 := by
  intro W w σ S xs ds res Q s r h p
  unfold oMax2 at h
  split at h
  · obtain ⟨v, u, rfl, h1, h2⟩ := rp2 r
    cases h1; cases h2
    cases h
    exact ⟨_, _, rfl, p.here s (.int _)⟩
  · cases h
/-- the ints, the bools of a list of data -/
def asInts : List Dv → Option (List Int)
  | [] => some []
  | .int i :: r => (asInts r).map (i :: ·)
  | _ :: _ => none
def asBls : List Dv → Option (List Bool)
  | [] => some []
  | .bl i :: r => (asBls r).map (i :: ·)
  | _ :: _ => none
theorem asInts_eq : ∀ {ds : List Dv} {ns : List Int}, asInts ds = some ns → ds = ns.map Dv.int
  | [], ns, h => by cases h; rfl
  | .int i :: r, ns, h => by
    unfold asInts at h
    cases e : asInts r with
    | none => rw [e] at h; cases h
    | some ms =>
      rw [e] at h
      cases h
      rw [asInts_eq e]
      rfl
  | .non :: _, _, h => by cases h
  | .bl _ :: _, _, h => by cases h
  | .str _ :: _, _, h => by cases h
  | .tup _ :: _, _, h => by cases h
  | .lst _ :: _, _, h => by cases h
  | .obj _ :: _, _, h => by cases h
  | .ins _ _ :: _, _, h => by cases h
  | .dic _ :: _, _, h => by cases h
  | .dit _ :: _, _, h => by cases h
theorem asInts_map : ∀ ns : List Int, asInts (ns.map Dv.int) = some ns
  | [] => rfl
  | n :: ns => by
    show (asInts (ns.map Dv.int)).map (n :: ·) = _
    rw [asInts_map ns]
    rfl
theorem asBls_eq : ∀ {ds : List Dv} {ns : List Bool}, asBls ds = some ns → ds = ns.map Dv.bl
  | [], ns, h => by cases h; rfl
  | .bl i :: r, ns, h => by
    unfold asBls at h
    cases e : asBls r with
    | none => rw [e] at h; cases h
    | some ms =>
      rw [e] at h
      cases h
      rw [asBls_eq e]
      rfl
  | .non :: _, _, h => by cases h
  | .int _ :: _, _, h => by cases h
  | .str _ :: _, _, h => by cases h
  | .tup _ :: _, _, h => by cases h
  | .lst _ :: _, _, h => by cases h
  | .obj _ :: _, _, h => by cases h
  | .ins _ _ :: _, _, h => by cases h
  | .dic _ :: _, _, h => by cases h
  | .dit _ :: _, _, h => by cases h
theorem asBls_map : ∀ ns : List Bool, asBls (ns.map Dv.bl) = some ns
  | [] => rfl
  | n :: ns => by
    show (asBls (ns.map Dv.bl)).map (n :: ·) = _
    rw [asBls_map ns]
    rfl
/-- sum of a list or a tuple of ints -/
def rSumT (K : PySem.W.Frag) : List V → Hp → VK → Prop := fun vs H Q => ∃ (a : Addr) (ns : List Int), vs = [V.ref a] ∧ SqT K H a (ns.map V.int) ∧ Q (.int ns.sum) H
theorem cr_sumT (hc : X.calm = true) : CallR X (.builtin "sum") (rSumT X.K) := by
  intro pins s σ H vs us Q I r h
  obtain ⟨a, ns, rfl, hs, q⟩ := h
  obtain ⟨its, rv, hl, _⟩ := I.tuple hs
  have eu : us = [Value.ref a] := by
    cases r with
    | cons r t => cases t; cases r; rfl
  rw [eu]
  have hi : PyProof.Rows.IntsAre its ns := intsAre_of rv
  obtain ⟨xs, e⟩ := hi.allInts.items
  have hn : numsOf (intItems xs).toList = ns := by rw [← e]; exact hi.numsOf
  rw [nums_intItems] at hn
  have hl' : s.heap.IsTuple a its.toArray := hl
  rw [e] at hl'
  refine PySem.W.ktm_sumG (I.ok.hd hc) hl' fun h' tk t' hk => ?_
  rw [PySem.preSum_eq, List.take_of_length_le (by simp), hn]
  exact ⟨.int ns.sum, H, I.kept (t' := tk) hk, ⟨_, rfl⟩, q⟩
end
end FC

set_option Elab.async false
set_option linter.all false
set_option maxRecDepth 100000
namespace FC
open PySem PySem.Spec L2

section
variable {X : Cx} {ξ : Iv} {W : WX} {G : Gp}
theorem CallR.or {f : Value} {r r' : List V → Hp → VK → Prop} (h : CallR X f r) (h' : CallR X f r') : CallR X f (fun xs H Q => r xs H Q ∨ r' xs H Q) := by
  intro pins s σ H xs us Q I rv q
  rcases q with q | q
  · exact h pins s σ H xs us Q I rv q
  · exact h' pins s σ H xs us Q I rv q
/-- one list or tuple as the only argument -/
@[simp] def oSeq (k : List Dv → Mm Dv) : DCl := fun ds S => match ds with
  | [d] => match seqOf d S with
    | some xs => k xs S
    | none => none
  | _ => none
theorem oSeq_some {k : List Dv → Mm Dv} {ds : List Dv} {S : Store} {r : Rs Dv} (h : oSeq k ds S = some r) : ∃ d xs, ds = [d] ∧ seqOf d S = some xs ∧ k xs S = some r := by
  unfold oSeq at h
  split at h
  · rename_i d
    cases e : seqOf d S with
    | none => rw [e] at h; cases h
    | some xs => rw [e] at h; exact ⟨d, xs, rfl, e, h⟩
  · cases h
def oSum : DCl := oSeq fun xs => bnd (ofO (asInts xs)) fun ns => ret (.int ns.sum)
def oAll : DCl := oSeq fun xs => bnd (ofO (asBls xs)) fun ns => ret (.bl (ns.all id))
def oAny : DCl := oSeq fun xs => bnd (ofO (asBls xs)) fun ns => ret (.bl (ns.any id))
theorem bnd_ofO {α β : Type} {o : Option α} {k : α → Mm β} {S : Store} {r : Rs β} (h : bnd (ofO o) k S = some r) : ∃ a, o = some a ∧ k a S = some r := by
  cases o with
  | none => cases h
  | some a => exact ⟨a, rfl, h⟩
theorem cd_sum : CallD G (fun xs H Q => rSum G.K xs H Q ∨ rSumT G.K xs H Q) oSum := by
  intro W w σ S xs ds res Q s r h p
  obtain ⟨d, ys, rfl, hs, hk⟩ := oSeq_some h
  obtain ⟨ns, hn, hk⟩ := bnd_ofO hk
  cases hk
  obtain ⟨v, rfl, h1⟩ := rp1 r
  obtain ⟨a, zs, rfl, hz, hr⟩ := seqOf_ok s h1 hs
  rw [asInts_eq hn] at hr
  rw [hr.ints] at hz
  rcases hz with hz | hz
  · exact .inl ⟨a, ns, rfl, hz, p.here s (.int _)⟩
  · exact .inr ⟨a, ns, rfl, hz, p.here s (.int _)⟩
/-- all and any of a list alone -/
@[simp] def oSeqL (k : List Dv → Mm Dv) : DCl := fun ds S => match ds with
  | [.lst xs] => k xs S
  | [.obj n] => match S[n]? with
    | some (.lst xs) => k xs S
    | _ => none
  | _ => none
theorem oSeqL_some {w : Wd} {vs : List V} {k : List Dv → Mm Dv} {ds : List Dv} {S : Store} {r : Rs Dv} (s : SOk G w S) (rv : RpAll G w vs ds) (h : oSeqL k ds S = some r) : ∃ a xs ys, vs = [.ref a] ∧ SqL G.K w.H a ys ∧ RpAll G w ys xs ∧ k xs S = some r := by
  unfold oSeqL at h
  split at h
  · obtain ⟨v, rfl, h1⟩ := rp1 rv
    cases h1 with
    | lst ha ra => exact ⟨_, _, _, rfl, ha.to, ra, h⟩
  · rename_i n
    obtain ⟨v, rfl, h1⟩ := rp1 rv
    cases h1 with
    | obj ha =>
      split at h
      · rename_i xs e
        obtain ⟨ys, h1, h2⟩ := s.cont n _ _ ha e
        exact ⟨_, _, _, rfl, SqL.of h1, h2, h⟩
      · cases h
  · cases h
def oAllL : DCl := oSeqL fun xs => bnd (ofO (asBls xs)) fun ns => ret (.bl (ns.all id))
def oAnyL : DCl := oSeqL fun xs => bnd (ofO (asBls xs)) fun ns => ret (.bl (ns.any id))
theorem cd_all : CallD G (rAll G.K) oAllL := by
  intro W w σ S xs ds res Q s r h p
  obtain ⟨a, ys, zs, rfl, hz, hr, hk⟩ := oSeqL_some s r h
  obtain ⟨ns, hn, hk⟩ := bnd_ofO hk
  cases hk
  rw [asBls_eq hn] at hr
  rw [hr.bls] at hz
  exact ⟨a, ns, rfl, hz, p.here s (.bl _)⟩
theorem cd_any : CallD G (rAny G.K) oAnyL := by
  intro W w σ S xs ds res Q s r h p
  obtain ⟨a, ys, zs, rfl, hz, hr, hk⟩ := oSeqL_some s r h
  obtain ⟨ns, hn, hk⟩ := bnd_ofO hk
  cases hk
  rw [asBls_eq hn] at hr
  rw [hr.bls] at hz
  exact ⟨a, ns, rfl, hz, p.here s (.bl _)⟩
/-! ### tuple(..), list(..), displays -/
def oTuple : DCl := oSeq fun xs => ret (.tup xs)
theorem cd_tuple : CallD G (fun xs H Q => ∃ p ys, xs = [.ref p] ∧ ((SqL G.K H p ys ∧ ∀ l, H l = none → Q (.ref l) (upd H l (.tup ys))) ∨ (SqT G.K H p ys ∧ Q (.ref p) H))) oTuple := by
  intro W w σ S xs ds res Q s r h p
  obtain ⟨d, ys, rfl, hs, hk⟩ := oSeq_some h
  cases hk
  obtain ⟨v, rfl, h1⟩ := rp1 r
  cases h1 with
  | tup ha ra =>
    cases hs
    exact ⟨_, _, rfl, .inr ⟨ha.to, p.here s (.tup ha ra)⟩⟩
  | lst ha ra =>
    cases hs
    exact ⟨_, _, rfl, .inl ⟨ha.to, fun l hl => p.ok_ (.put hl) (s.put hl) (Rp.new_tup s hl ra)⟩⟩
  | obj ha =>
    obtain ⟨a, zs, e, hz, hr⟩ := seqOf_ok s (.obj ha) hs
    cases e
    rcases hz with hz | hz
    · exact ⟨_, _, rfl, .inl ⟨hz, fun l hl => p.ok_ (.put hl) (s.put hl) (Rp.new_tup s hl hr)⟩⟩
    · dsimp only [seqOf] at hs
      split at hs
      · rename_i xs e
        cases hs
        obtain ⟨us, h1, h2⟩ := s.cont _ _ _ ha e
        exact ⟨_, _, rfl, .inl ⟨SqL.of h1, fun l hl => p.ok_ (.put hl) (s.put hl) (Rp.new_tup s hl h2)⟩⟩
      · cases hs
  | _ => cases hs
/-- a new list that is never changed; one that has a name -/
@[simp] def newF (xs : List Dv) : Mm Dv := ret (.lst xs)
@[simp] def newM (xs : List Dv) : Mm Dv := fun S => some (.ok (.obj S.length) (S ++ [.lst xs]))
@[simp] def newL (m : Bool) (xs : List Dv) : Mm Dv := if m then newM xs else newF xs
theorem new_lst {w : Wd} {σ : L2.St} {S : Store} {m : Bool} {xs : List V} {ds : List Dv} {res : Rs Dv} {Q : VK} (s : SOk G w S) (r : RpAll G w xs ds) (h : newL m ds S = some res) (p : PR G W (Rp G) w σ res Q) : ∀ l, w.H l = none → Q (.ref l) (upd w.H l (.lst xs)) := fun l hl => by
  cases m with
  | false =>
    cases h
    exact p.ok_ (.put hl) (s.put hl) (Rp.new_lst s hl r)
  | true =>
    cases h
    exact p.ok_ (w' := w.add l (.lst xs)) (.add hl) (s.add hl ⟨xs, upd_same, r.mono (.add hl)⟩) (Rp.add_obj s)
@[simp] def oList (m : Bool) : DCl := oSeq (newL m)
theorem cd_list (m : Bool) : CallD G (fun xs H Q => ∃ p ys, xs = [.ref p] ∧ (SqL G.K H p ys ∨ SqT G.K H p ys) ∧ ∀ l, H l = none → Q (.ref l) (upd H l (.lst ys))) (oList m) := by
  intro W w σ S xs ds res Q s r h p
  obtain ⟨d, ys, rfl, hs, hk⟩ := oSeq_some h
  obtain ⟨v, rfl, h1⟩ := rp1 r
  obtain ⟨a, zs, rfl, hz, hr⟩ := seqOf_ok s h1 hs
  exact ⟨a, zs, rfl, hz, new_lst s hr hk p⟩
@[simp] def fTup (fa : FA) : FE := fun env => bnd (fa env) fun xs => lim xs.length (ret (.tup xs))
@[simp] def fLst (m : Bool) (fa : FA) : FE := fun env => bnd (fa env) fun xs => lim xs.length (newL m xs)
section
variable {es : List Expr} {fa : FA} {pos : Pos}
theorem d_tup {x1} (ha : DA X ξ W es fa) : DE X ξ W (.Tuple es x1 pos) (fTup fa) := PE.imp (pe_tup ha) fun σ H Q ⟨w, env, S, res, eH, s, en, h, p⟩ => by
  subst eH
  refine seqR s en h p.px fun xs S1 vs w1 e1 s1 en1 r1 h1 => ?_
  obtain ⟨hl, h1⟩ := lim_some h1
  cases h1
  exact ⟨by rw [r1.length]; exact big_le hl, fun q hq => p.ok_ (e1.trans (.put hq)) (s1.put hq) (Rp.new_tup s1 hq r1)⟩
theorem d_lst (m : Bool) (ha : DA X ξ W es fa) : DE X ξ W (.List es pos) (fLst m fa) := PE.imp (pe_lst ha) fun σ H Q ⟨w, env, S, res, eH, s, en, h, p⟩ => by
  subst eH
  refine seqR s en h p.px fun xs S1 vs w1 e1 s1 en1 r1 h1 => ?_
  obtain ⟨hl, h1⟩ := lim_some h1
  exact ⟨by rw [r1.length]; exact big_le hl, new_lst s1 r1 h1 (p.mono e1 s1)⟩
end
/-! ### subscripts, slices -/
@[simp] def oIx : DOp := fun x i S => match i with
  | .int i => match seqOf x S with
    | some xs => match atI xs i with
      | some d => some (.ok d S)
      | none => none
    | none => none
  | _ => none
theorem atI_ok {w : Wd} {xs : List V} {ds : List Dv} {i : Int} {d : Dv} (r : RpAll G w xs ds) (h : atI ds i = some d) : ∃ v, atI xs i = some v ∧ Rp G w v d := by
  unfold atI at h ⊢
  rw [r.length]
  cases e : ixN ds.length i with
  | none => rw [e] at h; cases h
  | some j =>
    rw [e] at h
    exact r.get h
theorem IxR.or {r r' : R2} (h : IxR X r) (h' : IxR X r') : IxR X (fun x y H Q => r x y H Q ∨ r' x y H Q) := by
  intro value slice pins s σ H x y v u Q I rx ry q hs
  rcases q with q | q
  · exact h value slice pins s σ H x y v u Q I rx ry q hs
  · exact h' value slice pins s σ H x y v u Q I rx ry q hs
theorem od_ix : OpD G (fun x y H Q => rIxL G.K x y H Q ∨ rIxT G.K x y H Q) oIx := by
  intro W w σ S x y dx dy res Q s rx ry h p
  unfold oIx at h
  split at h
  · rename_i i
    cases ry
    split at h
    · rename_i xs e
      split at h
      · rename_i d e2
        cases h
        obtain ⟨a, zs, rfl, hz, hr⟩ := seqOf_ok s rx e
        obtain ⟨v, hv, rv⟩ := atI_ok hr e2
        rcases hz with hz | hz
        · exact .inl ⟨a, zs, i, v, rfl, rfl, hz, hv, p.here s rv⟩
        · exact .inr ⟨a, zs, i, v, rfl, rfl, hz, hv, p.here s rv⟩
      · cases h
    · cases h
  · cases h
theorem d_ix {a b : Expr} {fa fb : FE} {pos : Pos} (ha : DE X ξ W a fa) (hb : DE X ξ W b fb) (hs : PlainIx b := by intro _ _; rfl) : DE X ξ W (.Subscript a b pos) (fOp oIx fa fb) :=
  PE.imp (pe_ix (IxR.or ix_list ix_tup) ha hb hs) (op_body od_ix)
/-- an optional bound of a slice -/
abbrev FO := DEnv → Mm (Option Int)
@[simp] def fNo : FO := fun _ => ret none
@[simp] def asI : Dv → Option Int
  | .int i => some i
  | _ => none
@[simp] def fSo (fa : FE) : FO := fun env => bnd (fa env) fun x => bnd (ofO (asI x)) fun i => ret (some i)
def RO (_ : Wd) (a b : Option Int) : Prop := a = b
def DO (X : Cx) (ξ : Iv) (W : WX) (e : Option Expr) (f : FO) : Prop := PO X e (tG (gp X) ξ W RO f)
theorem PO.imp {e : Option Expr} {t t' : TO} (h : PO X e t) (i : ∀ σ H Q, t' σ H Q → t σ H Q) : PO X e t' := ⟨fun pins s σ H Q I q => h.run pins s σ H Q I (i σ H Q q)⟩
theorem o_none : DO X ξ W none fNo := PO.imp po_none fun σ H Q ⟨w, env, S, res, eH, s, en, h, p⟩ => by
  subst eH
  cases h
  exact p.here s rfl
theorem o_some {e : Expr} {fa : FE} (ha : DE X ξ W e fa) : DO X ξ W (some e) (fSo fa) := PO.imp (po_some ha) fun σ H Q ⟨w, env, S, res, eH, s, en, h, p⟩ => by
  subst eH
  refine seqR s en h p.px fun x S1 v w1 e1 s1 en1 r1 h1 => ?_
  obtain ⟨i, hi, h2⟩ := bnd_ofO h1
  cases r1 <;> first | (cases hi; done) | skip
  cases hi
  cases h2
  exact ⟨_, rfl, p.ok_ e1 s1 rfl⟩
def cutD (xs : List Dv) (lo hi : Option Int) : List Dv := (xs.drop (HT.sIx xs.length 0 lo)).take (HT.sIx xs.length xs.length hi - HT.sIx xs.length 0 lo)
theorem cut_ok {w : Wd} {xs : List V} {ds : List Dv} {lo hi : Option Int} (r : RpAll G w xs ds) : RpAll G w (cutV xs lo hi) (cutD ds lo hi) := by
  unfold cutV cutD
  rw [r.length]
  exact (r.drop _).take _
/-- a slice: of a tuple (not the whole of it) a tuple, of a list a new list -/
@[simp] def oSl (m : Bool) (x : Dv) (lo hi : Option Int) : Mm Dv := fun S => match x with
  | .tup xs => some (.ok (.tup (cutD xs lo hi)) S)
  | .lst xs => newL m (cutD xs lo hi) S
  | .obj n => match S[n]? with
    | some (.lst xs) => newL m (cutD xs lo hi) S
    | _ => none
  | _ => none
@[simp] def fSl (m : Bool) (fa : FE) (fl fh : FO) : FE := fun env => bnd (fa env) fun x => bnd (fl env) fun lo => bnd (fh env) fun hi => oSl m x lo hi
theorem d_slice (m : Bool) {e : Expr} {lo hi : Option Expr} {fa : FE} {fl fh : FO} {p2 pos : Pos} (ha : DE X ξ W e fa) (hl : DO X ξ W lo fl) (hh : DO X ξ W hi fh) : DE X ξ W (.Subscript e (.Slice lo hi none p2) pos) (fSl m fa fl fh) :=
  PE.imp (pe_slice (SlR.or sl_tupA sl_list) ha hl hh) fun σ H Q ⟨w, env, S, res, eH, s, en, h, p⟩ => by
    subst eH
    refine seqR s en h p.px fun x S1 v w1 e1 s1 en1 r1 h1 => seqR s1 en1 h1 (p.px.mono e1 s1) fun lo S2 lo' w2 e2 s2 en2 q2 h2 => seqR s2 en2 h2 (p.px.mono (e1.trans e2) s2) fun hi S3 hi' w3 e3 s3 en3 q3 h3 => ?_
    cases (show lo' = lo from q2)
    cases (show hi' = hi from q3)
    have e13 := (e1.trans e2).trans e3
    have rx := (r1.mono e2).mono e3
    unfold oSl at h3
    cases rx <;> first | (cases h3; done) | skip
    · rename_i a xs ds ha ra
      dsimp only at h3
      cases h3
      refine .inl ⟨a, xs, rfl, ha.to, fun z => ?_, fun _ q hq => p.ok_ (e13.trans (.put hq)) (s3.put hq) (Rp.new_tup s3 hq (cut_ok ra))⟩
      rw [ra.length] at z
      have hz : cutD ds lo hi = ds := by unfold cutD; rw [z.1, z.2]; simp
      exact p.ok_ e13 s3 (hz.symm ▸ Rp.tup ha ra)
    · rename_i a xs ds ha ra
      exact .inr ⟨a, xs, rfl, ha.to, new_lst s3 (cut_ok ra) h3 (p.mono e13 s3)⟩
    · rename_i a n ha
      dsimp only at h3
      split at h3
      · rename_i ds e
        obtain ⟨xs, h1, h2⟩ := s3.cont n _ _ ha e
        exact .inr ⟨a, xs, rfl, SqL.of h1, new_lst s3 (cut_ok h2) h3 (p.mono e13 s3)⟩
      · cases h3
end
end FC

set_option Elab.async false
set_option linter.all false
set_option maxRecDepth 100000
namespace FC
open PySem PySem.Spec PyProof.Rows L2
/-! ### enumerate(t), t a tuple -/
def IteT (K : PySem.W.Frag) (a : Addr) : It :=
  ⟨fun i H => ∃ (xs : List V) (x : V), SqT K H a xs ∧ xs[i]? = some x, fun i H v H' => ∃ T x, v = .ref T ∧ H T = none ∧ H' = upd H T (.tup [.int (i : Nat), x]) ∧ ∀ xs, SqT K H a xs → xs[i]? = some x, fun i H => ∃ xs : List V, SqT K H a xs ∧ xs.length ≤ i⟩
theorem turn_enumT {P : Program} {w : World} {K : PySem.W.Frag} {elts : List Expr} {kk : Nat} {tpos : Pos} (a e it : Addr) :
    Turn P w K (.Tuple elts kk tpos) (IteT K a) [e, it] e (fun i h => (∃ old, IsEnum h e it ((i : Nat) : Int) old) ∧ h.IsTupleIter it a i ∧ e ≠ it ∧ e ≠ a ∧ a ≠ it) where
  mem := by simp
  obj := fun i h st b hb => by
    obtain ⟨⟨old, he⟩, ⟨o, ho, hc, hd⟩, _⟩ := st
    have e' : b = e ∨ b = it := by simpa using hb
    rcases e' with z | z
    · rw [z]; exact ⟨_, he, fun v q => nomatch q⟩
    · rw [z]; exact ⟨o, ho, fun v q => by rw [hd] at q; cases q⟩
  keep := fun i h h' st k => let ⟨⟨old, he⟩, hi, hne⟩ := st; ⟨⟨old, k e (by simp) _ he⟩, hi.at fun o q => k it (by simp) o q, hne⟩
  item := by
    intro X hP hw hK hc i pins s σ H E I hf st hg
    subst hP hw hK
    obtain ⟨⟨old, he⟩, hit, hne, hea, hai⟩ := st
    obtain ⟨xs, x, hq, hx⟩ := hg
    obtain ⟨its, rv, p, hz⟩ := I.tuple hq
    have hel : e < s.heap.objs.size := Heap.lt_size he
    have hil : it < s.heap.objs.size := by obtain ⟨_, q, _⟩ := hit; exact Heap.lt_size q
    have hlt : i < its.toArray.size := by
      have := (List.getElem?_eq_some_iff.mp hx).1
      rw [List.size_toArray, ← rv.length]
      exact this
    have pt : s.heap.IsTuple a its.toArray := p
    refine wpAny_pyNext_enum_itemD (Draws.tuple (prog := X.prog) (w := X.w) (A := X.A.in1) (I.ok.hd hc) it a hai its.toArray) he ⟨hit, pt⟩ hlt hne (by simp [hne, hea]) fun u h' tk hu ho hit' hT hsz hk => ?_
    have hu' : its[i]? = some u := by simpa using hu
    have ru : RelV x u := by
      obtain ⟨u2, hu2, r2⟩ := rv.get hx
      rw [hu2] at hu'
      cases hu'
      exact r2
    refine ⟨_, rfl, wpAny_letOwnedTupleGo_enum (s := { s with heap := h', toks := tk + 1 }) ho fun h'' he' sb => ?_⟩
    have hT2 : h''.get? s.heap.objs.size = some { cls := .type "tuple", data := .seq #[.int i tk, u] } := (sb.2 _ (Nat.ne_of_gt hel)).trans hT
    have new : ObjOk X.prog X.w (upd H s.heap.objs.size (.tup [.int (i : Nat), x])) h'' s.heap.objs.size (.tup [.int (i : Nat), x]) :=
      ⟨by show 2 ≤ sizeLine; decide, [.int i tk, u], .cons ⟨_, rfl⟩ (.cons ru .nil), ⟨_, hT2, rfl, _, rfl⟩⟩
    have I1 : Inv X pins σ (upd H s.heap.objs.size (.tup [.int (i : Nat), x])) { s with heap := h'', toks := tk + 1 } :=
      I.turnedNew (ch := [e, it]) (fun b ob hb q => (sb.2 b (fun z => hb (by simp [z]))).trans (hk b ob (fun z => hb (by simp [z])) (fun z => hb (by simp [z])) q)) hf (Nat.le_refl _) new
    refine ⟨.ref s.heap.objs.size, _, I1, rfl, ⟨_, x, rfl, I.hok.fresh (Nat.le_refl _), rfl, fun ys hy => by rw [I.tuple_inj hy hq]; exact hx⟩, ⟨⟨u, ?_⟩, hit'.1.at fun o q => (sb.2 it (Ne.symm hne)).trans q, hne, hea, hai⟩, fun b hb => ?_⟩
    · have e1 : ((i + 1 : Nat) : Int) = (i : Int) + 1 := by omega
      rw [e1]; exact he'
    · have hb' : b < s.heap.objs.size := by
        have e' : b = e ∨ b = it := by simpa using hb
        rcases e' with z | z
        · rw [z]; exact hel
        · rw [z]; exact hil
      rw [upd_ne (Nat.ne_of_lt hb')]
      exact (hf b hb).1
  done := by
    intro X hP hw hK hc i pins s σ H E I hf st hg
    subst hP hw hK
    obtain ⟨⟨old, he⟩, hit, hne, hea, hai⟩ := st
    obtain ⟨xs, hq, hx⟩ := hg
    obtain ⟨its, rv, p, hz⟩ := I.tuple hq
    have pt : s.heap.IsTuple a its.toArray := p
    obtain ⟨f0, f1, f2, f3, f4, f5⟩ := hf it (by simp)
    have hl := rv.length
    have hT : s.TypeIs (.ref e) "enumerate" := ⟨_, he, rfl⟩
    unfold pyNext
    refine wpAny_bind (wpAny_attempt (wpAny_callSpecial?_slot (name := Str.ofString "__next__") hT F.slot_enumerate_next
      (wpAny_call_entry F.slot_enumerate_next hT F.entry_enumerate_next ?_ (F.args_enumerate_next_1 _))))
    show wpAny _ _ (field (.ref e) 2 >>= _) _ _ _
    refine wpAny_bind (wpAny_field he rfl (x := .ref it) rfl ?_)
    refine wpAny_bind (wpAny_nextOf_tuple_end (A := X.A.in1) (I.ok.hd hc) hit pt (by simp; omega) fun h' x he' hx' => ?_)
    obtain ⟨o, ho, hc'⟩ := hx'
    refine wpAny_bind (wpAny_isInstance (T := "StopIteration") (b := true) ⟨o, ho, hc'⟩ isSubtype_stop ?_)
    exact wpAny_pure ⟨rfl, I.turned (t' := s.toks) (fun b o hb q => he' b o hb q) f0 f1 f3 f4 f5⟩
  self := fun A i s Q E st h => let ⟨⟨_, he⟩, _⟩ := st; wpAny_pyIter_enum he h
set_option maxHeartbeats 1000000 in
theorem meets_enumerate_newT (l : Addr) (items : Array Value) :
    Meets (Builtin.«enumerate.__new__» ⟨[.type "enumerate", .ref l], []⟩) (fun _ R s => s.heap.IsTuple l items ∧
      R (.ok (.ret (.ref (s.heap.push { cls := .type "tuple_iterator", data := .fields #[.ref l, .int 0 0] }).objs.size)))
        { s with heap := (s.heap.push { cls := .type "tuple_iterator", data := .fields #[.ref l, .int 0 0] }).push { cls := .type "enumerate", data := .fields #[.none, .bool false, .ref s.heap.objs.size, rawInt 0, .none, .none] } }) :=
  .of_wp fun prog w A R s h => by
    obtain ⟨hp, g, d, tk, os⟩ := s; obtain ⟨h1, h⟩ := h
    have hsub := sub_enumerate
    have q1 : ∀ {A' : Around} {E : Value → Shared → Prop} {Q : Value → Shared → Prop}, Q (.ref hp.objs.size) ⟨hp.push { cls := .type "tuple_iterator", data := .fields #[.ref l, .int 0 0] }, g, d, tk, os⟩ → wpAny (model prog w) A' (pyIter (.ref l)) Q E ⟨hp, g, d, tk, os⟩ :=
      fun q => wpAny_pyIter_tuple h1 q
    wp_walk using q1
    refine wpAny_stack_any fun st => wpAny_pure ?_
    split
    · rename_i c _ _ _ _ _
      cases (c == Value.type "enumerate")
      · wp_walk using q1
        exact ⟨_, rfl, h⟩
      · wp_walk using q1
        exact ⟨_, rfl, h⟩
    · wp_walk using q1
      exact ⟨_, rfl, h⟩
theorem call_enumerate_tuple {prog : Program} {w : World} {A : Around} {E : Value → Shared → Prop} {s : Shared} {l : Addr} {items : Array Value} {Q : Value → Shared → Prop} (hL : s.heap.IsTuple l items)
    (h : ∀ h', IsEnum h' (s.heap.objs.size + 1) s.heap.objs.size 0 .none → h'.IsTupleIter s.heap.objs.size l 0 → h'.objs.size = s.heap.objs.size + 2 →
      (∀ b o, s.heap.get? b = some o → h'.get? b = some o) → Q (.ref (s.heap.objs.size + 1)) { s with heap := h' }) :
    wpAny (model prog w) A (call (.type "enumerate") [.ref l]) Q E s := by
  refine callType_new F.called_enumerate (by decide) (F.typeCall_enumerate_1 _) (F.newCall_enumerate_1 _) (fun obj => F.args_object_init_2 obj _) F.entry_enumerate_new
    (meets_enumerate_newT l items) ⟨hL, ?_⟩
  have hz : (s.heap.push { cls := .type "tuple_iterator", data := .fields #[.ref l, .int 0 0] }).objs.size = s.heap.objs.size + 1 := Heap.size_push ..
  show _ ∧ _
  rw [hz]
  have he : IsEnum ((s.heap.push { cls := .type "tuple_iterator", data := .fields #[.ref l, .int 0 0] }).push
      { cls := .type "enumerate", data := .fields #[.none, .bool false, .ref s.heap.objs.size, rawInt 0, .none, .none] }) (s.heap.objs.size + 1) s.heap.objs.size 0 .none := by
    have := Heap.get?_push_size (s.heap.push { cls := .type "tuple_iterator", data := .fields #[.ref l, .int 0 0] })
      (o := { cls := .type "enumerate", data := .fields #[.none, .bool false, .ref s.heap.objs.size, rawInt 0, .none, .none] }) rfl
    rw [hz] at this; exact this
  refine ⟨⟨_, he, rfl⟩, h _ he ⟨_, Heap.get?_push_of_some _ (Heap.get?_push_size _ rfl), rfl, rfl⟩ (by rw [Heap.size_push, hz]) fun b o x => Heap.get?_push_of_some _ (Heap.get?_push_of_some _ x)⟩
/-- enumerate of a list or of a tuple -/
def iEnumA (K : PySem.W.Frag) (ta : TA) : TI := fun σ H R => ta σ H fun vs H1 => ∃ a xs, vs = [.ref a] ∧ ((SqL K H1 a xs ∧ R (Ite K a) H1) ∨ (SqT K H1 a xs ∧ R (IteT K a) H1))
theorem pi_enumA {X : Cx} {e : Expr} {ta : TA} {p pos tpos : Pos} {elts : List Expr} {kk : Nat} (hg : Gl X "enumerate") (hm : X.mg "enumerate" = none) (ha : PA X [e] ta) (hs : starEach [e] X.env = [(false, eval e X.env)] := by rfl) :
    PI X (.Tuple elts kk tpos) (.Call (.Name "enumerate" p) [e] [] pos) (iEnumA X.K ta) := by
  refine ⟨fun pins s σ H R I h => ?_⟩
  refine Call_ (ld_blt I hg hm boot_enumerate (PyProof.Rows.callWith_type1 (thn (ha.run pos pins s σ H _ I h) fun us s1 ⟨vs, H1, I1, r1, q1⟩ => ?_) hs rfl))
  obtain ⟨a, xs, ex, q⟩ := q1
  subst ex
  have fp : ∀ b ∈ [s1.heap.objs.size + 1, s1.heap.objs.size], FpOk X pins H1 b := fun b hb => by
    have e' : b = s1.heap.objs.size + 1 ∨ b = s1.heap.objs.size := by simpa using hb
    have hle : s1.heap.objs.size ≤ b := by
      rcases e' with z | z
      · rw [z]; exact Nat.le_add_right _ _
      · rw [z]; exact Nat.le_refl _
    exact I1.fpOk hle (I1.hok.fresh hle)
  cases r1 with
  | cons r rr =>
    cases rr
    cases r
    rcases q with ⟨hq, q⟩ | ⟨hq, q⟩
    · obtain ⟨its, rv, p', hz⟩ := I1.list hq
      refine call_enumerate_list p'.isList fun h' he hit hsz hk => wpAny_pyIter_enum he ?_
      have I2 : Inv X pins σ H1 { s1 with heap := h' } := I1.kept (t' := s1.toks) hk
      exact ⟨s1.heap.objs.size + 1, [s1.heap.objs.size + 1, s1.heap.objs.size], _, _, H1, rfl, I2, turn_enum a (s1.heap.objs.size + 1) s1.heap.objs.size, ⟨⟨.none, he⟩, hit, Nat.succ_ne_self _⟩, fp, q⟩
    · obtain ⟨its, rv, p', hz⟩ := I1.tuple hq
      have pt : s1.heap.IsTuple a its.toArray := p'
      have hla : a < s1.heap.objs.size := by obtain ⟨_, q, _⟩ := pt; exact Heap.lt_size q
      refine call_enumerate_tuple pt fun h' he hit hsz hk => wpAny_pyIter_enum he ?_
      have I2 : Inv X pins σ H1 { s1 with heap := h' } := I1.kept (t' := s1.toks) hk
      exact ⟨s1.heap.objs.size + 1, [s1.heap.objs.size + 1, s1.heap.objs.size], _, _, H1, rfl, I2, turn_enumT a (s1.heap.objs.size + 1) s1.heap.objs.size, ⟨⟨.none, he⟩, hit, Nat.succ_ne_self _, Nat.ne_of_gt (Nat.lt_succ_of_lt hla), Nat.ne_of_lt hla⟩, fp, q⟩
end FC

set_option Elab.async false
set_option linter.all false
set_option maxRecDepth 100000
namespace FC
open PySem PySem.Spec L2

section
variable {X : Cx} {ξ : Iv} {W : WX} {G : Gp}
/-! ### what is walked -/
/-- in every later world the walk yields ds, one after the other -/
def ItOk (G : Gp) (w : Wd) (J : It) (ds : List Dv) : Prop := ∀ w2 S2, Ext w w2 → SOk G w2 S2 →
  (∀ i, i < ds.length → J.go i w2.H) ∧ J.stop ds.length w2.H ∧
    ∀ i d x H', ds[i]? = some d → J.yld i w2.H x H' → ∃ w3, w3.H = H' ∧ Ext w2 w3 ∧ SOk G w3 S2 ∧ Rp G w3 x d
theorem ItOk.mono {w w1 : Wd} {J : It} {ds : List Dv} (e : Ext w w1) (h : ItOk G w J ds) : ItOk G w1 J ds := fun w2 S2 e2 s2 => h w2 S2 (e.trans e2) s2
abbrev FI := DEnv → Mm (List Dv)
def tI (G : Gp) (ξ : Iv) (W : WX) (f : FI) : TI := tG G ξ W (fun w J ds => ItOk G w J ds) f
def DI (X : Cx) (ξ : Iv) (W : WX) (tg iter : Expr) (f : FI) : Prop := PI X tg iter (tI (gp X) ξ W f)
theorem PI.imp {tg e : Expr} {t t' : TI} (h : PI X tg e t) (i : ∀ σ H Q, t' σ H Q → t σ H Q) : PI X tg e t' := ⟨fun pins s σ H Q I q => h.run pins s σ H Q I (i σ H Q q)⟩
/-- a list or a tuple that nothing changes -/
@[simp] def frozen : Dv → Option (List Dv)
  | .tup xs => some xs
  | .lst xs => some xs
  | _ => none
@[simp] def fIt (fa : FE) : FI := fun env => bnd (fa env) fun x => ofO (frozen x)
theorem it_list {w : Wd} {a : Addr} {xs : List V} {ds : List Dv} (ha : SqLM G w a xs) (ra : RpAll G w xs ds) : ItOk G w (Itl G.K a) ds := fun w2 S2 e2 s2 => by
  have ha2 := (ha.mono e2).to
  have ra2 := ra.mono e2
  refine ⟨fun i hi => ?_, ⟨xs, ha2, by rw [ra.length]; exact Nat.le_refl _⟩, fun i d x H' hd hy => ?_⟩
  · have hx : i < xs.length := by rw [ra.length]; exact hi
    exact ⟨xs, xs[i], ha2, List.getElem?_eq_getElem hx⟩
  · obtain ⟨rfl, hx⟩ := hy
    obtain ⟨v, h1, h2⟩ := ra2.get hd
    rw [hx xs ha2] at h1
    cases h1
    exact ⟨w2, rfl, Ext.refl _, s2, h2⟩
theorem it_tup {w : Wd} {a : Addr} {xs : List V} {ds : List Dv} (ha : SqTM G w a xs) (ra : RpAll G w xs ds) : ItOk G w (Itt G.K a) ds := fun w2 S2 e2 s2 => by
  have ha2 := (ha.mono e2).to
  have ra2 := ra.mono e2
  refine ⟨fun i hi => ?_, ⟨xs, ha2, by rw [ra.length]; exact Nat.le_refl _⟩, fun i d x H' hd hy => ?_⟩
  · have hx : i < xs.length := by rw [ra.length]; exact hi
    exact ⟨xs, xs[i], ha2, List.getElem?_eq_getElem hx⟩
  · obtain ⟨rfl, hx⟩ := hy
    obtain ⟨v, h1, h2⟩ := ra2.get hd
    rw [hx xs ha2] at h1
    cases h1
    exact ⟨w2, rfl, Ext.refl _, s2, h2⟩
/-- a walked list; a walked tuple: which one is told by the rule -/
def frL : Dv → Option (List Dv)
  | .lst xs => some xs
  | _ => none
def frT : Dv → Option (List Dv)
  | .tup xs => some xs
  | _ => none
def fItL (fa : FE) : FI := fun env => bnd (fa env) fun x => ofO (frL x)
def fItT (fa : FE) : FI := fun env => bnd (fa env) fun x => ofO (frT x)
section
variable {tg e : Expr} {fa : FE}
theorem PI.or {t t' : TI} (h : PI X tg e t) (h' : PI X tg e t') : PI X tg e (fun σ H R => t σ H R ∨ t' σ H R) := ⟨fun pins s σ H R I q => by
  rcases q with q | q
  · exact h.run pins s σ H R I q
  · exact h'.run pins s σ H R I q⟩
theorem i_list (ha : DE X ξ W e fa) (hl : PI X tg e (iList X.K (tD (gp X) ξ W fa)) := by exact pi_list ‹_›) : DI X ξ W tg e (fItL fa) := PI.imp hl fun σ H R ⟨w, env, S, res, eH, s, en, h, p⟩ => by
  subst eH
  refine seqR s en h p.px fun x S1 v w1 e1 s1 en1 r1 h1 => ?_
  obtain ⟨ds, hd, rfl⟩ := ofO_some h1
  cases r1 <;> first | (cases hd; done) | skip
  rename_i a xs ds' ha ra
  cases hd
  exact ⟨a, rfl, ⟨xs, ha.to⟩, p.ok_ e1 s1 (it_list ha ra)⟩
theorem i_tup (ha : DE X ξ W e fa) (hl : PI X tg e (iTup X.K (tD (gp X) ξ W fa)) := by exact pi_tup ‹_›) : DI X ξ W tg e (fItT fa) := PI.imp hl fun σ H R ⟨w, env, S, res, eH, s, en, h, p⟩ => by
  subst eH
  refine seqR s en h p.px fun x S1 v w1 e1 s1 en1 r1 h1 => ?_
  obtain ⟨ds, hd, rfl⟩ := ofO_some h1
  cases r1 <;> first | (cases hd; done) | skip
  rename_i a xs ds' ha ra
  cases hd
  exact ⟨a, rfl, ⟨xs, ha.to⟩, p.ok_ e1 s1 (it_tup ha ra)⟩
end
/-- range -/
def upTo (lo : Int) (n : Nat) : List Int := (List.range n).map fun i => lo + (i : Nat)
theorem it_rng {w : Wd} {lo : Int} {n : Nat} : ItOk G w (Itr lo n) ((upTo lo n).map Dv.int) := fun w2 S2 e2 s2 => by
  have hl : ((upTo lo n).map Dv.int).length = n := by simp [upTo]
  refine ⟨fun i hi => by rw [hl] at hi; exact hi, by rw [hl]; exact Nat.le_refl _, fun i d x H' hd hy => ?_⟩
  obtain ⟨rfl, rfl⟩ := hy
  have hi : i < n := by
    have := (List.getElem?_eq_some_iff.mp hd).1
    rw [hl] at this
    exact this
  have : d = .int (lo + (i : Nat)) := by
    unfold upTo at hd
    rw [List.map_map, List.getElem?_map, List.getElem?_range hi] at hd
    cases hd
    rfl
  subst this
  exact ⟨w2, rfl, Ext.refl _, s2, .int _⟩
def rngOk (i : Int) : Prop := i.natAbs ≤ 1000000000000000000
instance (i : Int) : Decidable (rngOk i) := inferInstanceAs (Decidable (_ ≤ _))
theorem rngOk.to {i : Int} (h : rngOk i) : -(2 ^ 62) ≤ i ∧ i < 2 ^ 62 := by unfold rngOk at h; omega
def rng1 (ds : List Dv) : Mm (List Dv) := match ds with
  | [.int j] => if rngOk j then ret ((upTo 0 j.toNat).map Dv.int) else stuck
  | _ => stuck
def rng2 (ds : List Dv) : Mm (List Dv) := match ds with
  | [.int i, .int j] => if rngOk i ∧ rngOk j then ret ((upTo i (j - i).toNat).map Dv.int) else stuck
  | _ => stuck
@[simp] def fRng1 (fa : FA) : FI := fun env => bnd (fa env) rng1
@[simp] def fRng2 (fa : FA) : FI := fun env => bnd (fa env) rng2
section
variable {tg e e2 : Expr} {es elts : List Expr} {kk : Nat} {fa : FA} {p pos tpos : Pos}
theorem i_rng1 (hm : X.mg "range" = none) (ha : DA X ξ W [e] fa) (hg : Gl X "range" := by rfl) (hs : starEach [e] X.env = [(false, eval e X.env)] := by rfl) : DI X ξ W tg (.Call (.Name "range" p) [e] [] pos) (fRng1 fa) := PI.imp (pi_range1 hg hm ha hs) fun σ H R ⟨w, env, S, res, eH, s, en, h, p⟩ => by
  subst eH
  refine seqR s en h p.px fun ds S1 vs w1 e1 s1 en1 rv h1 => ?_
  unfold rng1 at h1
  split at h1
  · rename_i j
    obtain ⟨v, rfl, hv⟩ := rp1 rv
    cases hv
    by_cases z : rngOk j
    · rw [if_pos z] at h1
      cases h1
      exact ⟨j, rfl, z.to.1, z.to.2, p.ok_ e1 s1 it_rng⟩
    · rw [if_neg z] at h1; cases h1
  · cases h1
theorem i_rng2 (hm : X.mg "range" = none) (ha : DA X ξ W [e, e2] fa) (hg : Gl X "range" := by rfl) (hs : starEach [e, e2] X.env = [(false, eval e X.env), (false, eval e2 X.env)] := by rfl) (hs2 : starEach [e2] X.env = [(false, eval e2 X.env)] := by rfl) : DI X ξ W tg (.Call (.Name "range" p) [e, e2] [] pos) (fRng2 fa) := PI.imp (pi_range2 hg hm ha hs hs2) fun σ H R ⟨w, env, S, res, eH, s, en, h, p⟩ => by
  subst eH
  refine seqR s en h p.px fun ds S1 vs w1 e1 s1 en1 rv h1 => ?_
  unfold rng2 at h1
  split at h1
  · rename_i i j
    obtain ⟨v, u, rfl, hv, hu⟩ := rp2 rv
    cases hv
    cases hu
    by_cases z : rngOk i ∧ rngOk j
    · rw [if_pos z] at h1
      cases h1
      exact ⟨i, j, rfl, ⟨z.1.to.1, z.1.to.2, z.2.to.1, z.2.to.2⟩, p.ok_ e1 s1 it_rng⟩
    · rw [if_neg z] at h1; cases h1
  · cases h1
/-- enumerate, zip: pairs -/
def pairs : List Dv → List Dv → List Dv
  | x :: xs, y :: ys => .tup [x, y] :: pairs xs ys
  | _, _ => []
theorem pairs_len : ∀ xs ys : List Dv, (pairs xs ys).length = min xs.length ys.length
  | [], _ => by simp [pairs]
  | _ :: _, [] => by simp [pairs]
  | x :: xs, y :: ys => by
    show (pairs xs ys).length + 1 = min (xs.length + 1) (ys.length + 1)
    rw [pairs_len xs ys]
    omega
theorem pairs_at : ∀ (xs ys : List Dv) (i : Nat) (d : Dv), (pairs xs ys)[i]? = some d → ∃ x y, xs[i]? = some x ∧ ys[i]? = some y ∧ d = .tup [x, y]
  | [], _, _, _, h => by simp [pairs] at h
  | _ :: _, [], _, _, h => by simp [pairs] at h
  | x :: xs, y :: ys, 0, d, h => by
    have e : Dv.tup [x, y] = d := Option.some.inj h
    exact ⟨x, y, rfl, rfl, e.symm⟩
  | x :: xs, y :: ys, i + 1, d, h => by
    obtain ⟨a, b, h1, h2, h3⟩ := pairs_at xs ys i d h
    exact ⟨a, b, h1, h2, h3⟩
def numbered (xs : List Dv) : List Dv := pairs ((upTo 0 xs.length).map Dv.int) xs
theorem upTo_len (lo : Int) (n : Nat) : (upTo lo n).length = n := by simp [upTo]
theorem upTo_at {lo : Int} {n i : Nat} (h : i < n) : (upTo lo n)[i]? = some (lo + (i : Nat)) := by
  unfold upTo
  rw [List.getElem?_map, List.getElem?_range h]
  rfl
theorem numbered_len (xs : List Dv) : (numbered xs).length = xs.length := by
  unfold numbered
  rw [pairs_len, List.length_map, upTo_len]
  omega
theorem numbered_at {xs : List Dv} {i : Nat} {d : Dv} (h : (numbered xs)[i]? = some d) : ∃ x, xs[i]? = some x ∧ d = .tup [.int (i : Nat), x] := by
  obtain ⟨a, b, h1, h2, h3⟩ := pairs_at _ _ _ _ h
  have hi : i < xs.length := (List.getElem?_eq_some_iff.mp h2).1
  rw [List.getElem?_map, upTo_at hi] at h1
  cases h1
  refine ⟨b, h2, ?_⟩
  rw [h3]
  show Dv.tup [Dv.int (0 + (i : Nat)), b] = _
  rw [Int.zero_add]
@[simp] def fEnum (fa : FA) : FI := fun env => bnd (fa env) fun ds => match ds with
  | [d] => bnd (ofO (frozen d)) fun xs => ret (numbered xs)
  | _ => stuck
@[simp] def fZip (fa : FA) : FI := fun env => bnd (fa env) fun ds => match ds with
  | [.tup xs, .tup ys] => ret (pairs xs ys)
  | [.lst xs, .lst ys] => ret (pairs xs ys)
  | _ => stuck
theorem new_pair {w : Wd} {S : Store} {T : Addr} {x y : V} {dx dy : Dv} (s : SOk G w S) (hT : w.H T = none) (rx : Rp G w x dx) (ry : Rp G w y dy) : ∃ w3, w3.H = upd w.H T (.tup [x, y]) ∧ Ext w w3 ∧ SOk G w3 S ∧ Rp G w3 (.ref T) (.tup [dx, dy]) :=
  ⟨w.put T (.tup [x, y]), rfl, .put hT, s.put hT, Rp.new_tup s hT (.cons rx (.cons ry .nil))⟩
theorem i_enum (hm : X.mg "enumerate" = none) (ha : DA X ξ W [e] fa) (hg : Gl X "enumerate" := by rfl) (hs : starEach [e] X.env = [(false, eval e X.env)] := by rfl) : DI X ξ W (.Tuple elts kk tpos) (.Call (.Name "enumerate" p) [e] [] pos) (fEnum fa) := PI.imp (pi_enumA hg hm ha hs) fun σ H R ⟨w, env, S, res, eH, s, en, h, p⟩ => by
  subst eH
  refine seqR s en h p.px fun ds S1 vs w1 e1 s1 en1 rv h1 => ?_
  split at h1
  · rename_i d
    obtain ⟨xs, hx, h2⟩ := bnd_ofO h1
    cases h2
    obtain ⟨v, rfl, hv⟩ := rp1 rv
    cases hv with
    | @tup a vs _ ha ra =>
      cases hx
      refine ⟨a, vs, rfl, .inr ⟨ha.to, p.ok_ e1 s1 fun w2 S2 e2 s2 => ?_⟩⟩
      have ha2 := (ha.mono e2).to
      have ra2 := ra.mono e2
      refine ⟨fun i hi => ?_, ⟨vs, ha2, by rw [ra.length, numbered_len]; exact Nat.le_refl _⟩, fun i d x H' hd hy => ?_⟩
      · rw [numbered_len] at hi
        have hx : i < vs.length := by rw [ra.length]; exact hi
        exact ⟨vs, vs[i], ha2, List.getElem?_eq_getElem hx⟩
      · obtain ⟨T, y, rfl, hT, rfl, hf⟩ := hy
        obtain ⟨z, hz, rfl⟩ := numbered_at hd
        obtain ⟨u, h3, h4⟩ := ra2.get hz
        rw [hf vs ha2] at h3
        cases h3
        exact new_pair s2 hT (.int _) h4
    | @lst a vs _ ha ra =>
      cases hx
      refine ⟨a, vs, rfl, .inl ⟨ha.to, p.ok_ e1 s1 fun w2 S2 e2 s2 => ?_⟩⟩
      have ha2 := (ha.mono e2).to
      have ra2 := ra.mono e2
      refine ⟨fun i hi => ?_, ⟨vs, ha2, by rw [ra.length, numbered_len]; exact Nat.le_refl _⟩, fun i d x H' hd hy => ?_⟩
      · rw [numbered_len] at hi
        have hx : i < vs.length := by rw [ra.length]; exact hi
        exact ⟨vs, vs[i], ha2, List.getElem?_eq_getElem hx⟩
      · obtain ⟨T, y, rfl, hT, rfl, hf⟩ := hy
        obtain ⟨z, hz, rfl⟩ := numbered_at hd
        obtain ⟨u, h3, h4⟩ := ra2.get hz
        rw [hf vs ha2] at h3
        cases h3
        exact new_pair s2 hT (.int _) h4
    | _ => cases hx
  · cases h1
theorem i_zip (hm : X.mg "zip" = none) (ha : DA X ξ W [e, e2] fa) (hg : Gl X "zip" := by rfl) (hs : starEach [e, e2] X.env = (false, eval e X.env) :: starEach [e2] X.env := by rfl) (hpl : (backTo pos (starEach [e2] X.env)).any (·.1) = false := by rfl) : DI X ξ W (.Tuple elts kk tpos) (.Call (.Name "zip" p) [e, e2] [] pos) (fZip fa) := PI.imp (RZ.pi_zipA hg hm ha hs hpl) fun σ H R ⟨w, env, S, res, eH, s, en, h, p⟩ => by
  subst eH
  refine seqR s en h p.px fun ds S1 vs w1 e1 s1 en1 rv h1 => ?_
  have stop : ∀ {xs ys : List V} {ds es : List Dv}, RpAll (gp X) w1 xs ds → RpAll (gp X) w1 ys es → xs.length ≤ (pairs ds es).length ∨ ys.length ≤ (pairs ds es).length := fun {xs ys ds es} h1 h2 => by
    rw [pairs_len, h1.length, h2.length]
    omega
  split at h1
  · rename_i xs ys
    cases h1
    obtain ⟨v, u, rfl, hv, hu⟩ := rp2 rv
    cases hv with
    | @tup a us _ ha ra =>
      cases hu with
      | @tup b ts _ hb rb =>
        refine ⟨a, b, us, ts, rfl, .inr ⟨ha.to, hb.to, p.ok_ e1 s1 fun w2 S2 e2 s2 => ?_⟩⟩
        have ha2 := (ha.mono e2).to
        have hb2 := (hb.mono e2).to
        refine ⟨fun i hi => ?_, ⟨us, ts, ha2, hb2, stop ra rb⟩, fun i d x H' hd hy => ?_⟩
        · rw [pairs_len] at hi
          have hx : i < us.length := by rw [ra.length]; omega
          have hy : i < ts.length := by rw [rb.length]; omega
          exact ⟨us, ts, us[i], ts[i], ha2, hb2, List.getElem?_eq_getElem hx, List.getElem?_eq_getElem hy⟩
        · obtain ⟨T, y, z, rfl, hT, rfl, hf, hg'⟩ := hy
          obtain ⟨dx, dy, q1, q2, rfl⟩ := pairs_at _ _ _ _ hd
          obtain ⟨v1, h3, h4⟩ := (ra.mono e2).get q1
          obtain ⟨v2, h5, h6⟩ := (rb.mono e2).get q2
          rw [hf us ha2] at h3
          rw [hg' ts hb2] at h5
          cases h3
          cases h5
          exact new_pair s2 hT h4 h6
  · rename_i xs ys
    cases h1
    obtain ⟨v, u, rfl, hv, hu⟩ := rp2 rv
    cases hv with
    | @lst a us _ ha ra =>
      cases hu with
      | @lst b ts _ hb rb =>
        refine ⟨a, b, us, ts, rfl, .inl ⟨ha.to, hb.to, p.ok_ e1 s1 fun w2 S2 e2 s2 => ?_⟩⟩
        have ha2 := (ha.mono e2).to
        have hb2 := (hb.mono e2).to
        refine ⟨fun i hi => ?_, ⟨us, ts, ha2, hb2, stop ra rb⟩, fun i d x H' hd hy => ?_⟩
        · rw [pairs_len] at hi
          have hx : i < us.length := by rw [ra.length]; omega
          have hy : i < ts.length := by rw [rb.length]; omega
          exact ⟨us, ts, us[i], ts[i], ha2, hb2, List.getElem?_eq_getElem hx, List.getElem?_eq_getElem hy⟩
        · obtain ⟨T, y, z, rfl, hT, rfl, hf, hg'⟩ := hy
          obtain ⟨dx, dy, q1, q2, rfl⟩ := pairs_at _ _ _ _ hd
          obtain ⟨v1, h3, h4⟩ := (ra.mono e2).get q1
          obtain ⟨v2, h5, h6⟩ := (rb.mono e2).get q2
          rw [hf us ha2] at h3
          rw [hg' ts hb2] at h5
          cases h3
          cases h5
          exact new_pair s2 hT h4 h6
  · cases h1
end
end
end FC

set_option Elab.async false
set_option linter.all false
set_option maxRecDepth 100000
namespace FC
open PySem PySem.Spec L2
/-! ### the least that keeps what is told of data -/
structure Wk (w w' : Wd) : Prop where
  as : ∀ (n : Nat) (a : Addr), w.as[n]? = some a → w'.as[n]? = some a
  nM : ∀ a o, w.H a = some o → ¬ w.M a → ¬ w'.M a
  keep : ∀ a o, ¬ w.M a → w.H a = some o → w'.H a = some o
theorem Ext.wk {w w' : Wd} (e : Ext w w') : Wk w w' := ⟨fun _ _ h => e.as_of h, e.nM, fun a o n h => e.keep a o (fun z => n (.inr z)) h⟩
theorem Less.wk {w w' : Wd} (e : Less w w') : Wk w w' := ⟨e.as, fun a o _ n z => n (e.M a z), fun a o _ h => by rw [e.H]; exact h⟩
theorem Wk.rd {w w' : Wd} (e : Wk w w') {a : Addr} {u : HO} (h : Rd w.H a u) (n : ¬ w.M a) : Rd w'.H a u ∧ ¬ w'.M a := by
  rcases h with h | ⟨o, h⟩
  · exact ⟨.inl (e.keep _ _ n h), e.nM _ _ h n⟩
  · exact ⟨.inr ⟨o, e.keep _ _ n h⟩, e.nM _ _ h n⟩
mutual
theorem Rp.wk {G : Gp} {w w' : Wd} (e : Wk w w') : ∀ {v : V} {d : Dv}, Rp G w v d → Rp G w' v d
  | _, _, .non => .non
  | _, _, .bl b => .bl b
  | _, _, .int i => .int i
  | _, _, .str x => .str x
  | _, _, .cls c => .cls c
  | _, _, .tup h r => .tup (by
      rcases h with h | h
      · exact .inl ⟨e.keep _ _ h.2 h.1, e.nM _ _ h.1 h.2⟩
      · exact .inr h) (RpAll.wk e r)
  | _, _, .lst h r => .lst (by
      rcases h with h | h
      · exact .inl (e.rd h.1 h.2)
      · exact .inr h) (RpAll.wk e r)
  | _, _, .obj h => .obj (e.as _ _ h)
  | _, _, .ins h n q r => .ins (e.keep _ _ n h) (e.nM _ _ h n) q (RpAll.wk e r)
  | _, _, .dic h n q r => .dic (e.rd h n).1 (e.rd h n).2 q (RpAll.wk e r)
  | _, _, .dit h n q r => .dit (e.rd h n).1 (e.rd h n).2 q (RpAll.wk e r)
theorem RpAll.wk {G : Gp} {w w' : Wd} (e : Wk w w') : ∀ {vs : List V} {ds : List Dv}, RpAll G w vs ds → RpAll G w' vs ds
  | _, _, .nil => .nil
  | _, _, .cons h r => .cons (Rp.wk e h) (RpAll.wk e r)
end
theorem MOk.wk {G : Gp} {w w' : Wd} (e : Wk w w') {a : Addr} {d : Dv} (hk : w'.H a = w.H a) (h : MOk G w a d) : MOk G w' a d := by
  cases d <;> first | exact h.elim | skip
  · obtain ⟨xs, h, r⟩ := h; exact ⟨xs, hk.trans h, r.wk e⟩
  · obtain ⟨dx, fs', h, q, r⟩ := h; exact ⟨dx, fs', hk.trans h, q, r.wk e⟩
  · obtain ⟨kvs', h, q, r⟩ := h; exact ⟨kvs', hk.trans h, q, r.wk e⟩
  · obtain ⟨kvs', h, q, r⟩ := h; exact ⟨kvs', hk.trans h, q, r.wk e⟩

section
variable {X : Cx} {ξ : Iv} {W : WX} {G : Gp}
/-! ### targets -/
abbrev Bd := Dv → DEnv → Option DEnv
def gD (G : Gp) (ξ : Iv) (sl : List Nat) (b : Bd) : TG := fun v σ H Q => ∃ (w : Wd) (S : Store) (env : DEnv) (d : Dv) (env' : DEnv), w.H = H ∧ SOk G w S ∧ EOk G ξ w σ env ∧ Rp G w v d ∧ b d env = some env' ∧
  ∀ σ', EOk G ξ w σ' env' → (∀ vs : List Nat, (∀ i ∈ sl, i ∈ vs) → wipe σ' vs = wipe σ vs) → Q σ' w.H
def gDs (G : Gp) (ξ : Iv) (sl : List Nat) (b : List Dv → DEnv → Option DEnv) : TGs := fun vs σ H Q => ∃ (w : Wd) (S : Store) (env : DEnv) (ds : List Dv) (env' : DEnv), w.H = H ∧ SOk G w S ∧ EOk G ξ w σ env ∧ RpAll G w vs ds ∧ b ds env = some env' ∧
  ∀ σ', EOk G ξ w σ' env' → (∀ vs : List Nat, (∀ i ∈ sl, i ∈ vs) → wipe σ' vs = wipe σ vs) → Q σ' w.H
def DG (X : Cx) (ξ : Iv) (tg : Expr) (sl : List Nat) (b : Bd) : Prop := PG X tg (gD (gp X) ξ sl b)
def DGs (X : Cx) (ξ : Iv) (tg : List Expr) (sl : List Nat) (b : List Dv → DEnv → Option DEnv) : Prop := PGs X tg (gDs (gp X) ξ sl b)
theorem PG.imp {e : Expr} {t t' : TG} (h : PG X e t) (i : ∀ v σ H Q, t' v σ H Q → t v σ H Q) : PG X e t' := ⟨fun pins s σ H v u Q I r q => h.run pins s σ H v u Q I r (i v σ H Q q)⟩
theorem PGs.imp {e : List Expr} {t t' : TGs} (h : PGs X e t) (i : ∀ v σ H Q, t' v σ H Q → t v σ H Q) : PGs X e t' := ⟨fun pins s σ H v u Q I r q => h.run pins s σ H v u Q I r (i v σ H Q q)⟩
theorem wipe_set {σ : L2.St} {i : Nat} {x y : Option V} : ∀ {vs : List Nat}, i ∈ vs → wipe (σ.set i x) vs = wipe σ vs
  | [], h => by cases h
  | v :: vs, h => by
    show (wipe (σ.set i x) vs).set v none = (wipe σ vs).set v none
    by_cases q : i ∈ vs
    · rw [wipe_set (y := y) q]
    · have e : i = v := by
        rcases List.mem_cons.mp h with z | z
        · exact z
        · exact absurd z q
      subst e
      have c : ∀ ws : List Nat, i ∉ ws → wipe (σ.set i x) ws = (wipe σ ws).set i x := by
        intro ws
        induction ws with
        | nil => intro _; rfl
        | cons u us ih =>
          intro hu
          show (wipe (σ.set i x) us).set u none = ((wipe σ us).set u none).set i x
          rw [ih (fun z => hu (List.mem_cons_of_mem _ z))]
          exact List.set_comm _ _ (fun z => hu (by rw [z]; exact List.mem_cons_self))
      rw [c vs q, List.set_set]
theorem wipe_wipe (σ : L2.St) : ∀ vs us : List Nat, (∀ v ∈ vs, v ∈ us) → wipe (wipe σ vs) us = wipe σ us
  | [], us, _ => rfl
  | v :: vs, us, h => by
    show wipe ((wipe σ vs).set v none) us = _
    rw [wipe_set (y := none) (h v List.mem_cons_self)]
    exact wipe_wipe σ vs us fun z hz => h z (List.mem_cons_of_mem _ hz)
@[simp] def bName (i : Nat) : Bd := fun d env => some (env.set i (some d))
@[simp] def bNil : List Dv → DEnv → Option DEnv := fun ds env => match ds with
  | [] => some env
  | _ => none
@[simp] def bCons (b : Bd) (r : List Dv → DEnv → Option DEnv) : List Dv → DEnv → Option DEnv := fun ds env => match ds with
  | d :: ds => match b d env with
    | some env1 => r ds env1
    | none => none
  | [] => none
@[simp] def bTup (n : Nat) (r : List Dv → DEnv → Option DEnv) : Bd := fun d env => match d with
  | .tup ds => if ds.length = n then r ds env else none
  | _ => none
section
variable {sl sl1 sl2 : List Nat} {b : Bd} {r : List Dv → DEnv → Option DEnv} {e : Expr} {es : List Expr} {pos : Pos}
theorem g_name {i : Nat} {x : Str} (hN : X.N.Nodup) (hi : X.N[i]? = some x := by rfl) (hx : Loc X.env.scope x := by first | exact Or.inl rfl | exact Or.inr rfl) (hf : X.fn x = true ∨ X.env.scope.names.lookup x = some .local := by first | exact .inl rfl | exact .inr rfl | assumption) (hok : ξ.ok i := by first | trivial | decide) : DG X ξ (.Name x pos) [i] (bName i) :=
  PG.imp (pg_name hN hi hx hf) fun v σ H Q ⟨w, S, env, d, env', eH, s, en, rv, hb, q⟩ => by
    subst eH
    cases hb
    exact q _ (en.set hok rv) fun vs hv => wipe_set (y := none) (hv i (by simp))
theorem gs_nil : DGs X ξ [] [] bNil := PGs.imp pgs_nil fun v σ H Q ⟨w, S, env, d, env', eH, s, en, rv, hb, q⟩ => by
  subst eH
  cases rv with
  | nil =>
    cases hb
    exact ⟨rfl, q σ en fun _ _ => rfl⟩
  | cons _ _ => cases hb
theorem gs_cons (h1 : DG X ξ e sl1 b) (h2 : DGs X ξ es sl2 r) (hs : (assignEach (e :: es) X.env).map (·.2) = assign e X.env :: (assignEach es X.env).map (·.2) := by rfl) : DGs X ξ (e :: es) (sl1 ++ sl2) (bCons b r) :=
  PGs.imp (pgs_cons h1 h2 hs) fun v σ H Q ⟨w, S, env, d, env', eH, s, en, rv, hb, q⟩ => by
    subst eH
    cases rv with
    | nil => cases hb
    | @cons v vs d ds hv rr =>
      have hb' : (match b d env with | some env1 => r ds env1 | none => none) = some env' := hb
      cases e1 : b d env with
      | none => rw [e1] at hb'; cases hb'
      | some env1 =>
        rw [e1] at hb'
        refine ⟨v, vs, rfl, w, S, env, d, env1, rfl, s, en, hv, e1, fun σ1 en1 w1 => ⟨w, S, env1, ds, env', rfl, s, en1, rr, hb', fun σ2 en2 w2 => q σ2 en2 fun us hu => ?_⟩⟩
        rw [w2 us fun i hi => hu i (List.mem_append_right _ hi), w1 us fun i hi => hu i (List.mem_append_left _ hi)]
theorem g_tup {k n : Nat} (hc : X.calm = true) (h : DGs X ξ es sl r) (hn : (assignEach es X.env).length = n := by rfl) (hst : (assignEach es X.env).findIdx? (·.1) = none := by rfl) : DG X ξ (.Tuple es k pos) sl (bTup n r) :=
  PG.imp (pg_tup hc h hn hst) fun v σ H Q ⟨w, S, env, d, env', eH, s, en, rv, hb, q⟩ => by
    subst eH
    cases rv with
    | @tup a xs ds ha ra =>
      have hb' : (if ds.length = n then r ds env else none) = some env' := hb
      by_cases z : ds.length = n
      · rw [if_pos z] at hb'
        exact ⟨a, xs, rfl, ha.to, by rw [ra.length]; exact z, w, S, env, ds, env', rfl, s, en, ra, hb', q⟩
      · rw [if_neg z] at hb'; cases hb'
    | _ => cases hb
end
/-! ### list comprehensions -/
@[simp] def wipeD (env : DEnv) : List Nat → DEnv
  | [] => env
  | v :: vs => (wipeD env vs).set v none
theorem EOk.wipe {w : Wd} {σ : L2.St} {env : DEnv} (h : EOk G ξ w σ env) : ∀ vs : List Nat, (∀ v ∈ vs, ξ.ok v) → EOk G ξ w (L2.wipe σ vs) (wipeD env vs)
  | [], _ => h
  | v :: vs, hk => by
    have ih := EOk.wipe h vs fun z hz => hk z (List.mem_cons_of_mem _ hz)
    refine ⟨?_, fun i d q => ?_, ξ.put _ _ _ _ (hk v List.mem_cons_self) ih.inv⟩
    · show ((L2.wipe σ vs).set v none).length = ((wipeD env vs).set v none).length
      simp [ih.len]
    · have q' : ((wipeD env vs).set v none)[i]? = some (some d) := q
      by_cases z : v = i
      · subst z
        rw [List.getElem?_set_self' ] at q'
        cases e : (wipeD env vs)[v]? with
        | none => rw [e] at q'; cases q'
        | some o => rw [e] at q'; cases q'
      · rw [List.getElem?_set_ne z] at q'
        obtain ⟨u, h1, h2⟩ := ih.get i d q'
        exact ⟨u, by show ((L2.wipe σ vs).set v none)[i]? = _; rw [List.getElem?_set_ne z]; exact h1, h2⟩
def compM (b : Bd) (ft : FT) (fe : FE) (env0 : DEnv) : List Dv → List Dv → Mm (List Dv)
  | [], acc => ret acc
  | d :: r, acc => fun S => match b d env0 with
    | none => none
    | some env1 => match ft env1 S with
      | some (.ok false S1) => compM b ft fe env0 r acc S1
      | some (.ok true S1) => match fe env1 S1 with
        | some (.ok y S2) => if acc.length ≤ big then compM b ft fe env0 r (acc ++ [y]) S2 else none
        | _ => none
      | _ => none
@[simp] def fLc (m : Bool) (fi : FI) (own : List Nat) (b : Bd) (ft : FT) (fe : FE) : FE := fun env => bnd (fi env) fun items => bnd (compM b ft fe (wipeD env own) items []) (newL m)
def W0 : WX := fun _ _ _ _ => False
def DTs (X : Cx) (ξ : Iv) (W : WX) (ifs : List Expr) (f : FT) : Prop := PTs X ifs (tDT (gp X) ξ W f)
@[simp] def fYes : FT := fun _ => ret true
theorem PTs.imp {e : List Expr} {t t' : TT} (h : PTs X e t) (i : ∀ σ H Q, t' σ H Q → t σ H Q) : PTs X e t' := ⟨fun pins s σ H Q I q => h.run pins s σ H Q I (i σ H Q q)⟩
theorem ts_nil : DTs X ξ W [] fYes := PTs.imp pts_nil fun σ H Q ⟨w, env, S, res, eH, s, en, h, p⟩ => by
  subst eH
  cases h
  exact p.here s rfl
theorem ts_one {c : Expr} {ft : FT} (h : DT X ξ W c ft) : DTs X ξ W [c] ft := pts_one h
theorem newL_ok {m : Bool} {xs : List Dv} {S : Store} {res : Rs Dv} (h : newL m xs S = some res) : res = .ok (.lst xs) S ∨ (m = true ∧ res = .ok (.obj S.length) (S ++ [.lst xs])) := by
  cases m with
  | false => cases h; exact .inl rfl
  | true => cases h; exact .inr ⟨rfl, rfl⟩
theorem newL_at {m : Bool} {xs : List Dv} {S : Store} {res : Rs Dv} (h : newL m xs S = some res) : (m = false ∧ res = .ok (.lst xs) S) ∨ (m = true ∧ res = .ok (.obj S.length) (S ++ [.lst xs])) := by
  cases m with
  | false => cases h; exact .inl ⟨rfl, rfl⟩
  | true => cases h; exact .inr ⟨rfl, rfl⟩
/-- the state within a comprehension: what is made so far stands at D -/
structure Lcs (G : Gp) (w1 : Wd) (D : Addr) (w2 : Wd) (S2 : Store) (vs : List V) (acc : List Dv) : Prop where
  e : Ext w1 w2
  s : SOk G w2 S2
  m : D ∈ w2.M0
  n : D ∉ w2.as
  h : w2.H D = some (.lst vs)
  r : RpAll G w2 vs acc
theorem Lcs.go {w1 w2 w3 : Wd} {D : Addr} {S2 S3 : Store} {vs : List V} {acc : List Dv} (c : Lcs G w1 D w2 S2 vs acc) (e : Ext w2 w3) (s : SOk G w3 S3) : Lcs G w1 D w3 S3 vs acc :=
  ⟨c.e.trans e, s, e.m0 D c.m, e.na D _ c.h c.n, e.keep D _ c.n c.h, c.r.mono e⟩
theorem Lcs.app {w1 w2 : Wd} {D : Addr} {S2 : Store} {vs : List V} {acc : List Dv} (c : Lcs G w1 D w2 S2 vs acc) (hD : w1.H D = none) {v : V} {y : Dv} (ry : Rp G w2 v y) : Lcs G w1 D (w2.put D (.lst (vs ++ [v]))) S2 (vs ++ [v]) (acc ++ [y]) := by
  have wk : Wk w2 (w2.put D (.lst (vs ++ [v]))) := ⟨fun _ _ h => h, fun _ _ _ n => n, fun a o n h => by
    show upd w2.H D _ a = some o
    rw [upd_ne (fun z => n (by rw [z]; exact .inl c.m))]
    exact h⟩
  refine ⟨⟨c.e.as, c.e.m0, c.e.na, c.e.nM, fun a o n h => ?_⟩, ⟨c.s.nd, c.s.len, fun a ha => ?_, c.s.dj, fun i a d h1 h2 => ?_⟩, c.m, c.n, upd_same, (c.r.wk wk).append (.cons (ry.wk wk) .nil)⟩
  · show upd w2.H D _ a = some o
    rw [upd_ne (ne_of_none h hD)]
    exact c.e.keep a o n h
  · by_cases z : a = D
    · subst z; exact ⟨_, upd_same⟩
    · obtain ⟨o, ho⟩ := c.s.dom a ha
      exact ⟨o, by show upd w2.H D _ a = some o; rw [upd_ne z]; exact ho⟩
  · have z : a ≠ D := fun q => c.n (by rw [← q]; exact List.mem_of_getElem? h1)
    exact (c.s.cont i a d h1 h2).wk wk (upd_ne z)
/-- the list is handed out -/
theorem Lcs.out {w1 w2 : Wd} {σ : L2.St} {D : Addr} {S1 S2 : Store} {vs : List V} {acc : List Dv} {m : Bool} {res : Rs Dv} {Q : VK} (c : Lcs G w1 D w2 S2 vs acc) (s1 : SOk G w1 S1) (hD : w1.H D = none) (hk : newL m acc S2 = some res) (p : PR G W (Rp G) w1 σ res Q) : Q (.ref D) w2.H := by
  have nD : ∀ a ∈ w1.M0, a ≠ D := fun a ha z => by
    obtain ⟨o, ho⟩ := s1.dom a ha
    rw [z, hD] at ho
    cases ho
  rcases newL_at hk with ⟨rfl, rfl⟩ | ⟨rfl, rfl⟩
  · have L : Less w2 ⟨w2.H, w2.as, w2.M0.filter (fun a => decide (a ≠ D))⟩ := ⟨rfl, fun a h => by
      rcases h with h | h
      · exact .inl (List.mem_filter.mp h).1
      · exact .inr h, fun _ _ h => h⟩
    refine p.ok_ (w' := ⟨w2.H, w2.as, w2.M0.filter (fun a => decide (a ≠ D))⟩) ⟨c.e.as, fun a ha => List.mem_filter.mpr ⟨c.e.m0 a ha, decide_eq_true (nD a ha)⟩, c.e.na, fun a o h n z => c.e.nM a o h n (L.M a z), c.e.keep⟩ ?_ ?_
    · exact ⟨c.s.nd, c.s.len, fun a ha => c.s.dom a (List.mem_filter.mp ha).1, fun a ha z => c.s.dj a ha (List.mem_filter.mp z).1, fun i a d h1 h2 => (c.s.cont i a d h1 h2).less L⟩
    · refine .lst (.inl ⟨.inl c.h, ?_⟩) (c.r.less L)
      rintro (z | z)
      · exact of_decide_eq_true (List.mem_filter.mp z).2 rfl
      · exact c.n z
  · have L : Less w2 ⟨w2.H, w2.as ++ [D], w2.M0.filter (fun a => decide (a ≠ D))⟩ := ⟨rfl, fun a h => by
      rcases h with h | h
      · exact .inl (List.mem_filter.mp h).1
      · rcases List.mem_append.mp h with h | h
        · exact .inr h
        · rw [show a = D by simpa using h]; exact .inl c.m, fun n a h => by
      have hn : n < w2.as.length := (List.getElem?_eq_some_iff.mp h).1
      show (w2.as ++ [D])[n]? = some a
      rw [List.getElem?_append_left hn]
      exact h⟩
    refine p.ok_ (w' := ⟨w2.H, w2.as ++ [D], w2.M0.filter (fun a => decide (a ≠ D))⟩) ⟨?_, fun a ha => List.mem_filter.mpr ⟨c.e.m0 a ha, decide_eq_true (nD a ha)⟩, fun a o h n z => ?_, fun a o h n z => c.e.nM a o h n (L.M a z), c.e.keep⟩ ?_ ?_
    · obtain ⟨bs, hb⟩ := c.e.as
      exact ⟨bs ++ [D], by show w2.as ++ [D] = _; rw [hb, List.append_assoc]⟩
    · exact c.e.na a o h n (mem_add z (ne_of_none h hD))
    · refine ⟨?_, ?_, fun a ha => c.s.dom a (List.mem_filter.mp ha).1, fun a ha z => ?_, fun i a d h1 h2 => ?_⟩
      · show (w2.as ++ [D]).Nodup
        rw [List.nodup_append]
        refine ⟨c.s.nd, by simp, fun a ha b hb => ?_⟩
        rw [show b = D by simpa using hb]
        rintro rfl
        exact c.n ha
      · show (w2.as ++ [D]).length = (S2 ++ [Dv.lst acc]).length
        simp [c.s.len]
      · rcases List.mem_append.mp ha with q | q
        · exact c.s.dj a q (List.mem_filter.mp z).1
        · exact of_decide_eq_true (List.mem_filter.mp z).2 (by simpa using q)
      · have h1' : (w2.as ++ [D])[i]? = some a := h1
        by_cases hi : i < w2.as.length
        · rw [List.getElem?_append_left hi] at h1'
          rw [List.getElem?_append_left (by rw [← c.s.len]; exact hi)] at h2
          exact (c.s.cont i a d h1' h2).less L
        · have hi2 : w2.as.length ≤ i := by omega
          rw [List.getElem?_append_right hi2] at h1'
          rw [List.getElem?_append_right (by rw [← c.s.len]; exact hi2)] at h2
          cases hk : i - w2.as.length with
          | zero =>
            rw [hk] at h1'
            rw [← c.s.len, hk] at h2
            simp at h1' h2
            subst h1'; subst h2
            exact ⟨vs, c.h, c.r.less L⟩
          | succ k =>
            rw [hk] at h1'
            simp at h1'
    · refine .obj ?_
      show (w2.as ++ [D])[S2.length]? = some D
      rw [← c.s.len, List.getElem?_append_right (Nat.le_refl _), Nat.sub_self]
      rfl
theorem compM_cons {b : Bd} {ft : FT} {fe : FE} {env0 : DEnv} {d : Dv} {r acc : List Dv} {S : Store} {res : Rs (List Dv)} (h : compM b ft fe env0 (d :: r) acc S = some res) :
    ∃ env1, b d env0 = some env1 ∧ ((∃ S1, ft env1 S = some (.ok false S1) ∧ compM b ft fe env0 r acc S1 = some res) ∨
      ∃ S1 y S2, ft env1 S = some (.ok true S1) ∧ fe env1 S1 = some (.ok y S2) ∧ acc.length ≤ big ∧ compM b ft fe env0 r (acc ++ [y]) S2 = some res) := by
  unfold compM at h
  split at h
  · cases h
  · rename_i env1 e1
    refine ⟨env1, e1, ?_⟩
    split at h
    · rename_i S1 e2
      exact .inl ⟨S1, e2, h⟩
    · rename_i S1 e2
      split at h
      · rename_i y S2 e3
        by_cases z : acc.length ≤ big
        · rw [if_pos z] at h
          exact .inr ⟨S1, y, S2, e2, e3, z, h⟩
        · rw [if_neg z] at h; cases h
      · cases h
    · cases h
theorem compM_ok {b : Bd} {ft : FT} {fe : FE} {env0 : DEnv} : ∀ {items acc : List Dv} {S : Store} {res : Rs (List Dv)}, compM b ft fe env0 items acc S = some res → ∃ ys S2, res = .ok ys S2
  | [], acc, S, res, h => by cases h; exact ⟨acc, S, rfl⟩
  | d :: r, acc, S, res, h => by
    obtain ⟨env1, _, ⟨S1, _, h2⟩ | ⟨S1, y, S2, _, _, _, h2⟩⟩ := compM_cons h
    · exact compM_ok h2
    · exact compM_ok h2
section
variable {tg iter elt : Expr} {ifs : List Expr} {scope : Scope} {own : List (Str × Nat)} {pos : Pos} {fi : FI} {sl : List Nat} {b : Bd} {ft : FT} {fe : FE}
theorem lc_body (m : Bool) (hsl : ∀ i ∈ sl, i ∈ own.map (·.2)) (hok : ∀ v ∈ own.map (·.2), ξ.ok v) : ∀ σ H Q, tD G ξ W (fLc m fi (own.map (·.2)) b ft fe) σ H Q → tLc (tI G ξ W fi) (gD G ξ sl b) (tDT G ξ W0 ft) (tD G ξ W0 fe) (own.map (·.2)) σ H Q := fun σ H Q ⟨w, env, S, res, eH, s, en, h, p⟩ => by
  subst eH
  refine seqR s en h p.px fun items S1 J w1 e1 s1 en1 ok h1 => fun D hD => ?_
  have p1 := p.mono e1 s1
  unfold bnd at h1
  cases hc : compM b ft fe (wipeD env (own.map (·.2))) items [] S1 with
  | none => rw [hc] at h1; cases h1
  | some r1 =>
    rw [hc] at h1
    obtain ⟨ys, Sf, rfl⟩ := compM_ok hc
    have hk : newL m ys Sf = some res := h1
    refine ⟨fun i k H => k = items.length - i ∧ i ≤ items.length ∧ ∃ w2 S2 vs acc, w2.H = H ∧ Lcs G w1 D w2 S2 vs acc ∧ compM b ft fe (wipeD env (own.map (·.2))) (items.drop i) acc S2 = some (.ok ys Sf), ⟨items.length, rfl, Nat.zero_le _, ?_⟩, ?_⟩
    · refine ⟨⟨upd w1.H D (.lst []), w1.as, D :: w1.M0⟩, S1, [], [], rfl, ?_, hc⟩
      have ex : Ext w1 ⟨upd w1.H D (.lst []), w1.as, D :: w1.M0⟩ := ⟨⟨[], by simp⟩, fun a ha => List.mem_cons_of_mem _ ha, fun _ _ _ n => n, fun a o ho n z => by
        rcases z with z | z
        · rcases List.mem_cons.mp z with z | z
          · exact ne_of_none ho hD z
          · exact n (.inl z)
        · exact n (.inr z), fun a o _ ho => by
        show upd w1.H D _ a = some o
        rw [upd_ne (ne_of_none ho hD)]
        exact ho⟩
      refine ⟨ex, ⟨s1.nd, s1.len, fun a ha => ?_, fun a ha z => ?_, fun i a d q1 q2 => ?_⟩, List.mem_cons_self, fun z => s1.fresh hD (.inr z), upd_same, .nil⟩
      · rcases List.mem_cons.mp ha with z | z
        · subst z; exact ⟨_, upd_same⟩
        · obtain ⟨o, ho⟩ := s1.dom a z
          exact ⟨o, by show upd w1.H D _ a = some o; rw [upd_ne (ne_of_none ho hD)]; exact ho⟩
      · rcases List.mem_cons.mp z with z | z
        · subst z; exact s1.fresh hD (.inr ha)
        · exact s1.dj a ha z
      · have q := s1.cont i a d q1 q2
        obtain ⟨o, ho⟩ := q.there
        exact q.mono ex (upd_ne (ne_of_none ho hD))
    · rintro i k H' ⟨rfl, hi, w2, S2, vs, acc, rfl, c, hcm⟩
      obtain ⟨go, stop, yld⟩ := ok w2 S2 c.e c.s
      by_cases hlt : i < items.length
      · refine .inr ⟨go i hlt, fun H' => i + 1 ≤ items.length ∧ ∃ w2 S2 vs acc, w2.H = H' ∧ Lcs G w1 D w2 S2 vs acc ∧ compM b ft fe (wipeD env (own.map (·.2))) (items.drop (i + 1)) acc S2 = some (.ok ys Sf), fun H' hN => ⟨items.length - (i + 1), by omega, rfl, hN.1, hN.2⟩, fun x H' hy => ?_⟩
        have hd : items[i]? = some items[i] := List.getElem?_eq_getElem hlt
        obtain ⟨w3, rfl, e3, s3, rx⟩ := yld i _ x H' hd hy
        rw [List.drop_eq_getElem_cons hlt] at hcm
        obtain ⟨env1, hb, hcases⟩ := compM_cons hcm
        refine ⟨w3, S2, wipeD env (own.map (·.2)), items[i], env1, rfl, s3, ((en1.mono c.e).mono e3).wipe _ hok, rx, hb, fun σ' en' hw => ⟨?_, ?_⟩⟩
        · rw [hw _ hsl]
          exact wipe_wipe σ _ _ fun _ z => z
        · have c3 := c.go e3 s3
          rcases hcases with ⟨S4, hft, hr⟩ | ⟨S4, y, S5, hft, hfe, hl, hr⟩
          · refine ⟨w3, env1, S2, _, rfl, s3, en', hft, fun bv w4 e4 s4 hbv => ?_⟩
            cases hbv
            exact ⟨hlt, w4, S4, vs, acc, rfl, c3.go e4 s4, hr⟩
          · refine ⟨w3, env1, S2, _, rfl, s3, en', hft, fun bv w4 e4 s4 hbv => ?_⟩
            cases hbv
            have c4 := c3.go e4 s4
            refine ⟨w4, env1, S4, _, rfl, s4, en'.mono e4, hfe, fun v w5 e5 s5 rv => ?_⟩
            have c5 := c4.go e5 s5
            exact ⟨vs, c5.h, by rw [c5.r.length]; exact big_lt hl, hlt, _, S5, _, _, rfl, c5.app hD rv, hr⟩
      · have e0 : i = items.length := by omega
        subst e0
        rw [List.drop_length] at hcm
        cases hcm
        exact .inl ⟨stop, c.out s1 hD hk p1⟩
/-- [elt for tg in iter if ..] as a value -/
theorem d_lc (m : Bool) (hc : X.calm = true) (hN : X.N.Nodup) (hi : DI X ξ W tg iter fi) (ok : BlkOk X.N X.env.scope scope own)
    (hg : ∀ (s : Shared) (H : Hp) (C : Addr) (cl : List (Str × Addr)) (fp : List Addr), DG (X.blk s H scope (compEnvC scope cl C X.env) fp) ξ tg sl b)
    (ht : ∀ (s : Shared) (H : Hp) (C : Addr) (cl : List (Str × Addr)) (fp : List Addr), DTs (X.blk s H scope (compEnvC scope cl C X.env) fp) ξ W0 ifs ft)
    (he : ∀ (s : Shared) (H : Hp) (C : Addr) (cl : List (Str × Addr)) (fp : List Addr), DE (X.blk s H scope (compEnvC scope cl C X.env) fp) ξ W0 elt fe)
    (hsl : ∀ i ∈ sl, i ∈ own.map (·.2) := by decide) (hok : ∀ v ∈ own.map (·.2), ξ.ok v := by first | exact (fun _ _ => trivial) | decide) (hs : ∀ x, foldedSetIterable iter X.env x = pure x := by intro _; rfl) :
    DE X ξ W (.ListComp elt [⟨tg, iter, ifs, 0⟩] scope pos) (fLc m fi (own.map (·.2)) b ft fe) :=
  PE.imp (pe_lc (g := gD (gp X) ξ sl b) (tt := tDT (gp X) ξ W0 ft) (te := tD (gp X) ξ W0 fe) hc hN hi ok hg ht he hs) (lc_body m hsl hok)
end
end
end FC

set_option Elab.async false
set_option linter.all false
set_option maxRecDepth 100000
namespace FC
open PySem PySem.Spec L2

inductive Rf where
  | nx (env : DEnv) (S : Store)
  | rt (d : Dv) (S : Store)
  | bk (env : DEnv) (S : Store)
  | ct (env : DEnv) (S : Store)
  | exc (c : Str) (fs : List (Str × Dv)) (env : DEnv) (S : Store)
abbrev FS := DEnv → Store → Option Rf
def PXS (G : Gp) (ξ : Iv) (W : WX) (w : Wd) (c : Str) (fs : List (Str × Dv)) (env' : DEnv) (S' : Store) : Prop :=
  ∀ σ' dd fs' w', Ext w w' → SOk G w' S' → EOk G ξ w' σ' env' → w'.H dd = some (.xd fs') → ¬ w'.M dd → fs'.map Prod.fst = fs.map Prod.fst → RpAll G w' (fs'.map Prod.snd) (fs.map Prod.snd) → W (.ref (G.cA c)) (some dd) σ' w'.H
def PF (G : Gp) (ξ : Iv) (W : WX) (w : Wd) (r : Rf) (D : Ends) : Prop := match r with
  | .nx env' S' => ∀ σ' w', Ext w w' → SOk G w' S' → EOk G ξ w' σ' env' → D.nx σ' w'.H
  | .rt d S' => ∀ v w', Ext w w' → SOk G w' S' → Rp G w' v d → D.rt v w'.H
  | .bk env' S' => ∀ σ' w', Ext w w' → SOk G w' S' → EOk G ξ w' σ' env' → D.bk σ' w'.H
  | .ct env' S' => ∀ σ' w', Ext w w' → SOk G w' S' → EOk G ξ w' σ' env' → D.ct σ' w'.H
  | .exc c fs env' S' => PXS G ξ W w c fs env' S'
def tF (G : Gp) (ξ : Iv) (W : WX) (f : FS) : TS := fun D σ H => ∃ (w : Wd) (env : DEnv) (S : Store) (r : Rf), w.H = H ∧ SOk G w S ∧ EOk G ξ w σ env ∧ f env S = some r ∧ PF G ξ W w r D
def DS (X : Cx) (ξ : Iv) (W : WX) (st : Stmt) (f : FS) : Prop := PS X st (tF (gp X) ξ W f)
def DSs (X : Cx) (ξ : Iv) (W : WX) (st : List Stmt) (f : FS) : Prop := PSs X st (tF (gp X) ξ W f)
section
variable {X : Cx} {ξ : Iv} {W : WX} {G : Gp} {w w1 : Wd} {σ : L2.St} {S S1 : Store} {D : Ends}
theorem PXS.mono {c : Str} {fs : List (Str × Dv)} {env' : DEnv} {S' : Store} (e : Ext w w1) (h : PXS G ξ W w c fs env' S') : PXS G ξ W w1 c fs env' S' :=
  fun σ' dd fs' w' e' s' en hd hm hn hr => h σ' dd fs' w' (e.trans e') s' en hd hm hn hr
theorem PF.mono {r : Rf} (e : Ext w w1) (h : PF G ξ W w r D) : PF G ξ W w1 r D := by
  cases r with
  | nx env' S' => exact fun σ' w' e' s' en => h σ' w' (e.trans e') s' en
  | rt d S' => exact fun v w' e' s' rv => h v w' (e.trans e') s' rv
  | bk env' S' => exact fun σ' w' e' s' en => h σ' w' (e.trans e') s' en
  | ct env' S' => exact fun σ' w' e' s' en => h σ' w' (e.trans e') s' en
  | exc c fs env' S' => exact PXS.mono e h
/-- an expression within a statement: its value, then the rest -/
@[simp] def sBnd {α : Type} (f : DEnv → Mm α) (k : α → FS) : FS := fun env S => match f env S with
  | none => none
  | some (.exc c fs S') => some (.exc c fs env S')
  | some (.ok a S') => k a env S'
def PFx (G : Gp) (ξ : Iv) (W : WX) (w : Wd) (r : Rf) : Prop := match r with
  | .exc c fs env' S' => PXS G ξ W w c fs env' S'
  | _ => True
theorem PF.px {r : Rf} (h : PF G ξ W w r D) : PFx G ξ W w r := by
  cases r <;> first | exact h | exact True.intro
theorem seqS {α β : Type} {R : Wd → β → α → Prop} {f : DEnv → Mm α} {k : α → FS} {env : DEnv} {r : Rf} (s : SOk G w S) (en : EOk G ξ w σ env) (hr : sBnd f k env S = some r) (px : PFx G ξ W w r) {Q : β → Hp → Prop}
    (K : ∀ a S1 v w1, Ext w w1 → SOk G w1 S1 → EOk G ξ w1 σ env → R w1 v a → k a env S1 = some r → Q v w1.H) : tG G ξ W R f σ w.H Q := by
  unfold sBnd at hr
  cases h : f env S with
  | none => rw [h] at hr; cases hr
  | some r1 =>
    rw [h] at hr
    refine ⟨w, env, S, r1, rfl, s, en, h, ?_⟩
    cases r1 with
    | exc c fs S' =>
      cases hr
      exact fun dd fs' w' e' s' hd hm hn hq => px σ dd fs' w' e' s' (en.mono e') hd hm hn hq
    | ok a S' => exact fun v w' e s' q => K a S' v w' e s' (en.mono e) q hr
/-! ### the statements -/
@[simp] def sNext : FS := fun env S => some (.nx env S)
@[simp] def sSeq (f g : FS) : FS := fun env S => match f env S with
  | some (.nx env1 S1) => g env1 S1
  | r => r
theorem ss_nil : DSs X ξ W [] sNext := PSs.imp pss_nil fun D σ H ⟨w, env, S, r, eH, s, en, h, p⟩ => by
  subst eH
  cases h
  exact p σ w (Ext.refl w) s en
theorem ss_one {st : Stmt} {f : FS} (h : DS X ξ W st f) : DSs X ξ W [st] f := pss_one h
theorem ss_cons {st : Stmt} {rest : List Stmt} {f g : FS} (h1 : DS X ξ W st f) (h2 : DSs X ξ W rest g) : DSs X ξ W (st :: rest) (sSeq f g) :=
  PSs.imp (pss_cons h1 h2) fun D σ H ⟨w, env, S, r, eH, s, en, h, p⟩ => by
    subst eH
    unfold sSeq at h
    cases q : f env S with
    | none => rw [q] at h; cases h
    | some r1 =>
      rw [q] at h
      refine ⟨w, env, S, r1, rfl, s, en, q, ?_⟩
      cases r1 with
      | nx env1 S1 => exact fun σ1 w1 e1 s1 en1 => ⟨w1, env1, S1, r, rfl, s1, en1, h, p.mono e1⟩
      | rt d S1 => cases h; exact p
      | bk env1 S1 => cases h; exact p
      | ct env1 S1 => cases h; exact p
      | exc c fs env1 S1 => cases h; exact p
theorem s_pass {pos : Pos} : DS X ξ W (.Pass pos) sNext := PS.imp ps_pass fun D σ H ⟨w, env, S, r, eH, s, en, h, p⟩ => by
  subst eH
  cases h
  exact p σ w (Ext.refl w) s en
theorem s_doc {x j pos pos'} : DS X ξ W (.Expr (.Constant (.str x) j pos) pos') sNext := PS.imp ps_doc fun D σ H ⟨w, env, S, r, eH, s, en, h, p⟩ => by
  subst eH
  cases h
  exact p σ w (Ext.refl w) s en
@[simp] def sBreak : FS := fun env S => some (.bk env S)
@[simp] def sCont : FS := fun env S => some (.ct env S)
theorem s_break {pos : Pos} : DS X ξ W (.Break pos) sBreak := PS.imp ps_break fun D σ H ⟨w, env, S, r, eH, s, en, h, p⟩ => by
  subst eH
  cases h
  exact p σ w (Ext.refl w) s en
theorem s_cont {pos : Pos} : DS X ξ W (.Continue pos) sCont := PS.imp ps_continue fun D σ H ⟨w, env, S, r, eH, s, en, h, p⟩ => by
  subst eH
  cases h
  exact p σ w (Ext.refl w) s en
def sExpr (fe : FE) : FS := sBnd fe fun _ => sNext
def sRet (fe : FE) : FS := sBnd fe fun d _ S => some (.rt d S)
@[simp] def sRetN : FS := fun _ S => some (.rt .non S)
def sIf (ft : FT) (f g : FS) : FS := sBnd ft fun c => if c = true then f else g
def sAsg (fe : FE) (b : Bd) : FS := sBnd fe fun d env S => match b d env with
  | some env' => some (.nx env' S)
  | none => none
theorem s_expr {e : Expr} {fe : FE} {pos : Pos} (he : DE X ξ W e fe) (hs : swapsWith e none pos.line X.env = pure false := by rfl) : DS X ξ W (.Expr e pos) (sExpr fe) := PS.imp (ps_expr he hs) fun D σ H ⟨w, env, S, r, eH, s, en, h, p⟩ => by
  subst eH
  refine seqS s en h p.px fun d S1 v w1 e1 s1 en1 r1 h1 => ?_
  cases h1
  exact p σ w1 e1 s1 en1
theorem s_ret {e : Expr} {fe : FE} {pos : Pos} (he : DE X ξ W e fe) : DS X ξ W (.Return (some e) pos) (sRet fe) := PS.imp (ps_ret he) fun D σ H ⟨w, env, S, r, eH, s, en, h, p⟩ => by
  subst eH
  refine seqS s en h p.px fun d S1 v w1 e1 s1 en1 r1 h1 => ?_
  cases h1
  exact p v w1 e1 s1 r1
theorem s_retN {pos : Pos} : DS X ξ W (.Return none pos) sRetN := PS.imp ps_retN fun D σ H ⟨w, env, S, r, eH, s, en, h, p⟩ => by
  subst eH
  cases h
  exact p .non w (Ext.refl w) s .non
theorem s_if {c : Expr} {a b : List Stmt} {ft : FT} {f g : FS} {pos : Pos} (hc : DT X ξ W c ft) (ha : DSs X ξ W a f) (hb : DSs X ξ W b g) : DS X ξ W (.If c a b pos) (sIf ft f g) := PS.imp (ps_if hc ha hb) fun D σ H ⟨w, env, S, r, eH, s, en, h, p⟩ => by
  subst eH
  refine seqS s en h p.px fun d S1 v w1 e1 s1 en1 r1 h1 => ?_
  cases (show v = d from r1)
  cases d with
  | true => exact ⟨w1, env, S1, r, rfl, s1, en1, h1, p.mono e1⟩
  | false => exact ⟨w1, env, S1, r, rfl, s1, en1, h1, p.mono e1⟩
theorem asg_body {fe : FE} {sl : List Nat} {b : Bd} : ∀ D σ H, tF G ξ W (sAsg fe b) D σ H → tAsg (tD G ξ W fe) (gD G ξ sl b) D σ H := fun D σ H ⟨w, env, S, r, eH, s, en, h, p⟩ => by
  subst eH
  refine seqS s en h p.px fun d S1 v w1 e1 s1 en1 r1 h1 => ?_
  cases q : b d env with
  | none => rw [q] at h1; cases h1
  | some env' =>
    rw [q] at h1
    cases h1
    exact ⟨w1, S1, env, d, env', rfl, s1, en1, r1, q, fun σ' en' _ => p σ' w1 e1 s1 en'⟩
theorem s_asg {tg e : Expr} {fe : FE} {sl : List Nat} {b : Bd} {pos : Pos} (he : DE X ξ W e fe) (hg : DG X ξ tg sl b) (hs : swapsWithSole [tg] e pos.line X.env = pure false := by rfl) (hw : swappedStores [tg] e X.env = pure none := by rfl)
    (h1 : (assignEach [tg] X.env).map (·.2) = [assign tg X.env] := by rfl) : DS X ξ W (.Assign [tg] e pos) (sAsg fe b) := PS.imp (ps_asg he hg hs hw h1) (asg_body (sl := sl))
/-- x = e -/
theorem s_set {i : Nat} {x : Str} {e : Expr} {fe : FE} {pos pos' : Pos} (hN : X.N.Nodup) (he : DE X ξ W e fe) (hi : X.N[i]? = some x := by rfl) (hx : Loc X.env.scope x := by first | exact Or.inl rfl | exact Or.inr rfl) (hs : swapsWith e (some (.Name x pos')) pos.line X.env = pure false := by rfl)
    (hf : X.fn x = true ∨ X.env.scope.names.lookup x = some .local := by first | exact .inl rfl | exact .inr rfl | assumption) (hok : ξ.ok i := by first | trivial | decide) : DS X ξ W (.Assign [.Name x pos'] e pos) (sAsg fe (bName i)) := PS.imp (ps_set hN hi hx he hs hf) fun D σ H h => by
  have q := asg_body (sl := [i]) (b := bName i) D σ H h
  obtain ⟨w, env, S, r, eH, s, en, h, p⟩ := h
  subst eH
  refine seqS s en h p.px fun d S1 v w1 e1 s1 en1 r1 h1 => ?_
  cases h1
  exact p _ w1 e1 s1 (en1.set hok r1)
/-- x = [..] -/
theorem s_setLc {i : Nat} {y : Str} {py : Pos} {tg iter elt : Expr} {ifs : List Expr} {scope : Scope} {own : List (Str × Nat)} {pos spos : Pos} {fi : FI} {sl : List Nat} {b : Bd} {ft : FT} {fe : FE}
    (m : Bool) (hc : X.calm = true) (hN : X.N.Nodup) (hsw : swapsWith (.ListComp elt [⟨tg, iter, ifs, 0⟩] scope pos) (some (.Name y py)) spos.line X.env = pure true) (hi : DI X ξ W tg iter fi) (ok : BlkOk X.N X.env.scope scope own)
    (hg : ∀ (s : Shared) (H : Hp) (C : Addr) (cl : List (Str × Addr)) (fp : List Addr), DG (X.blk s H scope (compEnvC scope cl C X.env) fp) ξ tg sl b)
    (ht : ∀ (s : Shared) (H : Hp) (C : Addr) (cl : List (Str × Addr)) (fp : List Addr), DTs (X.blk s H scope (compEnvC scope cl C X.env) fp) ξ W0 ifs ft)
    (he : ∀ (s : Shared) (H : Hp) (C : Addr) (cl : List (Str × Addr)) (fp : List Addr), DE (X.blk s H scope (compEnvC scope cl C X.env) fp) ξ W0 elt fe)
    (hsl : ∀ i ∈ sl, i ∈ own.map (·.2) := by decide) (hy : X.N[i]? = some y := by rfl) (hyl : X.env.scope.names.lookup y = some .local := by rfl) (hoki : ξ.ok i := by first | trivial | decide) (hok : ∀ v ∈ own.map (·.2), ξ.ok v := by first | exact (fun _ _ => trivial) | decide) (hs : ∀ x, foldedSetIterable iter X.env x = pure x := by intro _; rfl) :
    DS X ξ W (.Assign [.Name y py] (.ListComp elt [⟨tg, iter, ifs, 0⟩] scope pos) spos) (sAsg (fLc m fi (own.map (·.2)) b ft fe) (bName i)) :=
  PS.imp (ps_setLc (g := gD (gp X) ξ sl b) (tt := tDT (gp X) ξ W0 ft) (te := tD (gp X) ξ W0 fe) hc hN hy hyl hsw hi ok hg ht he hs) fun D σ H h => by
    obtain ⟨w, env, S, r, eH, s, en, h, p⟩ := h
    subst eH
    have q : tD (gp X) ξ W (fLc m fi (own.map (·.2)) b ft fe) σ w.H (fun x H1 => gName i x σ H1 D.nx) := seqS s en h p.px fun d S1 v w1 e1 s1 en1 r1 h1 => by
      cases h1
      exact p _ w1 e1 s1 (en1.set hoki r1)
    exact lc_body m hsl hok σ w.H _ q
/-- x += e -/
def sAug (i : Nat) (o : DOp) (fe : FE) : FS := fun env S => match (env[i]?).join with
  | some d => sBnd (fun env => bnd (fe env) fun y => o d y) (fun z env S => some (.nx (env.set i (some z)) S)) env S
  | none => none
theorem join_at {env : DEnv} {i : Nat} {d : Dv} (h : (env[i]?).join = some d) : env[i]? = some (some d) := by
  cases z : env[i]? with
  | none => rw [z] at h; cases h
  | some o => rw [z] at h; cases o with
    | none => cases h
    | some d' => cases h; rfl
theorem s_aug {i : Nat} {x : Str} {op : Operator} {e : Expr} {fe : FE} {ti : TIp} {o : DOp} {pos pos' : Pos} (hN : X.N.Nodup) (he : DE X ξ W e fe) (hp : PIp X op ti) (hd : OpD (gp X) ti o) (hi : X.N[i]? = some x := by rfl) (hx : X.env.scope.names.lookup x = some .local := by rfl)
    (hok : ξ.ok i := by first | trivial | decide) (hq : PS X (.AugAssign (.Name x pos') op e pos) (tAug i (tD (gp X) ξ W fe) ti)) : DS X ξ W (.AugAssign (.Name x pos') op e pos) (sAug i o fe) := PS.imp hq fun D σ H ⟨w, env, S, r, eH, s, en, h, p⟩ => by
  subst eH
  unfold sAug at h
  cases q : (env[i]?).join with
  | none => rw [q] at h; cases h
  | some d =>
    rw [q] at h
    obtain ⟨v, h1, h2⟩ := en.get i d (join_at q)
    refine ⟨v, h1, ?_⟩
    have h' : sBnd (fun env => bnd (fe env) fun y => o d y) (fun z env S => some (.nx (env.set i (some z)) S)) env S = some r := h
    unfold sBnd at h'
    cases h3 : fe env S with
    | none => unfold bnd at h'; simp only [h3] at h'; cases h'
    | some r1 =>
      refine ⟨w, env, S, r1, rfl, s, en, h3, ?_⟩
      unfold bnd at h'
      simp only [h3] at h'
      cases r1 with
      | exc c fs S' =>
        cases h'
        exact fun dd fs' w' e' s' hd hm hn hq => p σ dd fs' w' e' s' (en.mono e') hd hm hn hq
      | ok y S1 =>
        intro u w1 e1 s1 ru
        dsimp only at h'
        cases h4 : o d y S1 with
        | none => rw [h4] at h'; cases h'
        | some r2 =>
          rw [h4] at h'
          refine hd W w1 σ S1 v u d y r2 _ s1 (h2.mono e1) ru h4 ?_
          cases r2 with
          | exc c fs S' =>
            cases h'
            exact fun dd fs' w' e' s' hd hm hn hq => p σ dd fs' w' (e1.trans e') s' ((en.mono e1).mono e') hd hm hn hq
          | ok z S2 =>
            cases h'
            exact fun v2 w2 e2 s2 r2 => p _ w2 (e1.trans e2) s2 (((en.mono e1).mono e2).set hok r2)
/-! ### loops -/
def forM' (b : Bd) (fb : FS) : List Dv → FS
  | [], env, S => some (.nx env S)
  | d :: r, env, S => match b d env with
    | none => none
    | some env1 => match fb env1 S with
      | some (.nx env2 S2) => forM' b fb r env2 S2
      | some (.ct env2 S2) => forM' b fb r env2 S2
      | some (.bk env2 S2) => some (.nx env2 S2)
      | r => r
def sFor (fi : FI) (b : Bd) (fb : FS) : FS := sBnd fi fun items => forM' b fb items
theorem s_for {tg iter : Expr} {body : List Stmt} {fi : FI} {sl : List Nat} {b : Bd} {fb : FS} {pos : Pos} (hp : PassesOwn (model X.prog X.w) X.A X.env X.xe) (hc : X.calm = true) (hi : DI X ξ W tg iter fi) (hg : DG X ξ tg sl b) (hb : DSs X ξ W body fb)
    (hs : ∀ x, foldedSetIterable iter X.env x = pure x := by intro _; rfl) : DS X ξ W (.For tg iter body [] pos) (sFor fi b fb) := PS.imp (ps_for hp hc hi hg hb hs) fun D σ H ⟨w, env, S, r, eH, s, en, h, p⟩ => by
  subst eH
  refine seqS s en h p.px fun items S1 J w1 e1 s1 en1 ok h1 => ?_
  have p1 := p.mono e1
  refine ⟨fun i k σ' H' => k = items.length - i ∧ i ≤ items.length ∧ ∃ w2 S2 env2, w2.H = H' ∧ Ext w1 w2 ∧ SOk (gp X) w2 S2 ∧ EOk (gp X) ξ w2 σ' env2 ∧ forM' b fb (items.drop i) env2 S2 = some r, ⟨items.length, rfl, Nat.zero_le _, w1, S1, env, rfl, Ext.refl _, s1, en1, h1⟩, ?_⟩
  rintro i k σ' H' ⟨rfl, hi, w2, S2, env2, rfl, e2, s2, en2, hf⟩
  obtain ⟨go, stop, yld⟩ := ok w2 S2 e2 s2
  by_cases hlt : i < items.length
  · refine .inr ⟨go i hlt, fun σ' H' => i + 1 ≤ items.length ∧ ∃ w2 S2 env2, w2.H = H' ∧ Ext w1 w2 ∧ SOk (gp X) w2 S2 ∧ EOk (gp X) ξ w2 σ' env2 ∧ forM' b fb (items.drop (i + 1)) env2 S2 = some r, fun σ' H' hN => ⟨items.length - (i + 1), by omega, rfl, hN.1, hN.2⟩, fun x H' hy => ?_⟩
    have hd : items[i]? = some items[i] := List.getElem?_eq_getElem hlt
    obtain ⟨w3, rfl, e3, s3, rx⟩ := yld i _ x H' hd hy
    rw [List.drop_eq_getElem_cons hlt] at hf
    unfold forM' at hf
    split at hf
    · cases hf
    · rename_i env1 hb1
      refine ⟨w3, S2, env2, items[i], env1, rfl, s3, en2.mono e3, rx, hb1, fun σ3 en3 _ => ?_⟩
      have e13 := e2.trans e3
      cases h4 : fb env1 S2 with
      | none => rw [h4] at hf; cases hf
      | some r4 =>
        rw [h4] at hf
        refine ⟨w3, env1, S2, r4, rfl, s3, en3, h4, ?_⟩
        cases r4 with
        | nx env5 S5 => exact fun σ5 w5 e5 s5 en5 => ⟨hlt, w5, S5, env5, rfl, e13.trans e5, s5, en5, hf⟩
        | ct env5 S5 => exact fun σ5 w5 e5 s5 en5 => ⟨hlt, w5, S5, env5, rfl, e13.trans e5, s5, en5, hf⟩
        | bk env5 S5 =>
          cases hf
          exact fun σ5 w5 e5 s5 en5 => p1 σ5 w5 (e13.trans e5) s5 en5
        | rt d5 S5 =>
          cases hf
          exact fun v w5 e5 s5 r5 => p1 v w5 (e13.trans e5) s5 r5
        | exc c fs env5 S5 =>
          cases hf
          exact PXS.mono e13 p1
  · have e0 : i = items.length := by omega
    subst e0
    rw [List.drop_length] at hf
    cases hf
    exact .inl ⟨stop, p1 σ' w2 e2 s2 en2⟩
def whileM (ft : FT) (fb : FS) : Nat → FS
  | 0, _, _ => none
  | n + 1, env, S => match ft env S with
    | none => none
    | some (.exc c fs S') => some (.exc c fs env S')
    | some (.ok false S') => some (.nx env S')
    | some (.ok true S') => match fb env S' with
      | some (.nx env2 S2) => whileM ft fb n env2 S2
      | some (.ct env2 S2) => whileM ft fb n env2 S2
      | some (.bk env2 S2) => some (.nx env2 S2)
      | r => r
def sWhile (n : Nat) (ft : FT) (fb : FS) : FS := whileM ft fb n
theorem s_while {c : Expr} {body : List Stmt} {ft : FT} {fb : FS} {pos : Pos} (n : Nat) (hp : PassesOwn (model X.prog X.w) X.A X.env X.xe) (hc : DT X ξ W c ft) (hb : DSs X ξ W body fb) : DS X ξ W (.While c body [] pos) (sWhile n ft fb) := PS.imp (ps_while hp hc hb) fun D σ H ⟨w, env, S, r, eH, s, en, h, p⟩ => by
  subst eH
  refine ⟨fun k σ' H' => ∃ w2 S2 env2, w2.H = H' ∧ Ext w w2 ∧ SOk (gp X) w2 S2 ∧ EOk (gp X) ξ w2 σ' env2 ∧ whileM ft fb k env2 S2 = some r, ⟨n, w, S, env, rfl, Ext.refl _, s, en, h⟩, ?_⟩
  rintro k σ' H' ⟨w2, S2, env2, rfl, e2, s2, en2, hf⟩
  cases k with
  | zero => cases hf
  | succ k =>
    unfold whileM at hf
    cases h3 : ft env2 S2 with
    | none => rw [h3] at hf; cases hf
    | some r3 =>
      rw [h3] at hf
      refine ⟨w2, env2, S2, r3, rfl, s2, en2, h3, ?_⟩
      cases r3 with
      | exc c fs S' =>
        cases hf
        exact fun dd fs' w' e' s' hd hm hn hq => p σ' dd fs' w' (e2.trans e') s' (en2.mono e') hd hm hn hq
      | ok b S3 =>
        intro bv w3 e3 s3 hbv
        cases (show bv = b from hbv)
        cases b with
        | false =>
          cases hf
          exact p σ' w3 (e2.trans e3) s3 (en2.mono e3)
        | true =>
          refine ⟨fun σ5 H5 => ∃ w2 S2 env2, w2.H = H5 ∧ Ext w w2 ∧ SOk (gp X) w2 S2 ∧ EOk (gp X) ξ w2 σ5 env2 ∧ whileM ft fb k env2 S2 = some r, fun σ5 H5 hN => ⟨k, Nat.lt_succ_self _, hN⟩, ?_⟩
          have e13 := e2.trans e3
          cases h4 : fb env2 S3 with
          | none => simp only [h4] at hf; cases hf
          | some r4 =>
            simp only [h4] at hf
            refine ⟨w3, env2, S3, r4, rfl, s3, en2.mono e3, h4, ?_⟩
            cases r4 with
            | nx env5 S5 => exact fun σ5 w5 e5 s5 en5 => ⟨w5, S5, env5, rfl, e13.trans e5, s5, en5, hf⟩
            | ct env5 S5 => exact fun σ5 w5 e5 s5 en5 => ⟨w5, S5, env5, rfl, e13.trans e5, s5, en5, hf⟩
            | bk env5 S5 =>
              cases hf
              exact fun σ5 w5 e5 s5 en5 => p σ5 w5 (e13.trans e5) s5 en5
            | rt d5 S5 =>
              cases hf
              exact fun v w5 e5 s5 r5 => p v w5 (e13.trans e5) s5 r5
            | exc c fs env5 S5 =>
              cases hf
              exact PXS.mono e13 p
end
end FC

set_option Elab.async false
set_option linter.all false
set_option maxRecDepth 100000
namespace FC
open PySem PySem.Spec L2
open PyProof.Rows (envOfC)
section
variable {X : Cx} {ξ : Iv} {W : WX} {G : Gp}
/-! ### stores to named lists -/
@[simp] def setIx (o i v : Dv) (S : Store) : Option Store := match o, i with
  | .obj n, .int k => match S[n]? with
    | some (.lst ds) => match ixN ds.length k with
      | some j => some (S.set n (.lst (ds.set j v)))
      | none => none
    | _ => none
  | _, _ => none
def sSetIx (fo fi fe : FE) : FS := sBnd fe fun v => sBnd fo fun o => sBnd fi fun i => fun env S => match setIx o i v S with
  | some S' => some (.nx env S')
  | none => none
theorem s_setIx {o i e : Expr} {fo fi fe : FE} {pos pos' : Pos} (he : DE X ξ W e fe) (ho : DE X ξ W o fo) (hi : DE X ξ W i fi)
    (ha : ∀ v, assign (.Subscript o i pos') X.env v = (do
      let ov ← holding [v] (eval o X.env)
      let iv ← holding [v, ov] (eval i X.env)
      standAt pos'
      holding [v, ov, iv] (setItem ov iv v)
      release [v, ov, iv] []) := by intro _; rfl) (hs : swapsWithSole [.Subscript o i pos'] e pos.line X.env = pure false := by rfl) (hw : swappedStores [.Subscript o i pos'] e X.env = pure none := by rfl)
    (h1 : (assignEach [.Subscript o i pos'] X.env).map (·.2) = [assign (.Subscript o i pos') X.env] := by rfl) :
    DS X ξ W (.Assign [.Subscript o i pos'] e pos) (sSetIx fo fi fe) := PS.imp (ps_asg he (pg_sub ho hi set_list ha) hs hw h1) fun D σ H ⟨w, env, S, r, eH, s, en, h, p⟩ => by
  subst eH
  refine seqS s en h p.px fun d S1 v w1 e1 s1 en1 r1 h1 => seqS s1 en1 h1 (p.mono e1).px fun o S2 ov w2 e2 s2 en2 r2 h2 => seqS s2 en2 h2 (p.mono (e1.trans e2)).px fun i S3 iv w3 e3 s3 en3 r3 h3 => ?_
  cases q : setIx o i d S3 with
  | none => rw [q] at h3; cases h3
  | some S4 =>
    rw [q] at h3
    cases h3
    unfold setIx at q
    split at q
    · rename_i n k
      split at q
      · rename_i ds hS
        split at q
        · rename_i j hj
          cases q
          cases r3
          cases r2.mono e3 with
          | obj ha =>
            rename_i a
            obtain ⟨xs, hx, rx⟩ := s3.cont n a _ ha hS
            refine ⟨a, xs, k, j, rfl, rfl, hx, by rw [rx.length]; exact hj, ?_⟩
            have e4 : Ext w3 (w3.put a (.lst (xs.set j v))) := .upd ha
            have s4 : SOk (gp X) (w3.put a (.lst (xs.set j v))) (S3.set n (.lst (ds.set j d))) := s3.upd ha ⟨_, upd_same, (rx.mono e4).set (((r1.mono e2).mono e3).mono e4) j⟩
            exact p σ (w3.put a (.lst (xs.set j v))) (((e1.trans e2).trans e3).trans e4) s4 (en3.mono e4)
        · cases q
      · cases q
    · cases q
/-- a method of a named list -/
@[simp] def isL (o : Dv) (S : Store) : Option Nat := match o with
  | .obj n => match S[n]? with
    | some (.lst _) => some n
    | _ => none
  | _ => none
theorem isL_ok {w : Wd} {S : Store} {v : V} {o : Dv} {n : Nat} (s : SOk G w S) (r : Rp G w v o) (h : isL o S = some n) : o = .obj n ∧ ∃ a xs ds, v = .ref a ∧ w.as[n]? = some a ∧ S[n]? = some (.lst ds) ∧ w.H a = some (.lst xs) ∧ RpAll G w xs ds := by
  unfold isL at h
  split at h
  · rename_i m
    split at h
    · rename_i ds e
      cases h
      cases r with
      | obj ha =>
        obtain ⟨xs, h1, h2⟩ := s.cont _ _ _ ha e
        exact ⟨rfl, _, xs, ds, rfl, ha, e, h1, h2⟩
    · cases h
  · cases h
@[simp] def fMeth1 (k : Nat → List Dv → Mm Dv) (fo : FE) (fa : FA) : FE := fun env => bnd (fo env) fun o S => match isL o S with
  | some n => bnd (fa env) (k n) S
  | none => none
def MethD (G : Gp) (r : V → List V → Hp → VK → Prop) (k : Nat → List Dv → Mm Dv) : Prop := ∀ (W : WX) (w : Wd) (σ : L2.St) (S : Store) (a : Addr) (n : Nat) (xs : List V) (ds : List Dv) (res : Rs Dv) (Q : VK), SOk G w S → w.as[n]? = some a → RpAll G w xs ds → k n ds S = some res → PR G W (Rp G) w σ res Q → r (.ref a) xs w.H Q
theorem meth1_body {r : V → List V → Hp → VK → Prop} {k : Nat → List Dv → Mm Dv} {fo : FE} {fa : FA} (hd : MethD G r k) : ∀ σ H Q, tD G ξ W (fMeth1 k fo fa) σ H Q → tBM G.K "list" r (tD G ξ W fo) (tDA G ξ W fa) σ H Q := fun σ H Q ⟨w, env, S, res, eH, s, en, h, p⟩ => by
  subst eH
  refine seqR s en h p.px fun x S1 v w1 e1 s1 en1 r1 h1 => ?_
  cases q : isL x S1 with
  | none => rw [q] at h1; cases h1
  | some n =>
    rw [q] at h1
    obtain ⟨rfl, a, xs, ds, rfl, ha, hS, hx, rx⟩ := isL_ok s1 r1 q
    refine ⟨.inl ⟨rfl, xs, SqL.of hx⟩, ?_⟩
    exact seqR s1 en1 h1 (p.px.mono e1 s1) fun ys S2 us w2 e2 s2 en2 r2 h2 => hd W w2 σ S2 a n us ys res Q s2 (e2.as_of ha) r2 h2 (p.mono (e1.trans e2) s2)
@[simp] def appK (n : Nat) (ds : List Dv) : Mm Dv := fun S => match ds, S[n]? with
  | [y], some (.lst xs) => if xs.length ≤ big then some (.ok .non (S.set n (.lst (xs ++ [y])))) else none
  | _, _ => none
theorem md_app : MethD G rAppend appK := by
  intro W w σ S a n xs ds res Q s ha r h p
  unfold appK at h
  split at h
  · rename_i y zs hS
    by_cases z : zs.length ≤ big
    · rw [if_pos z] at h
      cases h
      obtain ⟨v, rfl, hv⟩ := rp1 r
      obtain ⟨us, hx, rx⟩ := s.cont n a _ ha hS
      have e4 : Ext w (w.put a (.lst (us ++ [v]))) := .upd ha
      exact ⟨a, us, v, rfl, rfl, hx, by rw [rx.length]; exact big_lt z, p.ok_ (w' := w.put a (.lst (us ++ [v]))) e4 (s.upd ha ⟨_, upd_same, (rx.mono e4).append (.cons (hv.mono e4) .nil)⟩) .non⟩
    · rw [if_neg z] at h; cases h
  · cases h
theorem d_append {o a : Expr} {fo : FE} {fa : FA} {apos cpos : Pos} (ho : DE X ξ W o fo) (ha : DA X ξ W [a] fa)
    (hbase : attributeBase o "append" X.env (eval o X.env) = eval o X.env := by rfl)
    (hfew : ((backTo cpos (starEach [a] X.env)).all (fun x => !x.1) && (backToKw cpos (keywordEach [] X.env)).all (fun x => x.1.isSome)
      && decide ([a].length + ([] : List Keyword).length + (if ([] : List Keyword).isEmpty then 0 else 1) < 30)) = true := by rfl)
    (hline : (apos.endLine == cpos.line) = true := by rfl) (hs : starEach [a] X.env = (false, eval a X.env) :: starEach [] X.env := by rfl) (hplain : (backTo cpos (starEach [] X.env)).any (·.1) = false := by rfl) :
    DE X ξ W (.Call (.Attribute o "append" apos) [a] [] cpos) (fMeth1 appK fo fa) :=
  PE.imp (pe_bm PySem.F.plainAttrs_list PySem.F.slot_list_append PySem.F.type_list_append mt_append ho ha hbase hfew hline hs hplain) (meth1_body md_app)
end
/-! ### defs -/
abbrev DFn := List Dv → Mm Dv
/-- what the def answers, as data -/
def spD (K : PySem.W.Frag) (mg : Str → Option Value) (n : Nat) (F : DFn) : Sp := fun vs H Q E => vs.length = n ∧ ∃ (w : Wd) (S : Store) (ds : List Dv) (r : Rs Dv), w.H = H ∧ SOk ⟨K, cOf mg⟩ w S ∧ RpAll ⟨K, cOf mg⟩ w vs ds ∧ F ds S = some r ∧
  PR ⟨K, cOf mg⟩ (fun cls d _ H => E cls d H) (Rp ⟨K, cOf mg⟩) w [] r Q
@[simp] def bodyF (n : Nat) (fb : FS) : DFn := fun ds S => match fb (ds.map some ++ List.replicate (n - ds.length) none) S with
  | some (.nx _ S') => some (.ok .non S')
  | some (.rt d S') => some (.ok d S')
  | some (.exc c fs _ S') => some (.exc c fs S')
  | _ => none
section
variable {X : Cx} {ξ : Iv} {W : WX} {G : Gp}
theorem start_ok {w : Wd} {N : List Str} {vs : List V} {ds : List Dv} (r : RpAll G w vs ds) : EOk G Iv.no w (L2.start N vs) (ds.map some ++ List.replicate (N.length - ds.length) none) := by
  have hl := r.length
  refine ⟨by unfold L2.start; simp [hl], fun i d h => ?_, True.intro⟩
  by_cases hi : i < ds.length
  · rw [List.getElem?_append_left (by simpa using hi), List.getElem?_map] at h
    cases e : ds[i]? with
    | none => rw [e] at h; cases h
    | some d' =>
      rw [e] at h
      cases h
      obtain ⟨v, h1, h2⟩ := r.get e
      refine ⟨v, ?_, h2⟩
      unfold L2.start
      rw [List.getElem?_append_left (by simp; omega), List.getElem?_map, h1]
      rfl
  · rw [List.getElem?_append_right (by simp; omega), List.getElem?_replicate] at h
    split at h <;> cases h
/-- the wish of a def's body -/
abbrev WD (E : XK) : WX := fun cls d _ H => E cls d H
variable {P : Program} {w0 : World} {K : PySem.W.Frag} {mg : Str → Option Value} {base : Heap}
theorem fn_ok {x qual : Str} {st : Stmt} {f : Addr} {fd : FuncData} {N ps : List Str} {k : Nat} {fb : FS} (F : Fun K x qual st f fd) (S : FnScope N ps (defScope st))
    (hbody : ∀ (cdv : Value) (A : Around) (outer : List Env) (s : Shared) (H : Hp) (E : XK), Room k (A.deeper (envOfC qual (defScope st) s.heap.objs.size f cdv)) →
      DSs (cxOf (L2.CX P w0) P w0 K mg base N qual (defScope st) f cdv A outer s H E) Iv.no (WD E) (defBody st) fb) :
    FnOk P w0 K mg base (L2.CX P w0) (k + 1) f fd ps (spD K mg ps.length (bodyF N.length fb)) := by
  refine F.okX S (fun vs H Q E h => h.1) fun cdv A outer s H vs Q E hr h => ⟨_, hbody cdv A outer s H E hr, ?_⟩
  obtain ⟨hl, w, S, ds, r, eH, hs, rv, hF, p⟩ := h
  unfold bodyF at hF
  cases hb : fb (ds.map some ++ List.replicate (N.length - ds.length) none) S with
  | none => rw [hb] at hF; cases hF
  | some r1 =>
    rw [hb] at hF
    refine ⟨w, _, S, r1, eH, hs, start_ok rv, hb, ?_⟩
    cases r1 with
    | nx env' S' =>
      cases hF
      exact fun σ' w' e s' _ => p .non w' e s' .non
    | rt d S' =>
      cases hF
      exact fun v w' e s' rv => p v w' e s' rv
    | exc c fs env' S' =>
      cases hF
      exact fun σ' dd fs' w' e s' _ hd hm hn hr => p dd fs' w' e s' hd hm hn hr
    | bk _ _ => cases hF
    | ct _ _ => cases hF
/-- another word for what is answered -/
theorem fn_as {f : Addr} {fd : FuncData} {ps : List Str} {k n : Nat} {F F' : DFn} (h : FnOk P w0 K mg base (L2.CX P w0) k f fd ps (spD K mg n F)) (e : ∀ ds S r, ds.length = n → F' ds S = some r → F ds S = some r) : FnOk P w0 K mg base (L2.CX P w0) k f fd ps (spD K mg n F') :=
  h.imp fun vs H Q E ⟨hl, w, S, ds, r, eH, hs, rv, hF, p⟩ => ⟨hl, w, S, ds, r, eH, hs, rv, e ds S r (by rw [← rv.length]; exact hl) hF, p⟩
/-- f(e, ..) -/
theorem d_call {f : Addr} {fd : FuncData} {ps : List Str} {k : Nat} {F : DFn} {x : Str} {e : Expr} {es : List Expr} {p pos : Pos} {fa : FA} (hF : FnOk X.prog X.w X.K X.mg X.base (L2.CX X.prog X.w) k f fd ps (spD X.K X.mg ps.length F)) (hr : Room k X.A) (hm : X.mg x = some (.ref f)) (hk : PySem.W.keepIn X.K (.ref f) = true) (hb : Binds X.K fd ps []) (tk : Takes X W)
    (ha : DA X ξ W (e :: es) fa) (hn : (e :: es).length = ps.length) (hg : Gl X x := by rfl) (hdb : (x == ("__debug__" : Str)) = false := by decide) (he : starEach (e :: es) X.env = (false, eval e X.env) :: starEach es X.env := by rfl) (hpl : (backTo pos (starEach es X.env)).any (·.1) = false := by rfl) :
    DE X ξ W (.Call (.Name x p) (e :: es) [] pos) (fCall (fun ds => if ds.length = ps.length then F ds else stuck) fa) :=
  PE.imp (pe_callS hF hr hg hm hk hb (fun σ => passAt tk σ) ha hdb he hpl) fun σ H Q ⟨w, env, S, res, eH, s, en, h, p⟩ => by
    subst eH
    refine seqR s en h p.px fun ds S1 vs w1 e1 s1 en1 r1 h1 => ?_
    by_cases z : ds.length = ps.length
    · rw [if_pos z] at h1
      refine ⟨by rw [r1.length]; exact z, w1, S1, ds, res, rfl, s1, r1, h1, ?_⟩
      have p1 := p.mono e1 s1
      cases res with
      | ok d S' => exact p1
      | exc c fs S' => exact fun dd fs' w' e s' hd hm hn hr => p1 dd fs' w' e s' hd hm hn hr
    · rw [if_neg z] at h1; cases h1
end
end FC

set_option Elab.async false
set_option linter.all false
set_option maxRecDepth 100000
set_option maxHeartbeats 2000000
namespace PySem
namespace SupX
open PySem.W PySem.Calls PyProof.Rows PySem.HandSPX
abbrev sArgs (fld : Str) (p1 p2 : Pos) : Arguments := { posonlyargs := [], args := [{ arg := "self", annotation := none, pos := p1 }, { arg := fld, annotation := none, pos := p2 }], vararg := none, kwonlyargs := [], kw_defaults := [], kwarg := none, defaults := [] }
abbrev sBody (fld : Str) (msg : Str) (a1 a2 a3 a4 a5 a6 q1 q2 q3 q4 : Pos) : List Stmt :=
  [.Expr (.Call (.Attribute (.Call (.Name "super" a1) [] [] a2) "__init__" a3) [.Constant (.str msg) 0 a4] [] a5) a6,
   .Assign [.Attribute (.Name "self" q1) fld q2] (.Name fld q3) q4]
abbrev sScope (fld : Str) : Scope := { kind := .function, names := [(PySem.Str.ofString "self", .local), (fld, .local), (PySem.Str.ofString "__class__", .free), (PySem.Str.ofString "super", .globalImplicit)], isGenerator := false, isCoroutine := false, more := [] }
/-- what the written part says of the class at C, its __init__ at fI -/
structure SupTxt (P : Program) (K : Frag) (mg : Str → Option Value) (name fld : Str) (C fI : Addr) : Prop where
  gC : mg name = some (.ref C)
  cls : ∃ nm q N bs bm sn sub ab col dd k0 k1 k2 k3 k5, K.lookup C = some (excClassObj nm q C N bs bm true sn sub ab col dd k0 k1 k2 k3 k5 "ValueError.__new__") ∧ refsVE bm = true
  sa : findIn K (.ref C) "__setattr__" = some (some (.builtin "object.__setattr__"))
  ga : findIn K (.ref C) "__getattribute__" = some (some (.builtin "BaseException.__getattribute__"))
  gg : findIn K (.ref C) "__getattr__" = some none
  noN : findIn K (.ref C) fld = some none
  iC : findIn K (.ref C) "__init__" = some (some (.ref fI))
  tC : typeIn K (.ref fI) = some (.type "function")
  kC : keepIn K (.ref C) = true
  exC : subIn K (.ref C) (.type "BaseException") = some true
  vC : subIn K (.ref C) (.type "ValueError") = some true
  tyC : typeIn K (.ref C) = some (.type "type")
  hdC : hasDictIn K C = true
  opq : nsIn K cStatics "thirdparty.any" = some none
  spI : ks_superIn K C C "__init__" = some (some (.builtin "ValueError.__init__"))
  spN : mg "super" = none
  top : (P.main.scope.names.lookup ("super" : Str)).isSome = false
  l1 : (sScope fld).names.lookup fld = some .local
  l2 : (sScope fld).names.lookup ("super" : Str) = some .globalImplicit
  l3 : (sScope fld).names.lookup ("__class__" : Str) = some .free
  l4 : (fld == ("__debug__" : Str)) = false
  l5 : (("self" : Str) == fld) = false
  fn : ∃ (qual msg : Str) (oc : Value) (od : Option Addr) (doc pm : Value) (an : Option Addr) (cda cc : Addr) (ct : Value) (osl : Array (Option Value)) (p1 p2 a1 a2 a3 a4 a5 a6 q1 q2 q3 q4 : Pos) (ccl cl : Value) (cdd cld : Option Addr) (vs : Array Value) (ccs csl : Array (Option Value)) (file : Str) (tf : Tok),
    K.lookup fI = some ⟨oc, od, .func (ksFn "__init__" qual (sArgs fld p1 p2) (sBody fld msg a1 a2 a3 a4 a5 a6 q1 q2 q3 q4) (sScope fld) .none .none doc pm an (.ref cda) ct cc), osl⟩ ∧ codeIn K (.ref cda) qual = true ∧
    K.lookup cda = some ⟨ccl, cdd, .fields vs, ccs⟩ ∧ vs[2]? = some (.str file tf) ∧ ((P.main.file : Str) == file) = true ∧ K.lookup cc = some ⟨cl, cld, .cell (some (.ref C)), csl⟩ ∧
    (∀ u v : Value, bindArgs (ksFn "__init__" qual (sArgs fld p1 p2) (sBody fld msg a1 a2 a3 a4 a5 a6 q1 q2 q3 q4) (sScope fld) .none .none doc pm an (.ref cda) ct cc) ⟨[u, v], []⟩ = pure [(PySem.Str.ofString "self", u), (fld, v)]) ∧
    ∃ pl : Sem Bool, ∀ L : Addr, eval (.Call (.Attribute (.Call (.Name "super" a1) [] [] a2) "__init__" a3) [.Constant (.str msg) 0 a4] [] a5) (ksEnv qual (sScope fld) L fI (.ref cda) cc) = (do
      let ov ← attributeBase (.Call (.Name "super" a1) [] [] a2) "__init__" (ksEnv qual (sScope fld) L fI (.ref cda) cc) (eval (.Call (.Name "super" a1) [] [] a2) (ksEnv qual (sScope fld) L fI (.ref cda) cc))
      standAt a3.atName
      let (f, first) ← holding [ov] (getMethod ov "__init__" pl)
      callWith a5 f first (backTo a5 (starEach [.Constant (.str msg) 0 a4] (ksEnv qual (sScope fld) L fI (.ref cda) cc))) [])
section
variable {prog : Program} {w : World} {A : Around} {E : Value → Shared → Prop} {h : Heap} {g : Array GenState} {d : Drawn} {t : Nat} {os : OsState}
variable {nm q : Str} {C N : Addr} {bs bm : List Value} {hdct : Bool} {sn : List Str} {sub : List Value} {ab : Bool} {col : Option Bool} {dd : Option Addr} {k0 k1 k2 k3 k5 : Option Value}
/-- the bound ValueError.__init__ called -/
theorem call_mw {u e t0 : Addr} {rest : List Value} {Q : Value → Shared → Prop}
    (hC : h.get? C = some (excClassObj nm q C N bs bm hdct sn sub ab col dd k0 k1 k2 k3 k5 "ValueError.__new__")) (he : h.get? e = some (HandSPX.excO C t0)) (hu : h.get? u = some (kxs_mw "ValueError.__init__" e)) (hrest : rest.length ≤ sizeLine)
    (hq : ∀ h' t1, (∀ b o, b ≠ e → h.get? b = some o → h'.get? b = some o) → h'.get? e = some (HandSPX.excO C t1) → Q .none ⟨h', g, d, t, os⟩) :
    wpAny (model prog w) A (call (.ref u) rest) Q E ⟨h, g, d, t, os⟩ := by
  refine wpAny_call (codeAny_of_tree ?_)
  show wpAny _ A.in1 (callAny (.ref u) ⟨rest, []⟩) _ _ _
  simp only [callAny]
  refine wpAny_bind (wpAny_load hu ?_)
  simp only [kxs_mw, show (Value.type "method-wrapper" == Value.type "method" || Value.type "method-wrapper" == Value.type "builtin_function_or_method" || Value.type "method-wrapper" == Value.type "method-wrapper") = true by decide, if_true]
  refine W.KFB.if_so (by decide) ?_
  refine wpAny_bind (ESX.check_bound F.excBase_ValueError hC he rfl ?_)
  refine wpAny_bind (wpAny_pure (wpAny_pure ?_))
  refine ⟨Code.quiet_builtin _ (by decide +kernel), codeAny_builtin F.excBase_ValueError.initEntry ?_⟩
  rw [Around.under_plainId F.excBase_ValueError.init.plain _]
  wp_walk
  refine hq _ h.objs.size (fun b o hb ho => ?_) ?_
  · rw [Heap.get?_update_other _ _ (Ne.symm hb)]
    exact Heap.get?_push_of_some _ ho
  · rw [Heap.get?_update_self _ (Heap.get?_push_of_some _ he) rfl]
    rfl
end
theorem callWith1 {M : Model} {A : Around} {E : Value → Shared → Prop} {s : Shared} {i : String} {u x : Addr} {pos : Pos} {env : Env} {e : Expr} {Q : Value → Shared → Prop}
    (h : wpAny M A (spliced (backTo pos (starEach [e] env))) (fun vs s₁ => KxsAt i u x s₁.heap ∧ wpAny M A (call (.ref u) vs) Q E s₁) E s)
    (he : starEach [e] env = [(false, eval e env)]) :
    wpAny M A (callWith pos (.ref u) [] (backTo pos (starEach [e] env)) []) Q E s := by
  rw [he] at h ⊢
  refine kxs_callWith (i := i) (x := x) rfl ?_
  exact evalArgs_plain h
theorem kept_but {K : Frag} {h h' : Heap} {x : Addr} (X : K.In h) (hx : K.lookup x = none) (k : ∀ b o, b ≠ x → h.get? b = some o → h'.get? b = some o) : K.In h' := fun a o e =>
  k a o (fun z => by rw [z, hx] at e; cases e) (X a o e)
/-- what __init__ leaves of a fresh exception at x -/
structure InitEnd (h h' : Heap) (fld : Str) (x C dx t1 : Addr) (v : Value) : Prop where
  keep : ∀ b o, b ≠ x → h.get? b = some o → h'.get? b = some o
  obj : h'.get? x = some { cls := .ref C, dict := some dx, data := .fields #[.ref t1, .none, .none, .none, .bool false, .none] }
  dbig : h.objs.size ≤ dx
  dne : dx ≠ x
  ns : h'.Ns1 dx (fun y => if y = fld then some v else none)
/-- a made exception -/
structure OwnMade (h h' : Heap) (fld : Str) (e C d : Addr) (v : Value) : Prop where
  keep : ∀ b o, h.get? b = some o → h'.get? b = some o
  new : h.objs.size ≤ e
  obj : ∃ oe vs, h'.get? e = some oe ∧ oe.cls = .ref C ∧ oe.dict = some d ∧ oe.data = .fields vs ∧ vs[1]? = some .none
  dbig : h.objs.size ≤ d
  dne : d ≠ e
  ns : h'.Ns1 d (fun y => if y = fld then some v else none)
section
variable {prog : Program} {w : World} {A : Around} {E : Value → Shared → Prop} {R : Result → Shared → Prop} {s : Shared} {K : Frag} {mg mb : Str → Option Value} {name fld : Str} {C fI : Addr}
theorem sup_init (T : SupTxt prog K mg name fld C fI) {x t0 : Addr} {v : Value} (X : K.In s.heap) (hG : s.heap.Ns mainGlobals mg) (hB : s.heap.Ns builtinsNs mb) (hb : ∀ x : Str, x ≠ "__name__" → mb x = bootBuiltins x) (hlim : s.heap.NoLimit) (hx : s.heap.get? x = some (excO C t0)) (hnx : K.lookup x = none) (hroom : A.depth < recursionLimit)
    (hq : ∀ h' tk dx t1, InitEnd s.heap h' fld x C dx t1 v → R (.ok (.ret .none)) { s with heap := h', toks := tk }) :
    codeAny (model prog w) A (.call (.ref fI) ⟨[.ref x, v], []⟩) R s := by
  obtain ⟨qual, msg, oc, od, doc, pm, an, cda, cc, ct, osl, p1, p2, a1, a2, a3, a4, a5, a6, q1, q2, q3, q4, ccl, cl, cdd, cld, vs, ccs, csl, file, tf, ho, hcd, hcode, hvs, hfile, hcell, hbind, pl, hev⟩ := T.fn
  obtain ⟨nm, q, N, bs, bm, sn, sub, ab, col, dd, k0, k1, k2, k3, k5, hC, hbm⟩ := T.cls
  have hcl : clsIn K C = some { name := nm, bases := bs, mro := .ref C :: bm, ns := N, qualname := q, hasDict := true, slotNames := sn, subclasses := sub, abstract := ab, collection := col, hasDel := false } := by unfold clsIn; rw [hC] <;> rfl
  have lself : (sScope fld).names.lookup ("self" : Str) = some .local := by rfl
  have lfld := T.l1
  have lsup := T.l2
  have lcls := T.l3
  have hxL : s.heap.objs.size ≠ x := Nat.ne_of_gt (Heap.lt_size hx)
  refine ks_codeAny_call_defAt (binds := [(PySem.Str.ofString "self", .ref x), (fld, v)]) hroom (X _ _ ho) rfl hlim (codeRec_of X hcd) rfl (BindsTo.of_eq (hbind _ _)) (fun y hy => ?_) (fun y hy => ?_) (fun h₁ hn k => ?_) rfl rfl rfl
  · have hy' : y = (PySem.Str.ofString "self", NameKind.local) ∨ y = (fld, NameKind.local) ∨ y = (PySem.Str.ofString "__class__", NameKind.free) ∨ y = (PySem.Str.ofString "super", NameKind.globalImplicit) := by simpa using hy
    rcases hy' with e | e | e | e <;> (rw [e]; intro z; cases z)
  · have hy' : y = (PySem.Str.ofString "self", Value.ref x) ∨ y = (fld, v) := by simpa using hy
    rcases hy' with e | e
    · rw [e]; exact lself
    · rw [e]; exact lfld
  · have X₁ : K.In h₁ := X.keeps k
    have hx₁ := k _ _ hx
    have hC₁ := X₁ _ _ hC
    have mself : (fun y => List.lookup y [(PySem.Str.ofString "self", Value.ref x), (fld, v)].reverse) ("self" : Str) = some (.ref x) := by
      show List.lookup ("self" : Str) [(fld, v), (PySem.Str.ofString "self", Value.ref x)] = _
      rw [List.lookup_cons, show ((PySem.Str.ofString "self") == fld) = false from T.l5]
      rfl
    have mfld : (fun y => List.lookup y [(PySem.Str.ofString "self", Value.ref x), (fld, v)].reverse) fld = some v := by
      show List.lookup fld [(fld, v), (PySem.Str.ofString "self", Value.ref x)] = _
      rw [List.lookup_cons, beq_self_eq_true]
    show _root_.PySem.wpAt _ _ _ (execs (sBody fld msg a1 a2 a3 a4 a5 a6 q1 q2 q3 q4) (ksEnv qual (sScope fld) s.heap.objs.size fI (.ref cda) cc)) _ _ _
    refine ks_wpAt_execs_cons (ks_wpAt_Expr_any (ks_wpAt_MethodCall ?_ (hev _)) (by rfl) (by rfl))
    refine ks_wpAt_super_base (env := ksEnv qual (sScope fld) s.heap.objs.size fI (.ref cda) cc) lsup lcls (by decide) rfl (X₁ _ _ ho) rfl rfl rfl (X₁ _ _ hcode) rfl hvs hfile T.top ?_
    refine ks_loadName_global rfl lsup (loadGlobal_builtin (env := ksEnv qual (sScope fld) s.heap.objs.size fI (.ref cda) cc) (hG.keeps k) T.spN (hB.keeps k) ((hb "super" (by decide)).trans (by decide +kernel)) ⟨rfl, ?_⟩)
    refine wpAny_loadName_free rfl lcls rfl ⟨_, X₁ _ _ hcell, rfl⟩ ?_
    refine wpAny_loadName_local rfl lself hn mself ?_
    refine ks_wpAny_isType_cls hC₁ rfl ⟨rfl, ?_⟩
    have hsub : mroIn K C (.ref C) = some true := by
      unfold mroIn
      rw [hcl, Option.bind_some]
      simp
    refine ks_wpAny_call_super hC₁ rfl hx₁ rfl (fun c e => nomatch e) (looks_mroIn X₁ hsub) (fun h₂ e₂ k₂ => ?_)
    have X₂ : K.In h₂ := X₁.keeps k₂
    have hx₂ := k₂ _ _ hx₁
    have I₂ : InstAt h₂ x (excO C t0) C none := ⟨hx₂, rfl, rfl, trivial⟩
    have hf : alongIn K "__init__" (((Value.ref C :: bm).dropWhile (· != .ref C)).drop 1) = some (some (.builtin "ValueError.__init__")) := by
      have q := T.spI
      unfold ks_superIn at q
      rw [hcl] at q
      exact q
    have hne : x ≠ C := ks_ne X₂ I₂ hcl
    refine kxs_getMethod kxs_ValueError (so := h₁.objs.size) (D := C) e₂ (looks_opaque X₂ T.opq) (l₀ := .ref C :: bm) (fun A Q E s k q => wpAny_bind ((looks_clsIn X₂ hcl) A _ E s k (wpAny_pure q))) rfl X₂ hf (I₂.type.andThen (looks_subIn X₂ T.vC)) hne (by decide) ?_
    refine callWith1 (i := "ValueError.__init__") (x := x) ?_ rfl
    show wpAny _ _ (spliced ((false, eval (.Constant (.str msg) 0 a4) (ksEnv qual (sScope fld) s.heap.objs.size fI (.ref cda) cc)) :: backTo a5 [])) _ _ _
    refine Calls.spliced_cons (Calls.Constant_str (Calls.spliced_nil ⟨?_, ?_⟩))
    · exact Heap.get?_push_at rfl rfl
    · have k₃ : ∀ b o, h₂.get? b = some o → (h₂.push (kxs_mw "ValueError.__init__" x)).get? b = some o := fun b o e => Heap.get?_push_of_some _ e
      have X₃ : K.In (h₂.push (kxs_mw "ValueError.__init__" x)) := X₂.keeps k₃
      refine call_mw (t0 := t0) (X₃ _ _ hC) (k₃ _ _ hx₂) (Heap.get?_push_at rfl rfl) (by rw [sizeLine_eq]; exact (by decide : 1 ≤ 16777216)) fun h₄ t1 k₄ hx₄ => ?_
      have X₄ : K.In h₄ := kept_but X₃ hnx k₄
      have old : ∀ b o, b ≠ x → s.heap.get? b = some o → h₄.get? b = some o := fun b o hb e => k₄ b o hb (k₃ b o (k₂ b o (k b o e)))
      have hn₄ : h₄.Ns s.heap.objs.size fun y => List.lookup y [(PySem.Str.ofString "self", Value.ref x), (fld, v)].reverse := by
        obtain ⟨oL, es, ep, hL, r⟩ := hn
        exact ⟨oL, es, ep, k₄ _ _ hxL (k₃ _ _ (k₂ _ _ hL)), r⟩
      refine ks_wpAt_execs_cons (ks_wpAt_Assign_Attr ?_ (by rfl))
      refine wpAt_of_wpAny (wpAny_Name (wpAny_loadName_local rfl lfld hn₄ mfld ?_) T.l4)
      refine wpAny_Name (wpAny_loadName_local rfl lself hn₄ mself ?_) (by decide)
      refine set_plain X₄ (ox := excO C t1) (od := none) ⟨hx₄, rfl, rfl, trivial⟩ T.sa ?_
      refine exc_osa X₄ hx₄ hcl (show refsVE (.ref C :: bm) = true from hbm) rfl T.noN (fun h₅ tk₅ dx k₅ dn dne hx₅ hn₅ => ?_)
      refine wpAt_of_wpAny (wpAny_execs_nil ?_)
      refine hq h₅ tk₅ dx t1 ⟨fun b o hb e => k₅ b o hb (old b o hb e), hx₅, ?_, dne, hn₅⟩
      obtain ⟨oL, es, ep, hL, _⟩ := hn₄
      exact Nat.le_trans (Nat.le_of_lt (Heap.lt_size hL)) dn
theorem sup_made (T : SupTxt prog K mg name fld C fI) {v : Value} (X : K.In s.heap) (hG : s.heap.Ns mainGlobals mg) (hB : s.heap.Ns builtinsNs mb) (hb : ∀ x : Str, x ≠ "__name__" → mb x = bootBuiltins x) (hlim : s.heap.NoLimit) (hroom : A.depth + 1 < recursionLimit)
    (hq : ∀ h' tk e d, OwnMade s.heap h' fld e C d v → R (.ok (.ret (.ref e))) { s with heap := h', toks := tk }) :
    codeAny (model prog w) A (.call (.ref C) ⟨[v], []⟩) R s := by
  obtain ⟨nm, q, N, bs, bm, sn, sub, ab, col, dd, k0, k1, k2, k3, k5, hC, hbm⟩ := T.cls
  obtain ⟨hp, g, dr, tk, os⟩ := s
  have k : ∀ b o, hp.get? b = some o → ((hp.push (kdv_tup [v])).push (excO C hp.objs.size)).get? b = some o := fun b o e => Heap.get?_push_of_some _ (Heap.get?_push_of_some _ e)
  have hget : ((hp.push (kdv_tup [v])).push (excO C hp.objs.size)).get? (hp.objs.size + 1) = some (excO C hp.objs.size) := by heap_get
  have hnx : K.lookup (hp.objs.size + 1) = none := by
    cases e : K.lookup (hp.objs.size + 1) with
    | none => rfl
    | some o =>
      have z : hp.get? (hp.objs.size + 1) = some o := X _ _ e
      exact absurd (Nat.lt_of_succ_lt (Heap.lt_size z)) (Nat.lt_irrefl _)
  refine call_own F.excBase_ValueError (fun X => refsVE_contains X bm hbm) (X _ _ hC) (looks_findIn X T.iC) (fun self => bind_fn X self T.tC) (by rw [sizeLine_eq]; exact (by decide : 1 ≤ 16777216)) ?_
  refine sup_init (s := ⟨(hp.push (kdv_tup [v])).push (excO C hp.objs.size), g, dr, tk, os⟩) T (X.keeps k) (hG.keeps k) (hB.keeps k) hb (hlim.keeps k) hget hnx ?_ fun h' tk' dx t1 ⟨k', hx, dn, dne, hns⟩ => ?_
  · show A.depth + 1 < recursionLimit
    exact hroom
  · have old : ∀ b o, hp.get? b = some o → h'.get? b = some o := fun b o e => k' b o (Nat.ne_of_lt (Nat.lt_succ_of_lt (Heap.lt_size e))) (k b o e)
    have z : hp.objs.size + 1 + 1 ≤ dx := by
      first
        | (simpa only [Heap.size_push] using dn)
        | exact dn
        | (have q := dn; rw [Heap.size_push, Heap.size_push] at q; exact q)
    exact ⟨rfl, hq h' tk' (hp.objs.size + 1) dx ⟨old, Nat.le_succ _, ⟨_, _, hx, rfl, rfl, rfl, rfl⟩, Nat.le_trans (Nat.le_trans (Nat.le_succ _) (Nat.le_succ _)) z, dne, hns⟩⟩
end
end SupX
end PySem

set_option Elab.async false
set_option linter.all false
set_option maxRecDepth 100000
set_option maxHeartbeats 2000000
namespace FC
open PySem PySem.Spec L2
open PySem.SupX (SupTxt)
theorem relO_one {v : V} {v' : Value} {fld : Str} (r : RelV v v') (f : Str) : RelO (List.lookup f [(fld, v)]) (if f = fld then some v' else none) := by
  by_cases hw : f = fld
  · subst hw
    rw [if_pos rfl]
    have q : List.lookup f [(f, v)] = some v := by simp [List.lookup]
    rw [q]
    exact r
  · rw [if_neg hw]
    have qw : (f == fld) = false := by simpa using hw
    have q2 : List.lookup f [(fld, v)] = none := by simp [List.lookup, qw]
    rw [q2]
    trivial
section
variable {X : Cx} {ξ : Iv} {W : WX} {G : Gp} {name fld : Str} {C fI : Addr}
def tMkSup (C : Addr) (fld : Str) (ta : TA) : L2.St → Hp → XK → Prop := fun σ H Q => ta σ H fun vs H1 => ∃ v, vs = [v] ∧ ∀ d, H1 d = none → Q (.ref C) (some d) (upd H1 d (.xd [(fld, v)]))
theorem pmk_sup {a : Expr} {ta : TA} {p pos : Pos} {k : Nat} (T : SupTxt X.prog X.K X.mg name fld C fI) (hr : Room k X.A) (ha : PA X [a] ta) (hg : Gl X name := by rfl) (hdb : (name == ("__debug__" : Str)) = false := by decide)
    (he : starEach (a :: []) X.env = (false, eval a X.env) :: starEach [] X.env := by rfl) (hpl : (backTo pos (starEach [] X.env)).any (·.1) = false := by rfl) :
    PMk X (.Call (.Name name p) [a] [] pos) (tMkSup C fld ta) := by
  intro pins s σ H Q I h
  refine wpAny_Call_Name_kw (ld_glob I hg T.gC ?_ hdb)
  refine PySem.W.callWith_K (h₀ := X.base) I.ok.mod.kin T.kC (thn (ha.run pos pins s σ H _ I h) fun us s1 hh => ?_) he hpl
  obtain ⟨vs, H1, I1, r1, v, ev, q1⟩ := hh
  subst ev
  refine ⟨I1.kIn, ?_⟩
  cases r1 with
  | cons rv rn =>
    rename_i v' us'
    cases rn
    show wpAny _ _ (call (.ref C) [v']) _ _ _
    have hlim := I1.nolimit
    obtain ⟨mb, hb1, hb2⟩ := I1.mod.blt
    have hG : s1.heap.Ns mainGlobals X.mg := I1.mod.glob.keeps I1.bk
    have hB : s1.heap.Ns builtinsNs mb := hb1.keeps I1.bk
    obtain ⟨hp, g, d, t, os⟩ := s1
    refine wpAny_call (PySem.SupX.sup_made T I1.kIn hG hB hb2 hlim (by have := hr.dp; omega) fun h' tk' e d M => ?_)
    show MkP X pins σ Q (.ref e) ⟨h', g, _, tk', os⟩
    obtain ⟨oe, fv, hoe, hc, hd, hdat, h1⟩ := M.obj
    have hns := M.ns
    obtain ⟨G', g1, g2⟩ := restrict h' fun b => decide (b ≠ e)
    have gk : ∀ b, b ≠ e → G'.get? b = h'.get? b := fun b hb => g1 b (decide_eq_true hb)
    have ge : G'.get? e = none := g2 e (by simp)
    have old : ∀ b o, hp.get? b = some o → G'.get? b = some o := fun b o q => (gk b (Nat.ne_of_lt (Nat.lt_of_lt_of_le (Heap.lt_size q) M.new))).trans (M.keep b o q)
    have ob : ObjOk X.prog X.w (upd H1 d (.xd [(fld, v)])) G' d (.xd [(fld, v)]) :=
      ⟨_, hns.at (fun o q => (gk d M.dne).trans q), fun f => relO_one rv f⟩
    have J : Inv X pins σ (upd H1 d (.xd [(fld, v)])) ⟨G', g, _, tk', os⟩ := I1.laid (t' := tk') old M.dbig ob
    refine ⟨e, oe, fv, ⟨G', g, _, tk', os⟩, _, .ref C, some d, rfl, J, fun b o q => ?_, ge, hoe, ⟨hc, hd⟩, hdat, h1, ?_, rfl, I1.bare, raises_own T.exC T.tyC, q1 d (I1.hok.fresh M.dbig)⟩
    · by_cases hb : b = e
      · have q' : G'.get? b = some o := q
        rw [hb, ge] at q'; cases q'
      · exact (gk b hb).symm.trans q
    · rw [upd_ne (Ne.symm M.dne)]
      exact I1.hok.fresh M.new
/-- raise C(e) -/
def sRaise (name : Str) (flds : List Str) (fa : FA) : FS := sBnd fa fun ds env S => if ds.length = flds.length then some (.exc name (flds.zip ds) env S) else none
theorem s_raise1 {a : Expr} {fa : FA} {p pos pos2 : Pos} {k : Nat} (hc : X.calm = true) (T : SupTxt X.prog X.K X.mg name fld C fI) (hr : Room k X.A) (tk : Takes X W) (ha : DA X ξ W [a] fa) (hg : Gl X name := by rfl) (hdb : (name == ("__debug__" : Str)) = false := by decide)
    (he : starEach (a :: []) X.env = (false, eval a X.env) :: starEach [] X.env := by rfl) (hpl : (backTo pos (starEach [] X.env)).any (·.1) = false := by rfl) :
    DS X ξ W (.Raise (some (.Call (.Name name p) [a] [] pos)) none pos2) (sRaise name [fld] fa) :=
  PS.imp (ps_raise hc tk (pmk_sup T hr ha hg hdb he hpl)) fun D σ H ⟨w, env, S, r, eH, s, en, h, p⟩ => by
    subst eH
    refine seqS s en h p.px fun ds S1 vs w1 e1 s1 en1 r1 h1 => ?_
    have h1' : (if ds.length = 1 then some (Rf.exc name ([fld].zip ds) env S1) else none) = some r := h1
    by_cases z : ds.length = 1
    · rw [if_pos z] at h1'
      cases h1'
      match ds, z with
      | [d], _ =>
        obtain ⟨v, rfl, hv⟩ := rp1 r1
        have eC : (gp X).cA name = C := by
          show cOf X.mg name = C
          unfold cOf
          rw [T.gC]
        refine ⟨v, rfl, fun dd hdd => ?_⟩
        have q := p σ dd [(fld, v)] (w1.put dd (.xd [(fld, v)])) (e1.trans (.put hdd)) (s1.put hdd) ((en1.mono (.put hdd))) upd_same (s1.fresh hdd) rfl (.cons (hv.mono (.put hdd)) .nil)
        rw [eC] at q
        exact q
    · rw [if_neg z] at h1'
      cases h1'
end
end FC

set_option Elab.async false
set_option linter.all false
set_option maxRecDepth 100000
set_option maxHeartbeats 2000000
namespace FC
open PySem PySem.Spec L2
section
variable {X : Cx} {ξ : Iv} {W : WX} {G : Gp}
/-! ### try .. except C as n -/
def XdOk (G : Gp) (w : Wd) (dd : Addr) (flds : List (Str × Dv)) : Prop := ∃ fs', w.H dd = some (.xd fs') ∧ ¬ w.M dd ∧ fs'.map Prod.fst = flds.map Prod.fst ∧ RpAll G w (fs'.map Prod.snd) (flds.map Prod.snd)
theorem XdOk.mono {w w' : Wd} {dd : Addr} {flds : List (Str × Dv)} (e : Ext w w') (h : XdOk G w dd flds) : XdOk G w' dd flds := by
  obtain ⟨fs', h1, h2, h3, h4⟩ := h
  exact ⟨fs', e.keep _ _ (fun z => h2 (.inr z)) h1, e.nM _ _ h1 h2, h3, h4.mono e⟩
def Ix (G : Gp) (i : Nat) (a dd : Addr) (flds : List (Str × Dv)) : Iv := ⟨fun w σ => σ[i]? = some (some (.ref a)) ∧ XdOk G w dd flds, fun j => j ≠ i, fun w w' σ e h => ⟨h.1, h.2.mono e⟩, fun w σ j v hj h => ⟨by rw [List.getElem?_set_ne hj]; exact h.1, h.2⟩⟩
@[simp] def erase (i : Nat) : Option Rf → Option Rf
  | some (.nx env S) => some (.nx (env.set i none) S)
  | some (.rt d S) => some (.rt d S)
  | some (.bk env S) => some (.bk (env.set i none) S)
  | some (.ct env S) => some (.ct (env.set i none) S)
  | _ => none
@[simp] def sTryAs (fb : FS) (cn : Str → Option Bool) (i : Nat) (fsu : Str → List (Str × Dv) → FS) : FS := fun env S => match fb env S with
  | some (.exc c flds env1 S1) => match cn c with
    | some true => if i < env1.length then erase i (fsu c flds (env1.set i none) S1) else none
    | some false => some (.exc c flds env1 S1)
    | none => none
  | r => r
theorem EOk.unset {I : Iv} {w : Wd} {σ : L2.St} {env : DEnv} {i : Nat} {o : Option V} (h : EOk G I w σ env) : EOk G Iv.no w (σ.set i o) (env.set i none) := ⟨by simp [h.len], fun j d q => by
  by_cases z : i = j
  · subst z
    rw [List.getElem?_set_self'] at q
    cases e : env[i]? with
    | none => rw [e] at q; cases q
    | some o => rw [e] at q; cases q
  · rw [List.getElem?_set_ne z] at q
    obtain ⟨u, h1, h2⟩ := h.get j d q
    exact ⟨u, by rw [List.getElem?_set_ne z]; exact h1, h2⟩, True.intro⟩
theorem s_try_as {x n : Str} {c : Value} {i : Nat} {body suite : List Stmt} {b₀ : Stmt} {np pos pos' : Pos} {fb : FS} {cn : Str → Option Bool} {fsu : Str → List (Str × Dv) → FS}
    (hN : X.N.Nodup) (hc : Names X x c) (tk : Takes X W)
    (hb : ∀ (W' : WX) (pn : List (Addr × Obj)) (xe : Value → Shared → Prop), Takes (X.tr pn xe) W' → PassesOwn (model X.prog X.w) X.A X.env xe → DSs (X.tr pn xe) Iv.no W' body fb)
    (hcn : ∀ c' b, cn c' = some b → PySem.W.exmOne X.K (.ref (cOf X.mg c')) c = some b)
    (hsu : ∀ (a : Addr) (oe : Obj) (dd : Addr) (c' : Str) (flds : List (Str × Dv)) (pn : List (Addr × Obj)), cn c' = some true → Zc (.ref (cOf X.mg c')) (some dd) oe → (∃ vs, oe.data = .fields vs) → DSs (X.suite a ((a, oe) :: pn)) (Ix (gp X) i a dd flds) W0 (b₀ :: suite) (fsu c' flds))
    (hs : X.stack = X.env :: X.outer := by rfl) (hf : X.env.frame = some X.env.locals := by rfl) (hi : X.N[i]? = some n := by rfl) (hln : X.env.kindOf n = some .local := by rfl) :
    DS X Iv.no W (.Try body [.ExceptHandler (some (.Name x np)) (some n) (b₀ :: suite) pos'] [] [] pos) (sTryAs fb cn i fsu) := by
  refine PS.imp (ps_try_as (Wout := W) (tb := fun W' => tF (gp X) Iv.no W' fb) (ts := fun a cls d D σ H => ∃ (c' : Str) (flds : List (Str × Dv)) (dd : Addr), cls = .ref (cOf X.mg c') ∧ d = some dd ∧ cn c' = some true ∧ tF (gp X) (Ix (gp X) i a dd flds) W0 (fsu c' flds) D σ H)
    hs hf hN hi hln hc tk hb (fun a oe cls d pn hz hv => ⟨fun pins s σ H D I h => ?_⟩)) fun D σ H ⟨w, env, S, r, eH, s, en, h, p⟩ => ?_
  · obtain ⟨c', flds, dd, rfl, rfl, hct, h⟩ := h
    exact (hsu a oe dd c' flds pn hct hz hv).run pins s σ H D I h
  · subst eH
    unfold sTryAs at h
    cases h1 : fb env S with
    | none => rw [h1] at h; cases h
    | some r1 =>
      rw [h1] at h
      refine ⟨w, env, S, r1, rfl, s, en, h1, ?_⟩
      cases r1 with
      | nx env1 S1 => cases h; exact p
      | rt d S1 => cases h; exact p
      | bk env1 S1 => cases h; exact p
      | ct env1 S1 => cases h; exact p
      | exc c' flds env1 S1 =>
        intro σ' dd fs' w' e' s' en' hd hm hn hr
        have h2 : (match cn c' with | some true => if i < env1.length then erase i (fsu c' flds (env1.set i none) S1) else none | some false => some (.exc c' flds env1 S1) | none => none) = some r := h
        cases hb' : cn c' with
        | none => rw [hb'] at h2; cases h2
        | some b =>
          rw [hb'] at h2
          refine ⟨b, hcn c' b hb', fun hbt a ha => ?_, fun hbf => ?_⟩
          · subst hbt
            have h3 : (if i < env1.length then erase i (fsu c' flds (env1.set i none) S1) else none) = some r := h2
            by_cases hil : i < env1.length
            · rw [if_pos hil] at h3
              refine ⟨c', flds, dd, rfl, rfl, hb', ?_⟩
              cases h4 : fsu c' flds (env1.set i none) S1 with
              | none => rw [h4] at h3; cases h3
              | some r4 =>
                rw [h4] at h3
                have q := en'.unset (i := i) (o := some (.ref a))
                refine ⟨w', env1.set i none, S1, r4, rfl, s', ⟨q.len, q.get, ?_, fs', hd, hm, hn, hr⟩, h4, ?_⟩
                · rw [List.getElem?_set_self (by rw [en'.len]; exact hil)]
                · cases r4 with
                  | nx env5 S5 =>
                    cases h3
                    exact fun σ5 w5 e5 s5 en5 => p _ w5 (e'.trans e5) s5 en5.unset
                  | rt d5 S5 =>
                    cases h3
                    exact fun v w5 e5 s5 r5 => p v w5 (e'.trans e5) s5 r5
                  | bk env5 S5 =>
                    cases h3
                    exact fun σ5 w5 e5 s5 en5 => p _ w5 (e'.trans e5) s5 en5.unset
                  | ct env5 S5 =>
                    cases h3
                    exact fun σ5 w5 e5 s5 en5 => p _ w5 (e'.trans e5) s5 en5.unset
                  | exc _ _ _ _ => cases h3
            · rw [if_neg hil] at h3; cases h3
          · subst hbf
            cases h2
            exact p σ' dd fs' w' e' s' en' hd hm hn hr
/-! ### the caught exception -/
variable {a dd : Addr} {oe : Obj} {pn : List (Addr × Obj)} {c : Str} {flds : List (Str × Dv)} {i : Nat}
theorem fld_at {w : Wd} {f : Str} {d : Dv} : ∀ {fs' : List (Str × V)} {flds : List (Str × Dv)}, fs'.map Prod.fst = flds.map Prod.fst → RpAll G w (fs'.map Prod.snd) (flds.map Prod.snd) → flds.lookup f = some d → ∃ v, fs'.lookup f = some v ∧ Rp G w v d
  | [], [], _, _, h => by cases h
  | [], _ :: _, h, _, _ => by cases h
  | _ :: _, [], h, _, _ => by cases h
  | (g, v) :: fs', (g', d') :: flds, hn, hr, h => by
    have e1 : g = g' ∧ fs'.map Prod.fst = flds.map Prod.fst := by simpa using hn
    obtain ⟨rfl, hn'⟩ := e1
    have hr' : RpAll G w (v :: fs'.map Prod.snd) (d' :: flds.map Prod.snd) := hr
    cases hr' with
    | cons hv hrr =>
      rw [List.lookup_cons] at h ⊢
      cases q : (f == g) with
      | true =>
        rw [q] at h
        cases h
        exact ⟨v, rfl, hv⟩
      | false =>
        rw [q] at h
        exact fld_at hn' hrr h
@[simp] def fXf (flds : List (Str × Dv)) (f : Str) : FE := fun _ => ofO (flds.lookup f)
/-- e.f -/
theorem d_xf {x f : Str} {p pos : Pos} (T : XfC X.K (cOf X.mg c)) (hno : PySem.W.findIn X.K (.ref (cOf X.mg c)) f = some none) (hz : Zc (.ref (cOf X.mg c)) (some dd) oe) (hf : ∃ vs, oe.data = .fields vs)
    (hN : X.N[i]? = some x := by rfl) (hv : Vis X.env.scope x := by first | exact Or.inl rfl | exact Or.inr (Or.inl rfl) | exact Or.inr (Or.inr rfl)) (hd : (x == ("__debug__" : Str)) = false := by decide) (hcd : (x == ("__classdict__" : Str)) = false := by decide) (hb : attributeBase (.Name x p) f X.env (eval (.Name x p) X.env) = eval (.Name x p) X.env := by rfl) :
    DE (X.suite a ((a, oe) :: pn)) (Ix (gp X) i a dd flds) W (.Attribute (.Name x p) f pos) (fXf flds f) :=
  PE.imp (pe_xf T hno hz hf (pe_var (i := i) hN hv hd hcd) hb) fun σ H Q ⟨w, env, S, r, eH, s, en, h, q⟩ => by
    subst eH
    obtain ⟨hsl, fs', h1, h2, h3, h4⟩ := en.inv
    obtain ⟨d, hd', rfl⟩ := ofO_some h
    obtain ⟨v, hv', rv⟩ := fld_at h3 h4 hd'
    exact ⟨.ref a, hsl, rfl, rfl, dd, fs', v, rfl, h1, hv', q.here s rv⟩
def rIsED (K : PySem.W.Frag) (D a dd : Addr) : List V → Hp → VK → Prop := fun xs H Q => ∃ (c : V) (cv : Value) (b : Bool) (fs : List (Str × V)), xs = [.ref a, c] ∧ (∀ u, RelV c u → u = cv) ∧ PySem.W.kitOne K (.ref D) cv = some b ∧ H dd = some (.xd fs) ∧ Q (.bl b) H
theorem call_isED {D : Addr} (C : ExcC X.K D) (hz : Zc (.ref D) (some dd) oe) (hf : ∃ vs, oe.data = .fields vs) : CallR (X.suite a ((a, oe) :: pn)) (.builtin "isinstance") (rIsED X.K D a dd) := by
  intro pins s σ H xs us Q I r h
  obtain ⟨c, cv, b, fs, rfl, hcv, e, hdd, q⟩ := h
  cases r with
  | cons rx rr =>
    cases rr with
    | cons rt rr =>
      cases rr
      cases rx
      have ec := hcv _ rt
      subst ec
      obtain ⟨hget, _⟩ := I.pin (a, oe) (List.mem_append.mpr (.inl List.mem_cons_self))
      obtain ⟨vs, hv⟩ := hf
      obtain ⟨mA, hns, _⟩ := (show ObjOk X.prog X.w H s.heap dd (.xd fs) from I.hok dd _ hdd)
      obtain ⟨od, ho, _⟩ := lookIn_ns hns
      have J : PySem.W.InstAt s.heap a oe D (some od) := by
        obtain ⟨oc, odc, oda, osl⟩ := oe
        obtain ⟨h1, h2⟩ := hz
        dsimp only at h1 h2 hv
        subst h1 h2 hv
        exact ⟨hget, rfl, rfl, ho⟩
      obtain ⟨cd, hcd, _⟩ := PySem.W.any_some C.hd
      exact PySem.W.kia_one (PySem.W.kitx_exc (by rw [hcd]; rfl) C.hg C.hk C.hs C.ha C.hn C.ht C.hm) I.kIn J e (fun z => nomatch z) fun tk => ⟨.bl b, H, I.kept (t' := tk) fun _ _ z => z, rfl, q⟩
/-- isinstance(e, D) -/
theorem d_isE {x : Str} {ce : Expr} {cvV : V} {cv : Value} {b : Bool} {p p2 pos : Pos} (C : ExcC X.K (cOf X.mg c)) (hz : Zc (.ref (cOf X.mg c)) (some dd) oe) (hf : ∃ vs, oe.data = .fields vs) (hm : X.mg "isinstance" = none) (hce : PE (X.suite a ((a, oe) :: pn)) ce (tC cvV)) (hcv : ∀ u, RelV cvV u → u = cv) (hk : PySem.W.kitOne X.K (.ref (cOf X.mg c)) cv = some b)
    (hv : bootBuiltins "isinstance" = some (.builtin "isinstance")) (hg : Gl X "isinstance" := by rfl) (hN : X.N[i]? = some x := by rfl) (hvi : Vis X.env.scope x := by first | exact Or.inl rfl | exact Or.inr (Or.inl rfl) | exact Or.inr (Or.inr rfl)) (hd : (x == ("__debug__" : Str)) = false := by decide) (hcd : (x == ("__classdict__" : Str)) = false := by decide)
    (he : starEach [.Name x p2, ce] X.env = (false, eval (.Name x p2) X.env) :: starEach [ce] X.env := by rfl) (he2 : starEach [ce] X.env = (false, eval ce X.env) :: starEach [] X.env := by rfl) (hpl : (backTo pos (starEach [ce] X.env)).any (·.1) = false := by rfl) :
    DE (X.suite a ((a, oe) :: pn)) (Ix (gp X) i a dd flds) W (.Call (.Name "isinstance" p) [.Name x p2, ce] [] pos) (fC (.bl b)) :=
  PE.imp (pe_callB (X := X.suite a ((a, oe) :: pn)) (call_isED C hz hf) hg hm hv (pa_cons (pe_var (X := X.suite a ((a, oe) :: pn)) (i := i) hN hvi hd hcd) (pa_cons hce pa_nil he2) he) (by decide) (by decide) he hpl) fun σ H Q ⟨w, env, S, r, eH, s, en, h, q⟩ => by
    subst eH
    cases h
    obtain ⟨hsl, fs', h1, h2, h3, h4⟩ := en.inv
    exact ⟨.ref a, hsl, cvV, cv, b, fs', rfl, hcv, hk, h1, q.here s (.bl b)⟩
/-! ### isinstance of data -/
@[simp] def tyOf (d : Dv) (S : Store) : Option String := match d with
  | .non => some "NoneType"
  | .bl _ => some "bool"
  | .int _ => some "int"
  | .str _ => some "str"
  | .tup _ => some "tuple"
  | .lst _ => some "list"
  | .obj n => match S[n]? with
    | some (.lst _) => some "list"
    | some (.dic _) => some "dict"
    | some (.dit _) => some "dict"
    | _ => none
  | _ => none
theorem tyX_of {w : Wd} {S : Store} {v : V} {d : Dv} {t : String} (s : SOk G w S) (r : Rp G w v d) (h : tyOf d S = some t) : TyX G.K w.H v (.type t) := by
  cases r with
  | non => cases h; exact .base .non
  | bl b => cases h; exact .base (.bl b)
  | int i => cases h; exact .base (.int i)
  | str x => cases h; exact .base (.str x)
  | tup ha _ =>
    cases h
    rcases ha with ⟨h, _⟩ | ⟨_, o, its, n, h1, h2, _⟩
    · exact .base (.tup h)
    · exact .kTuple h1 h2
  | lst ha _ =>
    cases h
    rcases ha with ⟨h | ⟨o, h⟩, _⟩ | ⟨o, its, n, h1, h2, _⟩
    · exact .base (.lst h)
    · exact .base (.frz h)
    · exact .kList h1 h2
  | dic _ _ _ _ => cases h
  | dit _ _ _ _ => cases h
  | ins _ _ _ _ => cases h
  | cls _ => cases h
  | @obj a n ha =>
    dsimp only [tyOf] at h
    cases e : S[n]? with
    | none => rw [e] at h; cases h
    | some d =>
      rw [e] at h
      have m := s.cont n a d ha e
      cases d <;> first | (cases h; done) | skip
      · obtain ⟨xs, h1, _⟩ := m; cases h; exact .base (.lst h1)
      · obtain ⟨xs, h1, _⟩ := m; cases h; exact .base (.dK h1)
      · obtain ⟨xs, h1, _⟩ := m; cases h; exact .base (.dT h1)
/-- the types' names and a class asked for -/
@[simp] def isTy (t b : String) : Option Bool :=
  if b = "bool" then some (t == "bool") else if b = "int" then some (t == "int" || t == "bool") else if b = "str" then some (t == "str") else if b = "tuple" then some (t == "tuple") else if b = "list" then some (t == "list") else if b = "dict" then some (t == "dict") else none
def tyNames : List String := ["NoneType", "bool", "int", "str", "tuple", "list", "dict"]
theorem kit_all : ∀ b ∈ ["bool", "int", "str", "tuple", "list", "dict"], ∀ t ∈ tyNames, kitB t b = isTy t b := by decide +kernel
theorem tyOf_mem {d : Dv} {S : Store} {t : String} (h : tyOf d S = some t) : t ∈ tyNames := by
  unfold tyOf at h
  split at h <;> first | (cases h; decide) | skip
  · split at h <;> first | (cases h; decide) | (cases h; done)
  · cases h
@[simp] def fIsi (b : String) (fa : FE) : FE := fun env => bnd (fa env) fun x S => match tyOf x S with
  | some t => match isTy t b with
    | some r => some (.ok (.bl r) S)
    | none => none
  | none => none
theorem d_isi {b : String} {e : Expr} {fa : FE} {cx : Str} {p p2 pos : Pos} (ha : DE X ξ W e fa) (hm : X.mg "isinstance" = none) (hv : bootBuiltins "isinstance" = some (.builtin "isinstance")) (hmb : X.mg cx = none) (hvb : bootBuiltins cx = some (.type b)) (hb : b ∈ ["bool", "int", "str", "tuple", "list", "dict"])
    (hg : Gl X "isinstance" := by rfl) (hgb : Gl X cx := by rfl) (hn : cx ≠ "__name__" := by decide) (hdb : (cx == ("__debug__" : Str)) = false := by decide)
    (he : starEach [e, .Name cx p2] X.env = (false, eval e X.env) :: starEach [.Name cx p2] X.env := by rfl) (he2 : starEach [.Name cx p2] X.env = (false, eval (.Name cx p2) X.env) :: starEach [] X.env := by rfl) (hpl : (backTo pos (starEach [.Name cx p2] X.env)).any (·.1) = false := by rfl) :
    DE X ξ W (.Call (.Name "isinstance" p) [e, .Name cx p2] [] pos) (fIsi b fa) :=
  PE.imp (pe_callB call_isi hg hm hv (pa_cons ha (pa_cons (pe_bltn (v := .ty b) hgb hmb hvb rfl hn hdb) pa_nil he2) he) (by decide) (by decide) he hpl) fun σ H Q ⟨w, env, S, r, eH, s, en, h, q⟩ => by
    subst eH
    refine seqR s en h q.px fun x S1 v w1 e1 s1 en1 r1 h1 => ?_
    cases ht : tyOf x S1 with
    | none => rw [ht] at h1; cases h1
    | some t =>
      rw [ht] at h1
      have h1' : (match isTy t b with | some r => some (Rs.ok (Dv.bl r) S1) | none => none) = some r := h1
      cases hi : isTy t b with
      | none => rw [hi] at h1'; cases h1'
      | some bb =>
        rw [hi] at h1'
        cases h1'
        exact ⟨v, .ty b, .type t, .type b, bb, rfl, .ty b, tyX_of s1 r1 ht, kit_ty ((kit_all b hb t (tyOf_mem ht)).trans hi), q.ok_ e1 s1 (.bl bb)⟩
end
end FC

set_option Elab.async false
set_option linter.all false
set_option maxRecDepth 100000
namespace FC
open PySem PySem.Spec L2
open PyProof.Rows (envOfC)
/-! ### what a def has made for itself falls away -/
mutual
def noO : Dv → Bool
  | .non => true
  | .bl _ => true
  | .int _ => true
  | .str _ => true
  | .cls _ => true
  | .tup xs => noOs xs
  | .lst xs => noOs xs
  | .obj _ => false
  | .ins _ fs => noOf fs
  | .dic kvs => noOk kvs
  | .dit kvs => noOt kvs
def noOs : List Dv → Bool
  | [] => true
  | d :: r => noO d && noOs r
def noOf : List (Str × Dv) → Bool
  | [] => true
  | (_, d) :: r => noO d && noOf r
def noOk : List (Key × Dv) → Bool
  | [] => true
  | (_, d) :: r => noO d && noOk r
def noOt : List (List Key × Dv) → Bool
  | [] => true
  | (_, d) :: r => noO d && noOt r
end
theorem noOf_eq : ∀ fs : List (Str × Dv), noOf fs = noOs (fs.map Prod.snd)
  | [] => rfl
  | (_, d) :: r => by show (noO d && noOf r) = (noO d && noOs (r.map Prod.snd)); rw [noOf_eq r]
theorem noOk_eq : ∀ fs : List (Key × Dv), noOk fs = noOs (fs.map Prod.snd)
  | [] => rfl
  | (_, d) :: r => by show (noO d && noOk r) = (noO d && noOs (r.map Prod.snd)); rw [noOk_eq r]
theorem noOt_eq : ∀ fs : List (List Key × Dv), noOt fs = noOs (fs.map Prod.snd)
  | [] => rfl
  | (_, d) :: r => by show (noO d && noOt r) = (noO d && noOs (r.map Prod.snd)); rw [noOt_eq r]
theorem noOs_ints : ∀ ns : List Int, noOs (ns.map Dv.int) = true
  | [] => rfl
  | n :: ns => by show (true && noOs (ns.map Dv.int)) = true; rw [noOs_ints ns]; rfl
/-- names may be forgotten -/
structure Dr (w w' : Wd) : Prop where
  H : w'.H = w.H
  M : ∀ a, w'.M a → w.M a
mutual
theorem Rp.dr {G : Gp} {w w' : Wd} (e : Dr w w') : ∀ {v : V} {d : Dv}, Rp G w v d → noO d = true → Rp G w' v d
  | _, _, .non, _ => .non
  | _, _, .bl b, _ => .bl b
  | _, _, .int i, _ => .int i
  | _, _, .str x, _ => .str x
  | _, _, .cls c, _ => .cls c
  | _, _, .tup h r, n => .tup (by
      rcases h with h | h
      · exact .inl ⟨by rw [e.H]; exact h.1, fun z => h.2 (e.M _ z)⟩
      · exact .inr h) (RpAll.dr e r n)
  | _, _, .lst h r, n => .lst (by
      rcases h with h | h
      · exact .inl ⟨by rw [e.H]; exact h.1, fun z => h.2 (e.M _ z)⟩
      · exact .inr h) (RpAll.dr e r n)
  | _, _, .obj h, n => Bool.noConfusion n
  | _, _, .ins h m q r, n => .ins (by rw [e.H]; exact h) (fun z => m (e.M _ z)) q (RpAll.dr e r (by rw [← noOf_eq]; exact n))
  | _, _, .dic h m q r, n => .dic (by rw [e.H]; exact h) (fun z => m (e.M _ z)) q (RpAll.dr e r (by rw [← noOk_eq]; exact n))
  | _, _, .dit h m q r, n => .dit (by rw [e.H]; exact h) (fun z => m (e.M _ z)) q (RpAll.dr e r (by rw [← noOt_eq]; exact n))
theorem RpAll.dr {G : Gp} {w w' : Wd} (e : Dr w w') : ∀ {vs : List V} {ds : List Dv}, RpAll G w vs ds → noOs ds = true → RpAll G w' vs ds
  | _, _, .nil, _ => .nil
  | _, _, .cons h r, n => .cons (Rp.dr e h (Bool.and_eq_true_iff.mp n).1) (RpAll.dr e r (Bool.and_eq_true_iff.mp n).2)
end
theorem MOk.dr {G : Gp} {w w' : Wd} (e : Dr w w') {a : Addr} {d : Dv} (h : MOk G w a d) (n : noO d = true) : MOk G w' a d := by
  have hk : w'.H a = w.H a := by rw [e.H]
  cases d <;> first | exact h.elim | skip
  · obtain ⟨xs, h, r⟩ := h; exact ⟨xs, hk.trans h, r.dr e n⟩
  · obtain ⟨dx, fs', h, q, r⟩ := h; exact ⟨dx, fs', hk.trans h, q, r.dr e (by rw [← noOf_eq]; exact n)⟩
  · obtain ⟨kvs', h, q, r⟩ := h; exact ⟨kvs', hk.trans h, q, r.dr e (by rw [← noOk_eq]; exact n)⟩
  · obtain ⟨kvs', h, q, r⟩ := h; exact ⟨kvs', hk.trans h, q, r.dr e (by rw [← noOt_eq]; exact n)⟩
/-- the value of a def's end, told without the def's own names -/
def solid (n : Nat) (d : Dv) (S : Store) : Option Dv := match d with
  | .obj k => if k < n then none else S[k]?
  | d => some d
def gcF (F : DFn) : DFn := fun ds S => match F ds S with
  | some (.ok d S') => match solid S.length d S' with
    | some d' => if noO d' = true ∧ noOs (S'.take S.length) = true ∧ S.length ≤ S'.length then some (.ok d' (S'.take S.length)) else none
    | none => none
  | some (.exc c fs S') => if noOf fs = true ∧ noOs (S'.take S.length) = true ∧ S.length ≤ S'.length then some (.exc c fs (S'.take S.length)) else none
  | none => none
section
variable {G : Gp} {w w' : Wd} {S S' : Store}
theorem drop_ok (e : Ext w w') (s : SOk G w S) (s' : SOk G w' S') (hn : noOs (S'.take S.length) = true) (hl : S.length ≤ S'.length) : Ext w ⟨w'.H, w.as, w'.M0⟩ ∧ SOk G ⟨w'.H, w.as, w'.M0⟩ (S'.take S.length) ∧ Dr w' ⟨w'.H, w.as, w'.M0⟩ := by
  obtain ⟨bs, hb⟩ := e.as
  have dr : Dr w' ⟨w'.H, w.as, w'.M0⟩ := ⟨rfl, fun a h => by
    rcases h with h | h
    · exact .inl h
    · exact .inr (by rw [hb]; exact List.mem_append_left _ h)⟩
  have all : ∀ (l : List Dv), noOs l = true → ∀ (i : Nat) (d : Dv), l[i]? = some d → noO d = true := by
    intro l
    induction l with
    | nil => intro _ i d h; simp at h
    | cons x r ih =>
      intro h i d hd
      have h' : (noO x && noOs r) = true := h
      cases i with
      | zero =>
        simp at hd
        subst hd
        exact (Bool.and_eq_true_iff.mp h').1
      | succ i => exact ih (Bool.and_eq_true_iff.mp h').2 i d (by simpa using hd)
  refine ⟨⟨⟨[], by simp⟩, e.m0, fun _ _ _ h => h, fun a o h n z => e.nM a o h n (dr.M a z), e.keep⟩, ⟨s.nd, ?_, s'.dom, fun a ha => s'.dj a (by rw [hb]; exact List.mem_append_left _ ha), fun i a d h1 h2 => ?_⟩, dr⟩
  · show w.as.length = (S'.take S.length).length
    rw [List.length_take, s.len]
    omega
  · have hi : i < (S'.take S.length).length := (List.getElem?_eq_some_iff.mp h2).1
    have hi2 : i < S.length := by rw [List.length_take] at hi; omega
    have nd := all _ hn i d h2
    rw [List.getElem?_take_of_lt hi2] at h2
    refine (s'.cont i a d ?_ h2).dr dr nd
    rw [hb, List.getElem?_append_left (by rw [s.len]; exact hi2)]
    exact h1
theorem solid_ok {v : V} {d d' : Dv} (e : Ext w w') (s : SOk G w S) (s' : SOk G w' S') (r : Rp G w' v d) (h : solid S.length d S' = some d') (nd : noO d' = true) (hn : noOs (S'.take S.length) = true) (hl : S.length ≤ S'.length) : Rp G ⟨w'.H, w.as, w'.M0⟩ v d' := by
  obtain ⟨e2, s2, dr⟩ := drop_ok e s s' hn hl
  unfold solid at h
  split at h
  · rename_i k
    by_cases hk : k < S.length
    · rw [if_pos hk] at h; cases h
    · rw [if_neg hk] at h
      cases r with
      | @obj a n ha =>
        have m := (s'.cont k a d' ha h).dr dr nd
        have nM : ¬ (⟨w'.H, w.as, w'.M0⟩ : Wd).M a := by
          obtain ⟨bs, hb⟩ := e.as
          have hkl : w.as.length ≤ k := by rw [s.len]; omega
          have hkw : k < w'.as.length := (List.getElem?_eq_some_iff.mp ha).1
          have hae : w'.as[k] = a := (List.getElem?_eq_some_iff.mp ha).2
          rintro (z | z)
          · exact s'.dj a (List.mem_of_getElem? ha) z
          · obtain ⟨j, hj, ej⟩ := List.getElem_of_mem z
            have hj' : j < w.as.length := hj
            have hj2 : j < w'.as.length := by rw [hb, List.length_append]; omega
            have e1 : w'.as[j] = w'.as[k] := by
              rw [hae, ← ej]
              simp only [hb]
              exact List.getElem_append_left hj'
            have := (List.getElem_inj s'.nd).mp e1
            omega
        cases d' <;> first | exact m.elim | skip
        · obtain ⟨xs, h1, h2⟩ := m
          exact .lst (.inl ⟨.inl h1, nM⟩) h2
        · obtain ⟨dx, fs', h1, h2, h3⟩ := m
          exact .ins h1 nM h2 h3
        · obtain ⟨kvs', h1, h2, h3⟩ := m
          exact .dic (.inl h1) nM h2 h3
        · obtain ⟨kvs', h1, h2, h3⟩ := m
          exact .dit (.inl h1) nM h2 h3
  · cases h
    exact r.dr dr nd
variable {P : Program} {w0 : World} {K : PySem.W.Frag} {mg : Str → Option Value} {base : Heap}
theorem fn_gc {f : Addr} {fd : FuncData} {ps : List Str} {k n : Nat} {F : DFn} (h : FnOk P w0 K mg base (L2.CX P w0) k f fd ps (spD K mg n F)) : FnOk P w0 K mg base (L2.CX P w0) k f fd ps (spD K mg n (gcF F)) :=
  h.imp fun vs H Q E ⟨hl, w, S, ds, r, eH, hs, rv, hF, p⟩ => by
    unfold gcF at hF
    cases h1 : F ds S with
    | none => rw [h1] at hF; cases hF
    | some r1 =>
      rw [h1] at hF
      refine ⟨hl, w, S, ds, r1, eH, hs, rv, h1, ?_⟩
      cases r1 with
      | ok d S' =>
        dsimp only at hF
        cases h2 : solid S.length d S' with
        | none => rw [h2] at hF; cases hF
        | some d' =>
          rw [h2] at hF
          dsimp only at hF
          by_cases z : noO d' = true ∧ noOs (S'.take S.length) = true ∧ S.length ≤ S'.length
          · rw [if_pos z] at hF
            cases hF
            intro v w' e s' rv'
            obtain ⟨e2, s2, dr⟩ := drop_ok e hs s' z.2.1 z.2.2
            exact p v ⟨w'.H, w.as, w'.M0⟩ e2 s2 (solid_ok e hs s' rv' h2 z.1 z.2.1 z.2.2)
          · rw [if_neg z] at hF; cases hF
      | exc c fs S' =>
        dsimp only at hF
        by_cases z : noOf fs = true ∧ noOs (S'.take S.length) = true ∧ S.length ≤ S'.length
        · rw [if_pos z] at hF
          cases hF
          intro dd fs' w' e s' hd hm hn hr
          obtain ⟨e2, s2, dr⟩ := drop_ok e hs s' z.2.1 z.2.2
          exact p dd fs' ⟨w'.H, w.as, w'.M0⟩ e2 s2 hd (fun q => hm (dr.M _ q)) hn (hr.dr dr (by rw [← noOf_eq]; exact z.1))
        · rw [if_neg z] at hF; cases hF
end
end FC

set_option Elab.async false
set_option linter.all false
set_option maxRecDepth 100000
namespace FC
open PySem PySem.Spec L2
section
variable {X : Cx} {ξ : Iv} {W : WX} {G : Gp}
/-! ### list(range(..)) -/
abbrev FR := DEnv → Mm (Int × Int)
def RR (_ : Wd) (a : Int × Int) (b : Int × Int) : Prop := a = b
def rgOk (a b : Int) : Prop := a.natAbs ≤ 400000 ∧ b.natAbs ≤ 400000
instance (a b : Int) : Decidable (rgOk a b) := inferInstanceAs (Decidable (_ ∧ _))
theorem rgOk.to {a b : Int} (h : rgOk a b) : RgOk a b := by
  obtain ⟨h1, h2⟩ := h
  refine ⟨?_, ?_, ?_, ?_, Nat.le_trans (?_ : (b - a).toNat ≤ 1000000) (by decide)⟩ <;> omega
theorem rgV_eq (a b : Int) : rgV a b = (upTo a (b - a).toNat).map V.int := by
  unfold rgV upTo
  rw [List.map_map]
  rfl
def fLr1 (m : Bool) (fa : FE) : FE := fun env => bnd (fa env) fun x => bnd (ofO (asI x)) fun n => if rgOk 0 n then newL m ((upTo 0 (n - 0).toNat).map Dv.int) else stuck
def fLr2 (m : Bool) (fa fb : FE) : FE := fun env => bnd (fa env) fun x => bnd (fb env) fun y => bnd (ofO (asI x)) fun i => bnd (ofO (asI y)) fun j => if rgOk i j then newL m ((upTo i (j - i).toNat).map Dv.int) else stuck
theorem asI_bnd {α : Type} {w : Wd} {v : V} {d : Dv} {k : Int → Mm α} {S : Store} {r : Rs α} (rv : Rp G w v d) (h : bnd (ofO (asI d)) k S = some r) : ∃ i, v = .int i ∧ k i S = some r := by
  cases rv <;> first | (cases h; done) | skip
  rename_i b
  exact ⟨b, rfl, h⟩
theorem d_listRg1 (m : Bool) {e : Expr} {fa : FE} {p p2 pos pos2 : Pos} (hc : X.calm = true) (hml : X.mg "list" = none) (hmr : X.mg "range" = none) (ha : DE X ξ W e fa) (hgl : Gl X "list" := by rfl) (hgr : Gl X "range" := by rfl) (na : starEach [e] X.env = (false, eval e X.env) :: starEach [] X.env := by rfl)
    (nb : starEach [.Call (.Name "range" p2) [e] [] pos2] X.env = (false, eval (.Call (.Name "range" p2) [e] [] pos2) X.env) :: starEach [] X.env := by rfl) : DE X ξ W (.Call (.Name "list" p) [.Call (.Name "range" p2) [e] [] pos2] [] pos) (fLr1 m fa) :=
  PE.imp (pe_listRg hc hgl hml (prg_1 hgr hmr ha na) nb) fun σ H Q ⟨w, env, S, res, eH, s, en, h, p⟩ => by
    subst eH
    show tRg1 (tD (gp X) ξ W fa) σ w.H _
    refine seqR s en h p.px fun x S1 v w1 e1 s1 en1 r1 h1 => ?_
    obtain ⟨n, rfl, h2⟩ := asI_bnd r1 h1
    by_cases z : rgOk 0 n
    · rw [if_pos z] at h2
      refine ⟨n, rfl, z.to, ?_⟩
      rw [rgV_eq]
      exact new_lst s1 (RpAll.of_ints _) h2 (p.mono e1 s1)
    · rw [if_neg z] at h2; cases h2
theorem d_listRg2 (m : Bool) {e e2 : Expr} {fa fb : FE} {p p2 pos pos2 : Pos} (hc : X.calm = true) (hml : X.mg "list" = none) (hmr : X.mg "range" = none) (ha : DE X ξ W e fa) (hb : DE X ξ W e2 fb) (hgl : Gl X "list" := by rfl) (hgr : Gl X "range" := by rfl) (na : starEach [e, e2] X.env = (false, eval e X.env) :: starEach [e2] X.env := by rfl)
    (na2 : starEach [e2] X.env = (false, eval e2 X.env) :: starEach [] X.env := by rfl) (na3 : (backTo pos2 (starEach [e2] X.env)).any (·.1) = false := by rfl)
    (nb : starEach [.Call (.Name "range" p2) [e, e2] [] pos2] X.env = (false, eval (.Call (.Name "range" p2) [e, e2] [] pos2) X.env) :: starEach [] X.env := by rfl) : DE X ξ W (.Call (.Name "list" p) [.Call (.Name "range" p2) [e, e2] [] pos2] [] pos) (fLr2 m fa fb) :=
  PE.imp (pe_listRg hc hgl hml (prg_2 hgr hmr ha hb na na2 na3) nb) fun σ H Q ⟨w, env, S, res, eH, s, en, h, p⟩ => by
    subst eH
    show tRg2 (tD (gp X) ξ W fa) (tD (gp X) ξ W fb) σ w.H _
    refine seqR s en h p.px fun x S1 v w1 e1 s1 en1 r1 h1 => seqR s1 en1 h1 (p.px.mono e1 s1) fun y S2 u w2 e2 s2 en2 r2 h2 => ?_
    obtain ⟨i, hi, h3⟩ := asI_bnd (r1.mono e2) h2
    obtain ⟨j, rfl, h4⟩ := asI_bnd r2 h3
    by_cases z : rgOk i j
    · rw [if_pos z] at h4
      refine ⟨i, j, hi, rfl, z.to, ?_⟩
      rw [rgV_eq]
      exact new_lst s2 (RpAll.of_ints _) h4 (p.mono (e1.trans e2) s2)
    · rw [if_neg z] at h4; cases h4
end
/-! ### the law's end -/
def spLaw (n : Nat) (K : PySem.W.Frag) : Sp := fun vs H Q _ => ∃ (a : Addr) (ns : List Int), vs = [.ref a] ∧ SqL K H a (ns.map V.int) ∧ ns.length ≤ n ∧ ∀ H', Q (.bl true) H'
theorem fn_law {P : Program} {w0 : World} {K : PySem.W.Frag} {mg : Str → Option Value} {base : Heap} {f : Addr} {fd : FuncData} {ps : List Str} {k n : Nat} {F : DFn} (h : FnOk P w0 K mg base (L2.CX P w0) k f fd ps (spD K mg 1 F))
    (e : ∀ ns : List Int, ns.length ≤ n → ∃ S', F [.lst (ns.map Dv.int)] [] = some (.ok (.bl true) S')) : FnOk P w0 K mg base (L2.CX P w0) k f fd ps (spLaw n K) :=
  h.imp fun vs H Q E ⟨a, ns, ev, hS, hl, q⟩ => by
    subst ev
    obtain ⟨S', hF⟩ := e ns hl
    have nM : ∀ b, ¬ (⟨H, [], []⟩ : Wd).M b := fun b z => by
      rcases z with z | z
      · exact absurd z (by simp)
      · exact absurd z (by simp)
    refine ⟨rfl, ⟨H, [], []⟩, [], [.lst (ns.map Dv.int)], _, rfl, ⟨List.nodup_nil, rfl, fun a ha => absurd ha (by simp), fun a ha => absurd ha (by simp), fun i a d h1 _ => by simp at h1⟩, .cons (.lst ?_ (RpAll.of_ints ns)) .nil, hF, fun v w' _ _ rv => ?_⟩
    · rcases hS with h | h
      · exact .inl ⟨h, nM a⟩
      · exact .inr h
    · cases rv
      exact q _
end FC

set_option Elab.async false
set_option linter.all false
set_option maxRecDepth 100000
namespace FC
open PySem PySem.Spec L2
section
variable {X : Cx} {ξ : Iv} {W : WX} {G : Gp}
/-- a call's answer, told by the number of its arguments -/
@[simp] def clF (n : Nat) (F : DFn) : DCl := fun ds => if ds.length = n then F ds else stuck
theorem d_callF {f : Addr} {fd : FuncData} {ps : List Str} {k n : Nat} {F : DFn} {x : Str} {e : Expr} {es : List Expr} {p pos : Pos} {fa : FA} (hF : FnOk X.prog X.w X.K X.mg X.base (L2.CX X.prog X.w) k f fd ps (spD X.K X.mg n F)) (hn : ps.length = n) (hr : Room k X.A) (hm : X.mg x = some (.ref f)) (hk : PySem.W.keepIn X.K (.ref f) = true) (hb : Binds X.K fd ps []) (tk : Takes X W)
    (ha : DA X ξ W (e :: es) fa) (hg : Gl X x := by rfl) (hdb : (x == ("__debug__" : Str)) = false := by decide) (he : starEach (e :: es) X.env = (false, eval e X.env) :: starEach es X.env := by rfl) (hpl : (backTo pos (starEach es X.env)).any (·.1) = false := by rfl) :
    DE X ξ W (.Call (.Name x p) (e :: es) [] pos) (fCall (clF n F) fa) :=
  PE.imp (pe_callS hF hr hg hm hk hb (fun σ => passAt tk σ) ha hdb he hpl) fun σ H Q ⟨w, env, S, res, eH, s, en, h, p⟩ => by
    subst eH
    refine seqR s en h p.px fun ds S1 vs w1 e1 s1 en1 r1 h1 => ?_
    have h2 : (if ds.length = n then F ds else stuck) S1 = some res := h1
    by_cases z : ds.length = n
    · rw [if_pos z] at h2
      refine ⟨by rw [r1.length]; exact z, w1, S1, ds, res, rfl, s1, r1, h2, ?_⟩
      have p1 := p.mono e1 s1
      cases res with
      | ok d S' => exact p1
      | exc c fs S' => exact fun dd fs' w' e s' hd hm hn hr => p1 dd fs' w' e s' hd hm hn hr
    · rw [if_neg z] at h2; cases h2
/-- a walked list or tuple that nothing changes -/
theorem i_seq {tg e : Expr} {fa : FE} (ha : DE X ξ W e fa) : DI X ξ W tg e (fIt fa) := PI.imp (PI.or (pi_list ha) (pi_tup ha)) fun σ H R ⟨w, env, S, res, eH, s, en, h, p⟩ => by
  subst eH
  have h0 := h
  unfold fIt bnd at h0
  cases q : fa env S with
  | none => rw [q] at h0; cases h0
  | some r1 =>
    rw [q] at h0
    cases r1 with
    | exc c fs S1 =>
      cases h0
      exact .inl ⟨w, env, S, _, rfl, s, en, q, p⟩
    | ok d S1 =>
      have h1 : ofO (frozen d) S1 = some res := h0
      obtain ⟨ds, hd, rfl⟩ := ofO_some h1
      cases d <;> first | (cases hd; done) | skip
      · cases hd
        refine .inr ⟨w, env, S, _, rfl, s, en, q, fun v w1 e1 s1 rv => ?_⟩
        cases rv with
        | tup ha ra => exact ⟨_, rfl, ⟨_, ha.to⟩, p.ok_ e1 s1 (it_tup ha ra)⟩
      · cases hd
        refine .inl ⟨w, env, S, _, rfl, s, en, q, fun v w1 e1 s1 rv => ?_⟩
        cases rv with
        | lst ha ra => exact ⟨_, rfl, ⟨_, ha.to⟩, p.ok_ e1 s1 (it_list ha ra)⟩
/-- which classes a clause takes -/
@[simp] def cnL (l : List (Str × Bool)) : Str → Option Bool := fun c => l.lookup c
theorem cnL_ok {K : PySem.W.Frag} {mg : Str → Option Value} {cv : Value} : ∀ {l : List (Str × Bool)}, (∀ p ∈ l, PySem.W.exmOne K (.ref (cOf mg p.1)) cv = some p.2) → ∀ c b, cnL l c = some b → PySem.W.exmOne K (.ref (cOf mg c)) cv = some b
  | [], _, c, b, h => by cases h
  | (n, v) :: r, hl, c, b, h => by
    unfold cnL at h
    rw [List.lookup_cons] at h
    cases q : (c == n) with
    | true =>
      rw [q] at h
      cases h
      have e : c = n := by simpa using q
      subst e
      exact hl _ List.mem_cons_self
    | false =>
      rw [q] at h
      exact cnL_ok (l := r) (fun p hp => hl p (List.mem_cons_of_mem _ hp)) c b h
theorem cOf_of {mg : Str → Option Value} {n : Str} {C : Addr} (h : mg n = some (.ref C)) : cOf mg n = C := by
  unfold cOf
  rw [h]
end
end FC
namespace FC
open PySem
theorem cnL_one {n c : Str} (h : cnL [(n, true)] c = some true) : c = n := by
  unfold cnL at h
  rw [List.lookup_cons] at h
  cases q : (c == n) with
  | true => simpa using q
  | false => rw [q] at h; cases h
end FC
namespace FC
open PySem PySem.Spec L2
section
variable {X : Cx} {ξ : Iv} {W : WX} {G : Gp}
theorem d_lcV {tg iter elt : Expr} {ifs : List Expr} {scope : Scope} {own : List (Str × Nat)} {pos : Pos} {fi : FI} {sl : List Nat} {b : Bd} {ft : FT} {fe : FE} {vs : List Nat} (m : Bool) (hc : X.calm = true) (hN : X.N.Nodup) (hi : DI X ξ W tg iter fi) (ok : BlkOk X.N X.env.scope scope own)
    (hg : ∀ (s : Shared) (H : Hp) (C : Addr) (cl : List (Str × Addr)) (fp : List Addr), DG (X.blk s H scope (compEnvC scope cl C X.env) fp) ξ tg sl b)
    (ht : ∀ (s : Shared) (H : Hp) (C : Addr) (cl : List (Str × Addr)) (fp : List Addr), DTs (X.blk s H scope (compEnvC scope cl C X.env) fp) ξ W0 ifs ft)
    (he : ∀ (s : Shared) (H : Hp) (C : Addr) (cl : List (Str × Addr)) (fp : List Addr), DE (X.blk s H scope (compEnvC scope cl C X.env) fp) ξ W0 elt fe)
    (hv : own.map (·.2) = vs := by rfl) (hsl : ∀ i ∈ sl, i ∈ own.map (·.2) := by decide) (hok : ∀ v ∈ own.map (·.2), ξ.ok v := by first | exact (fun _ _ => trivial) | decide) (hs : ∀ x, foldedSetIterable iter X.env x = pure x := by intro _; rfl) :
    DE X ξ W (.ListComp elt [⟨tg, iter, ifs, 0⟩] scope pos) (fLc m fi vs b ft fe) := by
  subst hv
  exact d_lc m hc hN hi ok hg ht he hsl hok hs
theorem s_setLcV {i : Nat} {y : Str} {py : Pos} {tg iter elt : Expr} {ifs : List Expr} {scope : Scope} {own : List (Str × Nat)} {pos spos : Pos} {fi : FI} {sl : List Nat} {b : Bd} {ft : FT} {fe : FE} {vs : List Nat}
    (m : Bool) (hc : X.calm = true) (hN : X.N.Nodup) (hsw : swapsWith (.ListComp elt [⟨tg, iter, ifs, 0⟩] scope pos) (some (.Name y py)) spos.line X.env = pure true) (hi : DI X ξ W tg iter fi) (ok : BlkOk X.N X.env.scope scope own)
    (hg : ∀ (s : Shared) (H : Hp) (C : Addr) (cl : List (Str × Addr)) (fp : List Addr), DG (X.blk s H scope (compEnvC scope cl C X.env) fp) ξ tg sl b)
    (ht : ∀ (s : Shared) (H : Hp) (C : Addr) (cl : List (Str × Addr)) (fp : List Addr), DTs (X.blk s H scope (compEnvC scope cl C X.env) fp) ξ W0 ifs ft)
    (he : ∀ (s : Shared) (H : Hp) (C : Addr) (cl : List (Str × Addr)) (fp : List Addr), DE (X.blk s H scope (compEnvC scope cl C X.env) fp) ξ W0 elt fe)
    (hv : own.map (·.2) = vs := by rfl) (hsl : ∀ i ∈ sl, i ∈ own.map (·.2) := by decide) (hy : X.N[i]? = some y := by rfl) (hyl : X.env.scope.names.lookup y = some .local := by rfl) (hoki : ξ.ok i := by first | trivial | decide) (hok : ∀ v ∈ own.map (·.2), ξ.ok v := by first | exact (fun _ _ => trivial) | decide) (hs : ∀ x, foldedSetIterable iter X.env x = pure x := by intro _; rfl) :
    DS X ξ W (.Assign [.Name y py] (.ListComp elt [⟨tg, iter, ifs, 0⟩] scope pos) spos) (sAsg (fLc m fi vs b ft fe) (bName i)) := by
  subst hv
  exact s_setLc m hc hN hsw hi ok hg ht he hsl hy hyl hoki hok hs
end
end FC
namespace FC
open PySem PySem.Spec L2
theorem fn_none {P : Program} {w0 : World} {K : PySem.W.Frag} {mg : Str → Option Value} {base : Heap} {f : Addr} {fd : FuncData} {ps : List Str} {k n : Nat} (_ : ps.length = n) : FnOk P w0 K mg base (L2.CX P w0) k f fd ps (spD K mg n fun _ _ => none) where
  len := fun vs H Q E h => by
    obtain ⟨_, _, _, _, _, _, _, _, h, _⟩ := h
    cases h
  run := fun A outer s H args us vs Q E _ _ _ _ h => by
    obtain ⟨_, _, _, _, _, _, _, _, h, _⟩ := h
    cases h
end FC

set_option Elab.async false
set_option linter.all false
set_option maxRecDepth 100000
namespace FC
open PySem PySem.Spec L2
open RT (ItvT pi_revA iRevA)
section
variable {X : Cx} {ξ : Iv} {W : WX} {G : Gp}
/-! ### a < b < c -/
@[simp] def fChain (o o' : DOp) (fa fb fc : FE) : FE := fun env => bnd (fa env) fun x => bnd (fb env) fun y => bnd (o x y) fun z => bnd (ofO (asB z)) fun k => if k = true then bnd (fc env) fun u => o' y u else ret (.bl false)
theorem op_seq {r : R2} {o : DOp} (hd : OpD G r o) {w : Wd} {σ : L2.St} {S : Store} {x y : V} {dx dy : Dv} {K : Dv → Mm Dv} {res : Rs Dv} {Q' : VK} (s : SOk G w S) (rx : Rp G w x dx) (ry : Rp G w y dy) (h : bnd (o dx dy) K S = some res) (px : PXr G W w σ res)
    (k : ∀ a S1 v w1, Ext w w1 → SOk G w1 S1 → Rp G w1 v a → K a S1 = some res → Q' v w1.H) : r x y w.H Q' := by
  unfold bnd at h
  cases e : o dx dy S with
  | none => rw [e] at h; cases h
  | some r1 =>
    rw [e] at h
    refine hd W w σ S x y dx dy r1 Q' s rx ry e ?_
    cases r1 with
    | exc c fs S' =>
      have e2 : (Rs.exc c fs S' : Rs Dv) = res := Option.some.inj h
      subst e2
      exact px
    | ok a S' => exact fun v w' e' s' q => k a S' v w' e' s' q h
theorem chain_body {r r' : R2} {o o' : DOp} {fa fb fc : FE} (hd : OpD G r o) (hd' : OpD G r' o') : ∀ σ H Q, tD G ξ W (fChain o o' fa fb fc) σ H Q → tChain r r' (tD G ξ W fa) (tD G ξ W fb) (tD G ξ W fc) σ H Q := fun σ H Q ⟨w, env, S, res, eH, s, en, h, p⟩ => by
  subst eH
  refine seqR s en h p.px fun x S1 v w1 e1 s1 en1 r1 h1 => seqR s1 en1 h1 (p.px.mono e1 s1) fun y S2 u w2 e2 s2 en2 r2 h2 => ?_
  have e12 := e1.thru e2 s1
  refine op_seq hd s2 (r1.mono e2) r2 h2 (p.px.mono e12 s2) fun z S3 b w3 e3 s3 r3 h3 => ?_
  obtain ⟨k, rfl, h4⟩ := asB_bnd r3 h3
  refine ⟨k, rfl, ?_⟩
  have e13 := e12.thru e3 s2
  cases k with
  | true =>
    rw [if_pos rfl] at h4 ⊢
    refine seqR s3 (en2.mono e3) h4 (p.px.mono e13 s3) fun u' S4 t w4 e4 s4 en4 r4 h5 => ?_
    exact hd' W w4 σ S4 u t y u' res Q s4 ((r2.mono e3).mono e4) r4 h5 (p.mono (e13.thru e4 s3) s4)
  | false =>
    cases h4
    exact p.ok_ e13 s3 (.bl false)
section
variable {a b c : Expr} {fa fb fc : FE} {pos : Pos}
theorem d_chain {op op' : CmpOp} {r r' : R2} {o o' : DOp} (ho : OpR X (compareOp op) r) (ho' : OpR X (compareOp op') r') (hd : OpD (gp X) r o) (hd' : OpD (gp X) r' o') (ha : DE X ξ W a fa) (hb : DE X ξ W b fb) (hc : DE X ξ W c fc)
    (hm : lastMarks [op, op'] [b, c] = false := by with_unfolding_all rfl) : DE X ξ W (.Compare a [op, op'] [b, c] pos) (fChain o o' fa fb fc) := PE.imp (pe_chain ho ho' ha hb hc hm) (chain_body hd hd')
theorem t_chain {op op' : CmpOp} {r r' : R2} {o o' : DOp} (ho : OpR X (compareOp op) r) (ho' : OpR X (compareOp op') r') (hd : OpD (gp X) r o) (hd' : OpD (gp X) r' o') (ha : DE X ξ W a fa) (hb : DE X ξ W b fb) (hc : DE X ξ W c fc)
    (hm : lastMarks [op, op'] [b, c] = false := by with_unfolding_all rfl) : DT X ξ W (.Compare a [op, op'] [b, c] pos) (fTest (fChain o o' fa fb fc)) := PT.imp (pt_chain ho ho' ha hb hc hm) fun σ H Q h => by
  obtain ⟨w, env, S, res, eH, s, en, h, p⟩ := test_body (fa := fChain o o' fa fb fc) σ H Q h
  exact chain_body hd hd' σ H _ ⟨w, env, S, res, eH, s, en, h, p⟩
end
/-! ### an int in a sequence of ints -/
def oIn : DOp := fun x y S => match x, (seqOf y S).bind asInts with
  | .int i, some ns => some (.ok (.bl (decide (i ∈ ns))) S)
  | _, _ => none
def oNin : DOp := fun x y S => match x, (seqOf y S).bind asInts with
  | .int i, some ns => some (.ok (.bl (!decide (i ∈ ns))) S)
  | _, _ => none
theorem ints_vs {w : Wd} : ∀ {vs : List V} {ds : List Dv} {ns : List Int}, RpAll G w vs ds → asInts ds = some ns → vs = ns.map V.int
  | [], _, ns, .nil, h => by cases h; rfl
  | v :: vs, _, ns, @RpAll.cons _ _ _ _ d ds hv hr, h => by
    cases hv <;> first | (cases h; done) | skip
    rename_i i
    have h' : (match asInts ds with | some r => some (i :: r) | none => none) = some ns := by
      rw [← h]
      cases e : asInts ds <;> simp [asInts, e]
    cases e : asInts ds with
    | none => rw [e] at h'; cases h'
    | some r =>
      rw [e] at h'
      cases h'
      rw [ints_vs hr e]
      rfl
theorem flat_ints (ns : List Int) : (ns.map V.int).all flatV = true := by
  rw [List.all_eq_true]
  intro x hx
  obtain ⟨i, _, rfl⟩ := List.mem_map.1 hx
  rfl
theorem inV_ints (i : Int) : ∀ ns : List Int, inV (.int i) (ns.map V.int) = decide (i ∈ ns)
  | [] => by simp [inV]
  | j :: ns => by
    have ih := inV_ints i ns
    unfold inV at ih ⊢
    rw [List.map_cons, List.any_cons, ih]
    have e : eqV (.int j) (.int i) = decide (i = j) := by
      show (j == i) = decide (i = j)
      rw [Bool.eq_iff_iff, beq_iff_eq, decide_eq_true_iff]
      exact ⟨fun h => h.symm, fun h => h.symm⟩
    rw [e, ← Bool.decide_or, decide_eq_decide]
    exact List.mem_cons.symm
theorem od_in : OpD G (rIn G.K false) oIn := by
  intro W w σ S x y dx dy res Q s rx ry h p
  unfold oIn at h
  cases hs : seqOf dy S with
  | none => rw [hs] at h; cases rx <;> cases h
  | some ds =>
    cases hi : asInts ds with
    | none => rw [hs] at h; simp only [Option.bind, hi] at h; cases rx <;> cases h
    | some ns =>
      rw [hs] at h; simp only [Option.bind, hi] at h
      cases rx <;> first | (cases h; done) | skip
      rename_i i
      cases h
      obtain ⟨a, xs, rfl, hz, hr⟩ := seqOf_ok s ry hs
      have e := ints_vs hr hi
      subst e
      refine ⟨a, _, rfl, hz, rfl, flat_ints ns, ?_⟩
      show Q (.bl (inV (.int i) (ns.map V.int))) w.H
      rw [inV_ints]
      exact p.here s (.bl _)
theorem od_nin : OpD G (rIn G.K true) oNin := by
  intro W w σ S x y dx dy res Q s rx ry h p
  unfold oNin at h
  cases hs : seqOf dy S with
  | none => rw [hs] at h; cases rx <;> cases h
  | some ds =>
    cases hi : asInts ds with
    | none => rw [hs] at h; simp only [Option.bind, hi] at h; cases rx <;> cases h
    | some ns =>
      rw [hs] at h; simp only [Option.bind, hi] at h
      cases rx <;> first | (cases h; done) | skip
      rename_i i
      cases h
      obtain ⟨a, xs, rfl, hz, hr⟩ := seqOf_ok s ry hs
      have e := ints_vs hr hi
      subst e
      refine ⟨a, _, rfl, hz, rfl, flat_ints ns, ?_⟩
      show Q (.bl (!inV (.int i) (ns.map V.int))) w.H
      rw [inV_ints]
      exact p.here s (.bl _)
section
variable {a b : Expr} {fa fb : FE} {pos : Pos}
theorem d_in (ha : DE X ξ W a fa) (hb : DE X ξ W b fb) (hm : behindInMarks .In b = false := by rfl) : DE X ξ W (.Compare a [.In] [b] pos) (fOp oIn fa fb) := d_cmp op_in_seq od_in ha hb hm
theorem d_nin (ha : DE X ξ W a fa) (hb : DE X ξ W b fb) (hm : behindInMarks .NotIn b = false := by rfl) : DE X ξ W (.Compare a [.NotIn] [b] pos) (fOp oNin fa fb) := d_cmp op_notIn_seq od_nin ha hb hm
theorem t_in (ha : DE X ξ W a fa) (hb : DE X ξ W b fb) (hm : behindInMarks .In b = false := by rfl) : DT X ξ W (.Compare a [.In] [b] pos) (fTest (fOp oIn fa fb)) := t_cmp op_in_seq od_in ha hb hm
theorem t_nin (ha : DE X ξ W a fa) (hb : DE X ξ W b fb) (hm : behindInMarks .NotIn b = false := by rfl) : DT X ξ W (.Compare a [.NotIn] [b] pos) (fTest (fOp oNin fa fb)) := t_cmp op_notIn_seq od_nin ha hb hm
end
/-! ### from the last one to the first -/
@[simp] def fRev (fa : FE) : FI := fun env => bnd (fa env) fun x => bnd (ofO (frozen x)) fun xs => ret xs.reverse
theorem it_rev {w : Wd} {a : Addr} {xs : List V} {ds : List Dv} (ha : SqLM G w a xs) (ra : RpAll G w xs ds) : ItOk G w (Itv G.K a xs.length) ds.reverse := fun w2 S2 e2 s2 => by
  have ha2 := (ha.mono e2).to
  have ra2 := ra.mono e2
  have hl := ra.length
  refine ⟨fun i hi => ?_, ?_, fun i d x H' hd hy => ?_⟩
  · have hx : i < xs.length := by rw [hl]; simpa using hi
    exact ⟨hx, xs, xs[xs.length - 1 - i]'(by omega), ha2, List.getElem?_eq_getElem _⟩
  · show xs.length ≤ ds.reverse.length
    rw [List.length_reverse, hl]
    exact Nat.le_refl _
  · obtain ⟨rfl, hx⟩ := hy
    have hi : i < ds.length := by
      have := (List.getElem?_eq_some_iff.1 hd).1
      simpa using this
    rw [List.getElem?_reverse hi, ← hl] at hd
    obtain ⟨v, h1, h2⟩ := ra2.get hd
    rw [hx xs ha2] at h1
    cases h1
    exact ⟨w2, rfl, Ext.refl _, s2, h2⟩
theorem it_revT {w : Wd} {a : Addr} {xs : List V} {ds : List Dv} (ha : SqTM G w a xs) (ra : RpAll G w xs ds) : ItOk G w (ItvT G.K a xs.length) ds.reverse := fun w2 S2 e2 s2 => by
  have ha2 := (ha.mono e2).to
  have ra2 := ra.mono e2
  have hl := ra.length
  refine ⟨fun i hi => ?_, ?_, fun i d x H' hd hy => ?_⟩
  · have hx : i < xs.length := by rw [hl]; simpa using hi
    exact ⟨hx, xs, xs[xs.length - 1 - i]'(by omega), ha2, List.getElem?_eq_getElem _⟩
  · show xs.length ≤ ds.reverse.length
    rw [List.length_reverse, hl]
    exact Nat.le_refl _
  · obtain ⟨rfl, hx⟩ := hy
    have hi : i < ds.length := by
      have := (List.getElem?_eq_some_iff.1 hd).1
      simpa using this
    rw [List.getElem?_reverse hi, ← hl] at hd
    obtain ⟨v, h1, h2⟩ := ra2.get hd
    rw [hx xs ha2] at h1
    cases h1
    exact ⟨w2, rfl, Ext.refl _, s2, h2⟩
theorem i_rev {tg e : Expr} {fa : FE} {p pos : Pos} (hm : X.mg "reversed" = none) (ha : DE X ξ W e fa) (hg : Gl X "reversed" := by rfl) (hs : starEach [e] X.env = (false, eval e X.env) :: starEach [] X.env := by rfl) : DI X ξ W tg (.Call (.Name "reversed" p) [e] [] pos) (fRev fa) :=
  PI.imp (pi_revA hg hm ha hs) fun σ H R ⟨w, env, S, res, eH, s, en, h, p⟩ => by
    subst eH
    refine seqR s en h p.px fun x S1 v w1 e1 s1 en1 r1 h1 => ?_
    obtain ⟨ds, hd, h2⟩ := bnd_ofO h1
    cases h2
    cases r1 <;> first | (cases hd; done) | skip
    · rename_i a xs ds' ha ra
      cases hd
      exact ⟨a, xs, rfl, .inr ⟨ha.to, p.ok_ e1 s1 (it_revT ha ra)⟩⟩
    · rename_i a xs ds' ha ra
      cases hd
      exact ⟨a, xs, rfl, .inl ⟨ha.to, p.ok_ e1 s1 (it_rev ha ra)⟩⟩
end
end FC

set_option Elab.async false
set_option linter.all false
set_option maxRecDepth 100000
namespace FC
open PySem PySem.Spec L2
section
variable {X : Cx} {ξ : Iv} {W : WX} {G : Gp}
/-- a list, named or frozen -/
@[simp] def listOf (d : Dv) (S : Store) : Option (List Dv) := match d with
  | .lst xs => some xs
  | .obj n => match S[n]? with
    | some (.lst xs) => some xs
    | _ => none
  | _ => none
theorem listOf_ok {w : Wd} {S : Store} {v : V} {d : Dv} {ds : List Dv} (s : SOk G w S) (r : Rp G w v d) (h : listOf d S = some ds) : ∃ a xs, v = .ref a ∧ SqL G.K w.H a xs ∧ RpAll G w xs ds := by
  cases r <;> first | (cases h; done) | skip
  · rename_i ha ra; cases h; exact ⟨_, _, rfl, ha.to, ra⟩
  · rename_i a n ha
    dsimp only [listOf] at h
    cases e : S[n]? with
    | none => rw [e] at h; cases h
    | some d =>
      rw [e] at h
      have m := s.cont n a d ha e
      cases d <;> first | (cases h; done) | skip
      obtain ⟨xs, h1, h2⟩ := m
      cases h
      exact ⟨a, xs, rfl, SqL.of h1, h2⟩
/-! ### xs[::-1] -/
@[simp] def fRevL (m : Bool) (fa : FE) : FE := fun env => bnd (fa env) fun x S => match listOf x S with
  | some xs => newL m xs.reverse S
  | none => none
theorem RpAll.rev {w : Wd} : ∀ {xs : List V} {ds : List Dv}, RpAll G w xs ds → RpAll G w xs.reverse ds.reverse
  | [], [], .nil => .nil
  | x :: xs, d :: ds, .cons h r => by
    rw [List.reverse_cons, List.reverse_cons]
    exact (RpAll.rev r).append (.cons h .nil)
theorem d_revL (m : Bool) {e : Expr} {fa : FE} {k : Nat} {p1 p2 p3 pos : Pos} (ha : DE X ξ W e fa) : DE X ξ W (.Subscript e (.Slice none none (some (.UnaryOp .USub (.Constant (.int 1) k p1) p2)) p3) pos) (fRevL m fa) :=
  PE.imp (pe_revL ha) fun σ H Q ⟨w, env, S, res, eH, s, en, h, p⟩ => by
    subst eH
    refine seqR s en h p.px fun x S1 v w1 e1 s1 en1 r1 h1 => ?_
    cases hl : listOf x S1 with
    | none => rw [hl] at h1; cases h1
    | some ds =>
      rw [hl] at h1
      obtain ⟨a, xs, rfl, hs, hr⟩ := listOf_ok s1 r1 hl
      exact ⟨a, xs, rfl, hs, new_lst s1 (RpAll.rev hr) h1 (p.mono e1 s1)⟩
/-! ### for i in reversed(range(..)) -/
@[simp] def fRevR (fr : FR) : FI := fun env => bnd (fr env) fun ab => if rgOk ab.1 ab.2 then ret (((upTo ab.1 (ab.2 - ab.1).toNat).map Dv.int).reverse) else stuck
theorem rgOk.b {a b : Int} (h : rgOk a b) : -(2 ^ 62) ≤ a ∧ a < 2 ^ 62 ∧ -(2 ^ 62) ≤ b ∧ b < 2 ^ 62 := by
  obtain ⟨h1, h2⟩ := h
  omega
theorem it_revR {w : Wd} {a b : Int} : ItOk G w (Itc (a + (((b - a).toNat : Nat) : Int) - 1) (-1) (b - a).toNat) ((upTo a (b - a).toNat).map Dv.int).reverse := fun w2 S2 e2 s2 => by
  generalize (b - a).toNat = n
  have hl : ((upTo a n).map Dv.int).length = n := by simp [upTo]
  refine ⟨fun i hi => by rw [List.length_reverse, hl] at hi; exact hi, by rw [List.length_reverse, hl]; exact Nat.le_refl _, fun i d x H' hd hy => ?_⟩
  obtain ⟨rfl, rfl⟩ := hy
  have hi : i < n := by
    have := (List.getElem?_eq_some_iff.1 hd).1
    rwa [List.length_reverse, hl] at this
  rw [List.getElem?_reverse (by rw [hl]; exact hi), hl] at hd
  have : d = .int (a + (n : Int) - 1 + (i : Nat) * (-1)) := by
    unfold upTo at hd
    rw [List.map_map, List.getElem?_map, List.getElem?_range (by omega)] at hd
    have e := Option.some.inj hd
    rw [← e]
    simp only [Function.comp_apply]
    congr 1
    omega
  subst this
  exact ⟨w2, rfl, Ext.refl _, s2, .int _⟩
def tFR (G : Gp) (ξ : Iv) (W : WX) (f : FR) := tG G ξ W RR f
@[simp] def fR1 (fa : FE) : FR := fun env => bnd (fa env) fun x => bnd (ofO (asI x)) fun n => ret (0, n)
@[simp] def fR2 (fa fb : FE) : FR := fun env => bnd (fa env) fun x => bnd (fb env) fun y => bnd (ofO (asI x)) fun i => bnd (ofO (asI y)) fun j => ret (i, j)
theorem i_revR1 {tg e : Expr} {fa : FE} {p p2 pos pos2 : Pos} (hm : X.mg "reversed" = none) (hmr : X.mg "range" = none) (ha : DE X ξ W e fa) (hg : Gl X "reversed" := by rfl) (hgr : Gl X "range" := by rfl) (na : starEach [e] X.env = (false, eval e X.env) :: starEach [] X.env := by rfl)
    (hs : starEach [.Call (.Name "range" p2) [e] [] pos2] X.env = (false, eval (.Call (.Name "range" p2) [e] [] pos2) X.env) :: starEach [] X.env := by rfl) : DI X ξ W tg (.Call (.Name "reversed" p) [.Call (.Name "range" p2) [e] [] pos2] [] pos) (fRevR (fR1 fa)) :=
  PI.imp (pi_revR hg hm (prg_1 hgr hmr ha na) hs) fun σ H R ⟨w, env, S, res, eH, s, en, h, p⟩ => by
    subst eH
    show tRg1 (tD (gp X) ξ W fa) σ w.H _
    have h' : bnd (fa env) (fun x => bnd (ofO (asI x)) fun n => if rgOk 0 n then ret (((upTo 0 (n - 0).toNat).map Dv.int).reverse) else stuck) S = some res := by
      rw [← h]
      simp only [fRevR, fR1, bnd, ofO, ret]
      cases fa env S with
      | none => rfl
      | some r =>
        cases r with
        | exc _ _ _ => rfl
        | ok x S1 => dsimp only; cases asI x <;> rfl
    refine seqR s en h' p.px fun x S1 v w1 e1 s1 en1 r1 h1 => ?_
    obtain ⟨n, rfl, h2⟩ := asI_bnd r1 h1
    by_cases z : rgOk 0 n
    · rw [if_pos z] at h2
      cases h2
      obtain ⟨b1, b2, b3, b4⟩ := z.b
      exact ⟨n, rfl, b1, b2, b3, b4, p.ok_ e1 s1 it_revR⟩
    · rw [if_neg z] at h2; cases h2
/-! ### [x] * n -/
@[simp] def fRep (m : Bool) (fa fb : FE) : FE := fun env => bnd (fa env) fun x => bnd (fb env) fun y => bnd (ofO (asI y)) fun n => if n.natAbs ≤ 100000 then newL m (List.replicate n.toNat x) else stuck
theorem flat_rep {α : Type} (v : α) : ∀ n : Nat, (List.replicate n [v]).flatten = List.replicate n v
  | 0 => rfl
  | n + 1 => by rw [List.replicate_succ, List.flatten_cons, flat_rep v n, List.replicate_succ]; rfl
theorem RpAll.rep {w : Wd} {v : V} {d : Dv} (h : Rp G w v d) : ∀ n : Nat, RpAll G w (List.replicate n v) (List.replicate n d)
  | 0 => .nil
  | n + 1 => by rw [List.replicate_succ, List.replicate_succ]; exact .cons h (RpAll.rep h n)
theorem d_rep (m : Bool) {a b : Expr} {fa fb : FE} {p1 pos : Pos} (ha : DA X ξ W [a] (fCons fa fNil)) (hb : DE X ξ W b fb) : DE X ξ W (.BinOp (.List [a] p1) .Mult b pos) (fRep m fa fb) :=
  PE.imp (pe_op op_rep (pe_lst ha) hb) fun σ H Q ⟨w, env, S, res, eH, s, en, h, p⟩ => by
    subst eH
    have h' : bnd (fCons fa fNil env) (fun xs => match xs with
      | [x] => bnd (fb env) fun y => bnd (ofO (asI y)) fun n => if n.natAbs ≤ 100000 then newL m (List.replicate n.toNat x) else stuck
      | _ => stuck) S = some res := by
      rw [← h]
      simp only [fRep, fCons, fNil, bnd, ret]
      cases fa env S with
      | none => rfl
      | some r => cases r <;> rfl
    refine seqR s en h' p.px fun xs S1 vs w1 e1 s1 en1 r1 h1 => ?_
    split at h1
    · rename_i x
      obtain ⟨v, rfl, hv⟩ := rp1 r1
      refine ⟨big_le (show 1 ≤ big by decide), fun q hq => ?_⟩
      have eP : Ext w1 (w1.put q (.lst [v])) := .put hq
      have sP : SOk (gp X) (w1.put q (.lst [v])) S1 := s1.put hq
      refine seqR sP (en1.mono eP) h1 (p.px.mono (e1.thru eP s1) sP) fun y S2 u w2 e2 s2 en2 r2 h2 => ?_
      obtain ⟨n, rfl, h3⟩ := asI_bnd r2 h2
      by_cases z : n.natAbs ≤ 100000
      · rw [if_pos z] at h3
        have hk : w2.H q = some (.lst [v]) := e2.keep q _ (fun z => s1.fresh hq (.inr z)) upd_same
        refine ⟨q, n, [v], rfl, rfl, hk, by omega, by omega, big_le (show 1 * n.toNat ≤ big by unfold big; omega), ?_⟩
        rw [flat_rep]
        exact new_lst s2 (RpAll.rep ((hv.mono eP).mono e2) _) h3 (p.mono ((e1.thru eP s1).thru e2 sP) s2)
      · rw [if_neg z] at h3; cases h3
    · cases h1
end
end FC

set_option Elab.async false
set_option linter.all false
set_option maxRecDepth 100000
namespace FC
open PySem PySem.Spec L2
section
variable {X : Cx} {ξ : Iv} {W : WX} {G : Gp}
/-! ### methods that read a list -/
@[simp] def fMethR (k : List Dv → List Dv → Mm Dv) (fo : FE) (fa : FA) : FE := fun env => bnd (fo env) fun o => bnd (fa env) fun ds S => match listOf o S with
  | some xs => k xs ds S
  | none => none
def MethR (G : Gp) (r : V → List V → Hp → VK → Prop) (k : List Dv → List Dv → Mm Dv) : Prop := ∀ (W : WX) (w : Wd) (σ : L2.St) (S : Store) (a : Addr) (ys xs : List V) (es ds : List Dv) (res : Rs Dv) (Q : VK), SOk G w S → SqL G.K w.H a ys → RpAll G w ys es → RpAll G w xs ds → k es ds S = some res → PR G W (Rp G) w σ res Q → r (.ref a) xs w.H Q
/-- what stays a list -/
def isLst (o : Dv) (S : Store) : Bool := match o with
  | .lst _ => true
  | .obj n => match S[n]? with
    | some (.lst _) => true
    | _ => false
  | _ => false
theorem methR_body {r : V → List V → Hp → VK → Prop} {k : List Dv → List Dv → Mm Dv} {fo : FE} {fa : FA} (hd : MethR G r k) : ∀ σ H Q, tD G ξ W (fun env => bnd (fo env) fun o S => if isLst o S = true then bnd (fa env) (fun ds S => match listOf o S with
  | some xs => k xs ds S
  | none => none) S else none) σ H Q → tBM G.K "list" r (tD G ξ W fo) (tDA G ξ W fa) σ H Q := fun σ H Q ⟨w, env, S, res, eH, s, en, h, p⟩ => by
  subst eH
  refine seqR s en h p.px fun x S1 v w1 e1 s1 en1 r1 h1 => ?_
  by_cases z : isLst x S1 = true
  · rw [if_pos z] at h1
    have hty : tyV G.K "list" v w1.H := by
      obtain ⟨ds, hl⟩ : ∃ ds, listOf x S1 = some ds := by
        unfold isLst at z
        unfold listOf
        split at z
        · exact ⟨_, rfl⟩
        · split at z
          · rename_i n _ xs e
            exact ⟨xs, by simp [e]⟩
          · cases z
        · cases z
      obtain ⟨a, xs, rfl, hs, _⟩ := listOf_ok s1 r1 hl
      exact .inl ⟨rfl, xs, hs⟩
    refine ⟨hty, ?_⟩
    refine seqR s1 en1 h1 (p.px.mono e1 s1) fun ys S2 us w2 e2 s2 en2 r2 h2 => ?_
    cases hl : listOf x S2 with
    | none => rw [hl] at h2; cases h2
    | some xs =>
      rw [hl] at h2
      obtain ⟨a, zs, rfl, hs, hr⟩ := listOf_ok s2 (r1.mono e2) hl
      exact hd W w2 σ S2 a zs us xs ys res Q s2 hs hr r2 h2 (p.mono (e1.thru e2 s1) s2)
  · rw [if_neg z] at h1; cases h1
@[simp] def fMR (k : List Dv → List Dv → Mm Dv) (fo : FE) (fa : FA) : FE := fun env => bnd (fo env) fun o S => if isLst o S = true then bnd (fa env) (fun ds S => match listOf o S with
  | some xs => k xs ds S
  | none => none) S else none
@[simp] def cntK (es ds : List Dv) : Mm Dv := fun S => match asInts es, ds with
  | some ns, [.int i] => some (.ok (.int (ns.count i : Nat)) S)
  | _, _ => none
theorem md_cnt : MethR G (rCntI G.K) cntK := by
  intro W w σ S a ys xs es ds res Q s hs hr r h p
  unfold cntK at h
  cases hi : asInts es with
  | none => rw [hi] at h; cases h
  | some ns =>
    rw [hi] at h
    have e := ints_vs hr hi
    subst e
    match ds, r, h with
    | [.int i], r, h =>
      obtain ⟨v, rfl, hv⟩ := rp1 r
      cases hv
      cases h
      exact ⟨a, ns, i, rfl, rfl, hs, p.here s (.int _)⟩
@[simp] def idxK (es ds : List Dv) : Mm Dv := fun S => match asInts es, ds with
  | some ns, [.int i] => match ns.idxOf? i with
    | some j => some (.ok (.int (j : Nat)) S)
    | none => none
  | _, _ => none
theorem md_idx : MethR G (rIndex G.K) idxK := by
  intro W w σ S a ys xs es ds res Q s hs hr r h p
  unfold idxK at h
  cases hi : asInts es with
  | none => rw [hi] at h; cases h
  | some ns =>
    rw [hi] at h
    have e := ints_vs hr hi
    subst e
    match ds, r, h with
    | [.int i], r, h =>
      obtain ⟨v, rfl, hv⟩ := rp1 r
      cases hv
      cases hj : ns.idxOf? i with
      | none => simp only [hj] at h; cases h
      | some j =>
        simp only [hj] at h
        cases h
        unfold List.idxOf? at hj
        rw [List.findIdx?_eq_some_iff_getElem] at hj
        obtain ⟨h1, h2, h3⟩ := hj
        refine ⟨a, ns.map V.int, .int i, j, .int i, rfl, rfl, hs, rfl, flat_ints ns, ?_, by simp [eqV], fun m z hm hz => ?_, p.here s (.int _)⟩
        · rw [List.getElem?_map, List.getElem?_eq_getElem h1]
          have : ns[j] = i := by simpa using h2
          rw [this]
          rfl
        · rw [List.getElem?_map, List.getElem?_eq_getElem (by omega)] at hz
          cases hz
          have := h3 m hm
          show (ns[m] == i) = false
          simpa using this
section
variable {o a : Expr} {fo : FE} {fa : FA} {apos cpos : Pos}
theorem d_count (ho : DE X ξ W o fo) (ha : DA X ξ W [a] fa)
    (hbase : attributeBase o "count" X.env (eval o X.env) = eval o X.env := by rfl)
    (hfew : ((backTo cpos (starEach [a] X.env)).all (fun x => !x.1) && (backToKw cpos (keywordEach [] X.env)).all (fun x => x.1.isSome)
      && decide ([a].length + ([] : List Keyword).length + (if ([] : List Keyword).isEmpty then 0 else 1) < 30)) = true := by rfl)
    (hline : (apos.endLine == cpos.line) = true := by rfl) (hs : starEach [a] X.env = (false, eval a X.env) :: starEach [] X.env := by rfl) (hplain : (backTo cpos (starEach [] X.env)).any (·.1) = false := by rfl) :
    DE X ξ W (.Call (.Attribute o "count" apos) [a] [] cpos) (fMR cntK fo fa) :=
  PE.imp (pe_bm PySem.F.plainAttrs_list PySem.F.slot_list_count PySem.F.type_list_count mt_lcount ho ha hbase hfew hline hs hplain) (methR_body md_cnt)
theorem d_index (ho : DE X ξ W o fo) (ha : DA X ξ W [a] fa)
    (hbase : attributeBase o "index" X.env (eval o X.env) = eval o X.env := by rfl)
    (hfew : ((backTo cpos (starEach [a] X.env)).all (fun x => !x.1) && (backToKw cpos (keywordEach [] X.env)).all (fun x => x.1.isSome)
      && decide ([a].length + ([] : List Keyword).length + (if ([] : List Keyword).isEmpty then 0 else 1) < 30)) = true := by rfl)
    (hline : (apos.endLine == cpos.line) = true := by rfl) (hs : starEach [a] X.env = (false, eval a X.env) :: starEach [] X.env := by rfl) (hplain : (backTo cpos (starEach [] X.env)).any (·.1) = false := by rfl) :
    DE X ξ W (.Call (.Attribute o "index" apos) [a] [] cpos) (fMR idxK fo fa) :=
  PE.imp (pe_bm PySem.F.plainAttrs_list PySem.F.slot_list_index PySem.F.type_list_index mt_index ho ha hbase hfew hline hs hplain) (methR_body md_idx)
end
/-! ### sorted of ints -/
@[simp] def oSorted (m : Bool) : DCl := fun ds S => match ds with
  | [d] => match (listOf d S).bind asInts with
    | some ns => newL m ((ns.mergeSort (fun a b => decide (a ≤ b))).map Dv.int) S
    | none => none
  | _ => none
theorem sorted_one {ns ms : List Int} (h : ms.Perm ns) (hs : ms.Pairwise (· ≤ ·)) : ms = ns.mergeSort fun a b => decide (a ≤ b) := by
  have h1 : (ns.mergeSort fun a b => decide (a ≤ b)).Perm ns := List.mergeSort_perm _ _
  have h2 : (ns.mergeSort fun a b => decide (a ≤ b)).Pairwise (· ≤ ·) := by
    have := List.pairwise_mergeSort (le := fun a b : Int => decide (a ≤ b)) (by intro a b c; simp; omega) (by intro a b; simp; omega) ns
    simpa using this
  exact List.Perm.eq_of_pairwise (le := (· ≤ ·)) (by intro a b _ _ h1 h2; omega) hs h2 (h.trans h1.symm)
theorem cd_sorted (m : Bool) : CallD G (rSortedI G.K) (oSorted m) := by
  intro W w σ S xs ds res Q s r h p
  match ds, r, h with
  | [d], r, h =>
    obtain ⟨v, rfl, hv⟩ := rp1 r
    unfold oSorted at h
    dsimp only at h
    cases hl : listOf d S with
    | none => rw [hl] at h; cases h
    | some es =>
      cases hi : asInts es with
      | none => rw [hl] at h; simp only [Option.bind, hi] at h; cases h
      | some ns =>
        rw [hl] at h; simp only [Option.bind, hi] at h
        obtain ⟨a, zs, rfl, hs, hr⟩ := listOf_ok s hv hl
        have e := ints_vs hr hi
        subst e
        refine ⟨a, ns, rfl, hs, fun ms q hp hw hq => ?_⟩
        rw [sorted_one hp hw]
        exact new_lst s (RpAll.of_ints _) h p q hq
end
end FC

set_option Elab.async false
set_option linter.all false
set_option maxRecDepth 100000
namespace FC
open PySem PySem.Spec L2
/-! ### instances: fields -/
section
variable {X : Cx} {ξ : Iv} {W : WX} {G : Gp}
def insOf (d : Dv) (S : Store) : Option (Str × List (Str × Dv)) := match d with
  | .ins c fs => some (c, fs)
  | .obj n => match S[n]? with
    | some (.ins c fs) => some (c, fs)
    | _ => none
  | _ => none
theorem insOf_ok {w : Wd} {S : Store} {v : V} {d : Dv} {c : Str} {fs : List (Str × Dv)} (s : SOk G w S) (r : Rp G w v d) (h : insOf d S = some (c, fs)) : ∃ a dx fs', v = .ref a ∧ w.H a = some (.ins (G.cA c) dx fs') ∧ fs'.map Prod.fst = fs.map Prod.fst ∧ RpAll G w (fs'.map Prod.snd) (fs.map Prod.snd) := by
  cases r <;> first | (cases h; done) | skip
  · rename_i a n ha
    dsimp only [insOf] at h
    cases e : S[n]? with
    | none => rw [e] at h; cases h
    | some d =>
      rw [e] at h
      have m := s.cont n a d ha e
      cases d <;> first | (cases h; done) | skip
      cases h
      obtain ⟨dx, fs', h1, h2, h3⟩ := m
      exact ⟨a, dx, fs', rfl, h1, h2, h3⟩
  · cases h
    rename_i a dx fs' h2 h1 h3 h4
    exact ⟨a, dx, fs', rfl, h1, h3, h4⟩
theorem look_ok {w : Wd} {f : Str} : ∀ {fs' : List (Str × V)} {fs : List (Str × Dv)}, fs'.map Prod.fst = fs.map Prod.fst → RpAll G w (fs'.map Prod.snd) (fs.map Prod.snd) → (∀ d, fs.lookup f = some d → ∃ v, fs'.lookup f = some v ∧ Rp G w v d) ∧ (fs.lookup f = none → fs'.lookup f = none)
  | [], [], _, _ => ⟨fun d h => (by cases h), fun _ => rfl⟩
  | (g, v) :: fs', (g2, d) :: fs, hn, hr => by
    simp only [List.map_cons, List.cons.injEq] at hn
    obtain ⟨hg, hn⟩ := hn
    subst hg
    cases hr with
    | cons hv hr =>
      obtain ⟨i1, i2⟩ := look_ok (f := f) hn hr
      rw [List.lookup_cons, List.lookup_cons]
      cases f == g with
      | true => exact ⟨fun e h => by cases h; exact ⟨v, rfl, hv⟩, fun h => by cases h⟩
      | false => exact ⟨i1, i2⟩
  | [], _ :: _, hn, _ => by simp at hn
  | _ :: _, [], hn, _ => by simp at hn
/-- o.f, o an instance of just this class -/
@[simp] def fFld (c f : Str) (fa : FE) : FE := fun env => bnd (fa env) fun x S => match insOf x S with
  | some (c', fs) => if c' = c then (match fs.lookup f with
    | some d => some (.ok d S)
    | none => none) else none
  | none => none
theorem d_fld {c f : Str} {e : Expr} {fa : FE} {pos : Pos} (hC : Cls X.K (cOf X.mg c)) (hN : NoAttr X.K (cOf X.mg c) f) (ha : DE X ξ W e fa) (hb : attributeBase e f X.env (eval e X.env) = eval e X.env := by rfl) : DE X ξ W (.Attribute e f pos) (fFld c f fa) :=
  PE.imp (pe_fld ha hb) fun σ H Q ⟨w, env, S, res, eH, s, en, h, p⟩ => by
    subst eH
    refine seqR s en h p.px fun x S1 v w1 e1 s1 en1 r1 h1 => ?_
    cases hi : insOf x S1 with
    | none => rw [hi] at h1; cases h1
    | some q =>
      obtain ⟨c', fs⟩ := q
      rw [hi] at h1
      by_cases z : c' = c
      · subst z
        simp only [if_pos] at h1
        obtain ⟨a, dx, fs', rfl, hH, hn, hr⟩ := insOf_ok s1 r1 hi
        cases hl : fs.lookup f with
        | none => rw [hl] at h1; cases h1
        | some d =>
          rw [hl] at h1
          cases h1
          obtain ⟨v, h2, h3⟩ := (look_ok hn hr).1 d hl
          exact ⟨a, _, dx, fs', v, rfl, hH, hC, hN, h2, p.ok_ e1 s1 h3⟩
      · simp only [if_neg z] at h1
        cases h1
/-- a constant of the class -/
@[simp] def fCon (c f : Str) (d : Dv) (fa : FE) : FE := fun env => bnd (fa env) fun x S => match insOf x S with
  | some (c', fs) => if c' = c ∧ fs.lookup f = none then some (.ok d S) else none
  | none => none
theorem d_con {c f : Str} {e : Expr} {fa : FE} {pos : Pos} {v : V} {u : Value} {d : Dv} (hC : Cls X.K (cOf X.mg c)) (hN : Con X.K (cOf X.mg c) f v u) (hv : ∀ w, Rp (gp X) w v d) (ha : DE X ξ W e fa) (hb : attributeBase e f X.env (eval e X.env) = eval e X.env := by rfl) : DE X ξ W (.Attribute e f pos) (fCon c f d fa) :=
  PE.imp (pe_con ha hb) fun σ H Q ⟨w, env, S, res, eH, s, en, h, p⟩ => by
    subst eH
    refine seqR s en h p.px fun x S1 y w1 e1 s1 en1 r1 h1 => ?_
    cases hi : insOf x S1 with
    | none => rw [hi] at h1; cases h1
    | some q =>
      obtain ⟨c', fs⟩ := q
      rw [hi] at h1
      by_cases z : c' = c ∧ fs.lookup f = none
      · simp only [if_pos z] at h1
        obtain ⟨z1, z2⟩ := z
        subst z1
        cases h1
        obtain ⟨a, dx, fs', rfl, hH, hn, hr⟩ := insOf_ok s1 r1 hi
        exact ⟨a, _, dx, fs', v, u, rfl, hH, hC, hN, (look_ok hn hr).2 z2, p.ok_ e1 s1 (hv w1)⟩
      · simp only [if_neg z] at h1
        cases h1
/-- o.f = value -/
def putD (f : Str) (v : Dv) : List (Str × Dv) → List (Str × Dv)
  | [] => [(f, v)]
  | (g, x) :: r => if g = f then (g, v) :: r else (g, x) :: putD f v r
theorem putD_ok {w : Wd} {f : Str} {v : V} {d : Dv} (hv : Rp G w v d) : ∀ {fs' : List (Str × V)} {fs : List (Str × Dv)}, fs'.map Prod.fst = fs.map Prod.fst → RpAll G w (fs'.map Prod.snd) (fs.map Prod.snd) → (putF f v fs').map Prod.fst = (putD f d fs).map Prod.fst ∧ RpAll G w ((putF f v fs').map Prod.snd) ((putD f d fs).map Prod.snd)
  | [], [], _, _ => ⟨rfl, .cons hv .nil⟩
  | (g, x) :: fs', (g2, y) :: fs, hn, hr => by
    simp only [List.map_cons, List.cons.injEq] at hn
    obtain ⟨hg, hn⟩ := hn
    subst hg
    cases hr with
    | cons hx hr =>
      obtain ⟨i1, i2⟩ := putD_ok hv hn hr
      unfold putF putD
      by_cases z : g = f
      · rw [if_pos z, if_pos z]
        exact ⟨by simp only [List.map_cons, hn], .cons hv hr⟩
      · rw [if_neg z, if_neg z]
        exact ⟨by simp only [List.map_cons, i1], .cons hx i2⟩
  | [], _ :: _, hn, _ => by simp at hn
  | _ :: _, [], hn, _ => by simp at hn
def setFld (c f : Str) (o v : Dv) (S : Store) : Option Store := match o with
  | .obj n => match S[n]? with
    | some (.ins c' fs) => if c' = c ∧ fs.length < 1000 then some (S.set n (.ins c (putD f v fs))) else none
    | _ => none
  | _ => none
def sSetFld (c f : Str) (fo fe : FE) : FS := sBnd fe fun v => sBnd fo fun o => fun env S => match setFld c f o v S with
  | some S' => some (.nx env S')
  | none => none
theorem s_setFld {c f : Str} {o e : Expr} {fo fe : FE} {pos pos' : Pos} (hC : Cls X.K (cOf X.mg c)) (hN : NoAttr X.K (cOf X.mg c) f) (ho : DE X ξ W o fo) (he : DE X ξ W e fe) (hs : swapsWith e (some (.Attribute o f pos')) pos.line X.env = pure false := by rfl) : DS X ξ W (.Assign [.Attribute o f pos'] e pos) (sSetFld c f fo fe) :=
  PS.imp (ps_fld ho he hs) fun D σ H ⟨w, env, S, r, eH, s, en, h, p⟩ => by
    subst eH
    refine seqS s en h p.px fun d S1 v w1 e1 s1 en1 r1 h1 => seqS s1 en1 h1 (p.mono e1).px fun o S2 ov w2 e2 s2 en2 r2 h2 => ?_
    cases q : setFld c f o d S2 with
    | none => rw [q] at h2; cases h2
    | some S4 =>
      rw [q] at h2
      cases h2
      unfold setFld at q
      split at q
      · rename_i n
        split at q
        · rename_i c' fs hS
          by_cases z : c' = c ∧ fs.length < 1000
          · rw [if_pos z] at q
            obtain ⟨z1, z2⟩ := z
            subst z1
            cases q
            cases r2 with
            | obj ha =>
              rename_i a
              obtain ⟨dx, fs', hx, hn, hr⟩ := s2.cont n a _ ha hS
              have hlen : fs'.length = fs.length := by
                have := congrArg List.length hn
                simpa using this
              refine ⟨a, _, dx, fs', rfl, hx, hC, hN, by omega, ?_⟩
              have e4 : Ext w2 (w2.put a (.ins (cOf X.mg c') dx (putF f v fs'))) := .upd ha
              obtain ⟨k1, k2⟩ := putD_ok (f := f) (((r1.mono e2).mono e4)) hn (hr.mono e4)
              have s4 : SOk (gp X) (w2.put a (.ins (cOf X.mg c') dx (putF f v fs'))) (S2.set n (.ins c' (putD f d fs))) := s2.upd ha ⟨dx, _, upd_same, k1, k2⟩
              exact p σ (w2.put a (.ins (cOf X.mg c') dx (putF f v fs'))) ((e1.trans e2).trans e4) s4 (en2.mono e4)
          · rw [if_neg z] at q; cases q
        · cases q
      · cases q
end
end FC

set_option Elab.async false
set_option linter.all false
set_option maxRecDepth 100000
namespace FC
open PySem PySem.Spec L2
/-! ### instances: made, asked -/
section
variable {X : Cx} {ξ : Iv} {W : WX} {CX : CXT} {k : Nat} {f C : Addr} {fd : FuncData} {ps : List Str} {sp : Sp} {E : L2.St → XK}
/-- an instance, the errors by the slots -/
def tMkS (C : Addr) (sp : Sp) (E : L2.St → XK) (t : TA) : TE := fun σ H Q => t σ H fun vs H1 =>
  ∀ x dx, H1 x = none → H1 dx = none → dx ≠ x → sp (V.ref x :: vs) (upd (upd H1 dx (.own x)) x (.ins C dx [])) (fun v H2 => v = V.non ∧ Q (V.ref x) H2) (E σ)
theorem run_mkS {pins : List (Addr × Obj)} {σ : L2.St} {H : Hp} {s : Shared} {Q : VK} {us : List Value} {vs : List V} (M : Mk X.K C f) (F : FnOk X.prog X.w X.K X.mg X.base CX k f fd ps sp) (hr : Room (k + 1) X.A) (hb : Binds X.K fd ps [])
    (hx : PassesAt CX X σ (E σ)) (I : Inv X pins σ H s) (rv : Vals vs us)
    (h : ∀ x dx, H x = none → H dx = none → dx ≠ x → sp (V.ref x :: vs) (upd (upd H dx (.own x)) x (.ins C dx [])) (fun v H2 => v = V.non ∧ Q (V.ref x) H2) (E σ)) :
    wpAny (model X.prog X.w) X.A (call (Value.ref C) us) (EP X pins σ Q) X.xe s := by
  let z := s.heap.objs.size
  have wish := h (z + 1) z (I.hok.fresh (Nat.le_succ z)) (I.hok.fresh (Nat.le_refl z)) (Nat.ne_of_lt (Nat.lt_succ_self z))
  have J := Inv.made (C := C) I
  have rall : Vals (V.ref (z + 1) :: vs) (Value.ref (z + 1) :: us) := .cons rfl rv
  have len : (Value.ref (z + 1) :: us ++ []).length = ps.length := by
    rw [List.append_nil, ← rall.length]
    exact F.len _ _ _ _ wish
  have binds := hb _ (Value.ref (z + 1) :: us) J.kIn len
  rw [List.append_nil] at binds
  refine wpAny_call (make_map (f := f) I.kIn M.makes M.init (beq_iff_eq.mp M.fn) (codeAny_mono (F.run _ X.stack _ _ ⟨Value.ref (z + 1) :: us, []⟩ (Value.ref (z + 1) :: us) _ _ (E σ) (hr.make C us []) (J.env0.make C us []) binds rall wish) fun r s' out => ?_))
  cases r with
  | error e => exact hx pins _ _ e s' J out
  | ok fl =>
    cases fl with
    | ret u =>
      obtain ⟨v, H', I3, ru, e, q⟩ := J.after out
      subst e
      exact ⟨ru, V.ref (z + 1), H', I3, rfl, q⟩
    | next => cases out
    | brk => cases out
    | cont => cases out
theorem pe_mkS {x : Str} {e : Expr} {es : List Expr} {p pos : Pos} {t : TA} (M : Mk X.K C f) (F : FnOk X.prog X.w X.K X.mg X.base CX k f fd ps sp) (hr : Room (k + 1) X.A) (hm : X.mg x = some (.ref C)) (hb : Binds X.K fd ps []) (hx : ∀ σ, PassesAt CX X σ (E σ))
    (ha : PA X (e :: es) t) (hg : Gl X x := by rfl) (hdb : (x == ("__debug__" : Str)) = false := by decide) (he : starEach (e :: es) X.env = (false, eval e X.env) :: starEach es X.env := by rfl) (hpl : (backTo pos (starEach es X.env)).any (·.1) = false := by rfl) :
    PE X (.Call (.Name x p) (e :: es) [] pos) (tMkS C sp E t) := ⟨fun pins s σ H Q I h => by
  refine wpAny_Call_Name_kw (ld_glob I hg hm ?_ hdb)
  exact PySem.W.callWith_K (h₀ := X.base) I.ok.mod.kin M.kp (thn (ha.run pos pins s σ H _ I h) fun us s1 ⟨vs, H1, I1, rv, q⟩ => ⟨I1.kIn, run_mkS M F hr hb (hx σ) I1 rv q⟩) he hpl⟩
@[simp] def fMake (c : Str) (n : Nat) (F : DFn) (fa : FA) : FE := fun env => bnd (fa env) fun ds S => if ds.length = n then (match F (.obj S.length :: ds) (S ++ [.ins c []]) with
  | some (.ok .non S') => some (.ok (.obj S.length) S')
  | some (.exc e fs S') => some (.exc e fs S')
  | _ => none) else none
theorem d_make {c : Str} {n : Nat} {F : DFn} {e : Expr} {es : List Expr} {p pos : Pos} {fa : FA} (M : Mk X.K (cOf X.mg c) f) (hF : FnOk X.prog X.w X.K X.mg X.base (L2.CX X.prog X.w) k f fd ps (spD X.K X.mg (n + 1) F)) (hr : Room (k + 1) X.A) (hm : X.mg c = some (.ref (cOf X.mg c))) (hb : Binds X.K fd ps []) (tk : Takes X W)
    (ha : DA X ξ W (e :: es) fa) (hg : Gl X c := by rfl) (hdb : (c == ("__debug__" : Str)) = false := by decide) (he : starEach (e :: es) X.env = (false, eval e X.env) :: starEach es X.env := by rfl) (hpl : (backTo pos (starEach es X.env)).any (·.1) = false := by rfl) :
    DE X ξ W (.Call (.Name c p) (e :: es) [] pos) (fMake c n F fa) :=
  PE.imp (pe_mkS M hF hr hm hb (fun σ => passAt tk σ) ha hg hdb he hpl) fun σ H Q ⟨w, env, S, res, eH, s, en, h, p⟩ => by
    subst eH
    refine seqR s en h p.px fun ds S1 vs w1 e1 s1 en1 r1 h1 => ?_
    by_cases z : ds.length = n
    · rw [if_pos z] at h1
      intro x dx hx hdx hne
      have eA : Ext w1 (w1.put dx (.own x)) := .put hdx
      have sA : SOk (gp X) (w1.put dx (.own x)) S1 := s1.put hdx
      have hx2 : (w1.put dx (.own x)).H x = none := by
        show upd w1.H dx _ x = none
        rw [upd_ne (fun q => hne q.symm)]
        exact hx
      let w2 : Wd := (w1.put dx (.own x)).add x (.ins (cOf X.mg c) dx [])
      have eB : Ext (w1.put dx (.own x)) w2 := .add hx2
      have sB : SOk (gp X) w2 (S1 ++ [.ins c []]) := sA.add hx2 ⟨dx, [], upd_same, rfl, .nil⟩
      have ro : Rp (gp X) w2 (V.ref x) (.obj S1.length) := Rp.add_obj sA
      have e12 := (e1.thru eA s1).thru eB sA
      have pp := p.mono e12 sB
      cases hF2 : F (.obj S1.length :: ds) (S1 ++ [.ins c []]) with
      | none => rw [hF2] at h1; cases h1
      | some r =>
        rw [hF2] at h1
        refine ⟨by rw [List.length_cons, r1.length, z], w2, S1 ++ [.ins c []], .obj S1.length :: ds, r, rfl, sB, .cons ro ((r1.mono eA).mono eB), hF2, ?_⟩
        cases r with
        | ok d S' =>
          cases d <;> first | (cases h1; done) | skip
          cases h1
          intro v w' e' s' rv
          cases rv
          cases ro with
          | obj ha2 => exact ⟨rfl, pp.ok_ e' s' (.obj (e'.as_of ha2))⟩
        | exc c2 fs2 S' =>
          cases h1
          exact fun dd fs' w' e s' hd hm hn hr => pp dd fs' w' e s' hd hm hn hr
    · rw [if_neg z] at h1; cases h1
/-! ### methods -/
def tMtS (C : Addr) (m : Str) (sp : Sp) (E : L2.St → XK) (ta : TE) (t : TA) : TE := fun σ H Q => ta σ H fun x H1 => ∃ a dx fs, x = V.ref a ∧ H1 a = some (.ins C dx fs) ∧ fs.lookup m = none ∧ t σ H1 fun vs H2 => sp (x :: vs) H2 Q (E σ)
theorem pe_mtS {pl : Sem Bool} {o e : Expr} {es : List Expr} {m : Str} {apos pos : Pos} {to : TE} {t : TA} (ho : PE X o to) (c : Cls X.K C) (hm : Meth X.K C m f) (F : FnOk X.prog X.w X.K X.mg X.base CX k f fd ps sp) (hr : Room k X.A) (hb : Binds X.K fd ps []) (hx : ∀ σ, PassesAt CX X σ (E σ)) (ha : PA X (e :: es) t)
    (hst : starEach (e :: es) X.env = (false, eval e X.env) :: starEach es X.env := by rfl) (hpl : (backTo pos (starEach es X.env)).any (·.1) = false := by rfl)
    (ht : eval (.Call (.Attribute o m apos) (e :: es) [] pos) X.env = (do
      let ov ← eval o X.env; standAt apos.atName; let (f, first) ← holding [ov] (getMethod ov m pl); callWith pos f first (backTo pos (starEach (e :: es) X.env)) (backToKw pos (keywordEach [] X.env))) := by rfl) :
    PE X (.Call (.Attribute o m apos) (e :: es) [] pos) (tMtS C m sp E to t) := ⟨fun pins s σ H Q I h => by
  refine PySem.W.methodCall_KW (pl := pl) (thn (ho.run pins s σ H _ I h) fun u s1 ⟨x, H1, I1, rx, a, dx, fs, ex, ea, l, q⟩ => ?_) ht
  cases ex
  cases (show u = Value.ref a from rx)
  refine getmeth_ok I1 ea c hm l (PySem.W.callWith_K (first := [.ref a]) (h₀ := X.base) I.ok.mod.kin hm.kp (thn (ha.run pos pins s1 σ H1 _ I1 q) fun us s2 ⟨vs, H2, I2, rv, q2⟩ => ⟨I2.kIn, ?_⟩) hst hpl)
  exact run_fnSD (us := .ref a :: us) (vs := .ref a :: vs) (dvs := []) F hr hb .nil (hx σ) I2 (.cons rfl rv) (by rw [List.append_nil]; exact q2)⟩
theorem pe_mtS0 {pl : Sem Bool} {o : Expr} {m : Str} {apos pos : Pos} {to : TE} (ho : PE X o to) (c : Cls X.K C) (hm : Meth X.K C m f) (F : FnOk X.prog X.w X.K X.mg X.base CX k f fd ps sp) (hr : Room k X.A) (hb : Binds X.K fd ps []) (hx : ∀ σ, PassesAt CX X σ (E σ))
    (ht : eval (.Call (.Attribute o m apos) [] [] pos) X.env = (do
      let ov ← eval o X.env; standAt apos.atName; let (f, first) ← holding [ov] (getMethod ov m pl); callWith pos f first (backTo pos (starEach [] X.env)) (backToKw pos (keywordEach [] X.env))) := by rfl) :
    PE X (.Call (.Attribute o m apos) [] [] pos) (tMtS C m sp E to tNil) := ⟨fun pins s σ H Q I h => by
  refine PySem.W.methodCall_KW (pl := pl) (thn (ho.run pins s σ H _ I h) fun u s1 ⟨x, H1, I1, rx, a, dx, fs, ex, ea, l, q⟩ => ?_) ht
  cases ex
  cases (show u = Value.ref a from rx)
  exact getmeth_ok I1 ea c hm l (PySem.W.callWith_K0 (first := [.ref a]) I1.kIn hm.kp (run_fnSD (us := [.ref a]) (vs := [.ref a]) (dvs := []) F hr hb .nil (hx σ) I1 (.cons rfl .nil) q))⟩
@[simp] def fMt (c m : Str) (n : Nat) (F : DFn) (fo : FE) (fa : FA) : FE := fun env => bnd (fo env) fun o S => match insOf o S with
  | some (c', fs) => if c' = c ∧ fs.lookup m = none then bnd (fa env) (fun ds => if ds.length = n then F (o :: ds) else stuck) S else none
  | none => none
theorem mt_body {c m : Str} {n : Nat} {F : DFn} {fo : FE} {fa : FA} : ∀ σ H Q, tD (gp X) ξ W (fMt c m n F fo fa) σ H Q → tMtS (cOf X.mg c) m (spD X.K X.mg (n + 1) F) (WE W) (tD (gp X) ξ W fo) (tDA (gp X) ξ W fa) σ H Q := fun σ H Q ⟨w, env, S, res, eH, s, en, h, p⟩ => by
  subst eH
  refine seqR s en h p.px fun o S1 v w1 e1 s1 en1 r1 h1 => ?_
  cases hi : insOf o S1 with
  | none => rw [hi] at h1; cases h1
  | some q =>
    obtain ⟨c', fs⟩ := q
    rw [hi] at h1
    by_cases z : c' = c ∧ fs.lookup m = none
    · simp only [if_pos z] at h1
      obtain ⟨z1, z2⟩ := z
      subst z1
      obtain ⟨a, dx, fs', rfl, hH, hn, hr⟩ := insOf_ok s1 r1 hi
      refine ⟨a, dx, fs', rfl, hH, (look_ok hn hr).2 z2, ?_⟩
      refine seqR s1 en1 h1 (p.px.mono e1 s1) fun ds S2 vs w2 e2 s2 en2 r2 h2 => ?_
      by_cases y : ds.length = n
      · rw [if_pos y] at h2
        have pp := p.mono (e1.thru e2 s1) s2
        refine ⟨by rw [List.length_cons, r2.length, y], w2, S2, o :: ds, res, rfl, s2, .cons (r1.mono e2) r2, h2, ?_⟩
        cases res with
        | ok d S' => exact pp
        | exc c2 fs2 S' => exact fun dd fs3 w' e s' hd hm hn hr => pp dd fs3 w' e s' hd hm hn hr
      · rw [if_neg y] at h2; cases h2
    · simp only [if_neg z] at h1
      cases h1
theorem d_meth {pl : Sem Bool} {c m : Str} {n : Nat} {F : DFn} {o e : Expr} {es : List Expr} {apos pos : Pos} {fo : FE} {fa : FA} (hC : Cls X.K (cOf X.mg c)) (hm : Meth X.K (cOf X.mg c) m f) (hF : FnOk X.prog X.w X.K X.mg X.base (L2.CX X.prog X.w) k f fd ps (spD X.K X.mg (n + 1) F)) (hr : Room k X.A) (hb : Binds X.K fd ps []) (tk : Takes X W) (ho : DE X ξ W o fo)
    (ha : DA X ξ W (e :: es) fa) (hst : starEach (e :: es) X.env = (false, eval e X.env) :: starEach es X.env := by rfl) (hpl : (backTo pos (starEach es X.env)).any (·.1) = false := by rfl)
    (ht : eval (.Call (.Attribute o m apos) (e :: es) [] pos) X.env = (do
      let ov ← eval o X.env; standAt apos.atName; let (f, first) ← holding [ov] (getMethod ov m pl); callWith pos f first (backTo pos (starEach (e :: es) X.env)) (backToKw pos (keywordEach [] X.env))) := by rfl) :
    DE X ξ W (.Call (.Attribute o m apos) (e :: es) [] pos) (fMt c m n F fo fa) := PE.imp (pe_mtS ho hC hm hF hr hb (fun σ => passAt tk σ) ha hst hpl ht) mt_body
theorem d_meth0 {pl : Sem Bool} {c m : Str} {F : DFn} {o : Expr} {apos pos : Pos} {fo : FE} (hC : Cls X.K (cOf X.mg c)) (hm : Meth X.K (cOf X.mg c) m f) (hF : FnOk X.prog X.w X.K X.mg X.base (L2.CX X.prog X.w) k f fd ps (spD X.K X.mg (0 + 1) F)) (hr : Room k X.A) (hb : Binds X.K fd ps []) (tk : Takes X W) (ho : DE X ξ W o fo)
    (ht : eval (.Call (.Attribute o m apos) [] [] pos) X.env = (do
      let ov ← eval o X.env; standAt apos.atName; let (f, first) ← holding [ov] (getMethod ov m pl); callWith pos f first (backTo pos (starEach [] X.env)) (backToKw pos (keywordEach [] X.env))) := by rfl) :
    DE X ξ W (.Call (.Attribute o m apos) [] [] pos) (fMt c m 0 F fo fNil) := PE.imp (pe_mtS0 ho hC hm hF hr hb (fun σ => passAt tk σ) ht) fun σ H Q h => by
  obtain ⟨w, env, S, res, eH, s, en, h, p⟩ := h
  subst eH
  refine seqR s en h p.px fun o S1 v w1 e1 s1 en1 r1 h1 => ?_
  cases hi : insOf o S1 with
  | none => rw [hi] at h1; cases h1
  | some q =>
    obtain ⟨c', fs⟩ := q
    rw [hi] at h1
    by_cases z : c' = c ∧ fs.lookup m = none
    · simp only [if_pos z] at h1
      obtain ⟨z1, z2⟩ := z
      subst z1
      obtain ⟨a, dx, fs', rfl, hH, hn, hr⟩ := insOf_ok s1 r1 hi
      have pp := p.mono e1 s1
      have h2 : F [o] S1 = some res := h1
      refine ⟨a, dx, fs', rfl, hH, (look_ok hn hr).2 z2, rfl, w1, S1, [o], res, rfl, s1, .cons r1 .nil, h2, ?_⟩
      cases res with
      | ok d S' => exact pp
      | exc c2 fs2 S' => exact fun dd fs3 w' e s' hd hm hn hr => pp dd fs3 w' e s' hd hm hn hr
    · simp only [if_neg z] at h1
      cases h1
end
end FC

set_option Elab.async false
set_option linter.all false
set_option maxRecDepth 100000
namespace FC
open PySem PySem.Spec L2
section
variable {X : Cx} {ξ : Iv} {W : WX} {G : Gp}
/-! ### what is walked, whatever becomes of the lists that are being made -/
theorem Wk.refl (w : Wd) : Wk w w := ⟨fun _ _ h => h, fun _ _ _ n => n, fun _ _ _ h => h⟩
theorem Wk.trans {w w1 w2 : Wd} (a : Wk w w1) (b : Wk w1 w2) : Wk w w2 := ⟨fun n x h => b.as n x (a.as n x h), fun x o h n => b.nM x o (a.keep x o n h) (a.nM x o h n), fun x o n h => b.keep x o (a.nM x o h n) (a.keep x o n h)⟩
theorem Wk.putD {w : Wd} {D : Addr} {o : HO} (hD : w.M D) : Wk w (w.put D o) := ⟨fun _ _ h => h, fun _ _ _ n => n, fun a u n h => by
  show upd w.H D o a = some u
  rw [upd_ne (fun z => n (by rw [z]; exact hD))]
  exact h⟩
theorem EOk.wkNo {w w' : Wd} {σ : L2.St} {env : DEnv} (k : Wk w w') (h : EOk G Iv.no w σ env) : EOk G Iv.no w' σ env := ⟨h.len, fun i d q => by
  obtain ⟨v, h1, h2⟩ := h.get i d q
  exact ⟨v, h1, h2.wk k⟩, True.intro⟩
def ItOkW (G : Gp) (w : Wd) (J : It) (ds : List Dv) : Prop := ∀ w2 S2, Wk w w2 → SOk G w2 S2 →
  (∀ i, i < ds.length → J.go i w2.H) ∧ J.stop ds.length w2.H ∧
    ∀ i d x H', ds[i]? = some d → J.yld i w2.H x H' → ∃ w3, w3.H = H' ∧ Ext w2 w3 ∧ SOk G w3 S2 ∧ Rp G w3 x d
def tIW (G : Gp) (ξ : Iv) (W : WX) (f : FI) : TI := tG G ξ W (fun w J ds => ItOkW G w J ds) f
def DIW (X : Cx) (ξ : Iv) (W : WX) (tg iter : Expr) (f : FI) : Prop := PI X tg iter (tIW (gp X) ξ W f)
theorem itW_rng {w : Wd} {lo : Int} {n : Nat} : ItOkW G w (Itr lo n) ((upTo lo n).map Dv.int) := fun w2 S2 _ s2 => it_rng (w := w2) w2 S2 (Ext.refl _) s2
section
variable {tg e e2 : Expr} {fa : FA} {p pos : Pos}
theorem iw_rng1 (hm : X.mg "range" = none) (ha : DA X ξ W [e] fa) (hg : Gl X "range" := by rfl) (hs : starEach [e] X.env = [(false, eval e X.env)] := by rfl) : DIW X ξ W tg (.Call (.Name "range" p) [e] [] pos) (fRng1 fa) := PI.imp (pi_range1 hg hm ha hs) fun σ H R ⟨w, env, S, res, eH, s, en, h, p⟩ => by
  subst eH
  refine seqR s en h p.px fun ds S1 vs w1 e1 s1 en1 rv h1 => ?_
  unfold rng1 at h1
  split at h1
  · rename_i j
    obtain ⟨v, rfl, hv⟩ := rp1 rv
    cases hv
    by_cases z : rngOk j
    · rw [if_pos z] at h1
      cases h1
      exact ⟨j, rfl, z.to.1, z.to.2, p.ok_ e1 s1 itW_rng⟩
    · rw [if_neg z] at h1; cases h1
  · cases h1
end
/-! ### comprehensions with two clauses -/
def compM2 (b : Bd) (ft : FT) (fi1 : FI) (vs1 : List Nat) (b1 : Bd) (ft1 : FT) (fe : FE) (env0 : DEnv) : List Dv → List Dv → Mm (List Dv)
  | [], acc => ret acc
  | d :: r, acc => fun S => match b d env0 with
    | none => none
    | some env1 => match ft env1 S with
      | some (.ok false S1) => compM2 b ft fi1 vs1 b1 ft1 fe env0 r acc S1
      | some (.ok true S1) => match fi1 env1 S1 with
        | some (.ok items1 S2) => match compM b1 ft1 fe (wipeD env1 vs1) items1 acc S2 with
          | some (.ok acc2 S3) => compM2 b ft fi1 vs1 b1 ft1 fe env0 r acc2 S3
          | _ => none
        | _ => none
      | _ => none
@[simp] def fLc2 (m : Bool) (fi : FI) (own : List Nat) (b : Bd) (ft : FT) (fi1 : FI) (vs1 : List Nat) (b1 : Bd) (ft1 : FT) (fe : FE) : FE := fun env => bnd (fi env) fun items => bnd (compM2 b ft fi1 vs1 b1 ft1 fe (wipeD env own) items []) (newL m)
theorem compM2_cons {b : Bd} {ft : FT} {fi1 : FI} {vs1 : List Nat} {b1 : Bd} {ft1 : FT} {fe : FE} {env0 : DEnv} {d : Dv} {r acc : List Dv} {S : Store} {res : Rs (List Dv)} (h : compM2 b ft fi1 vs1 b1 ft1 fe env0 (d :: r) acc S = some res) :
    ∃ env1, b d env0 = some env1 ∧ ((∃ S1, ft env1 S = some (.ok false S1) ∧ compM2 b ft fi1 vs1 b1 ft1 fe env0 r acc S1 = some res) ∨
      ∃ S1 items1 S2 acc2 S3, ft env1 S = some (.ok true S1) ∧ fi1 env1 S1 = some (.ok items1 S2) ∧ compM b1 ft1 fe (wipeD env1 vs1) items1 acc S2 = some (.ok acc2 S3) ∧ compM2 b ft fi1 vs1 b1 ft1 fe env0 r acc2 S3 = some res) := by
  unfold compM2 at h
  split at h
  · cases h
  · rename_i env1 e1
    refine ⟨env1, e1, ?_⟩
    split at h
    · rename_i S1 e2
      exact .inl ⟨S1, e2, h⟩
    · rename_i S1 e2
      split at h
      · rename_i items1 S2 e3
        split at h
        · rename_i acc2 S3 e4
          exact .inr ⟨S1, items1, S2, acc2, S3, e2, e3, e4, h⟩
        · cases h
      · cases h
    · cases h
theorem compM2_ok {b : Bd} {ft : FT} {fi1 : FI} {vs1 : List Nat} {b1 : Bd} {ft1 : FT} {fe : FE} {env0 : DEnv} : ∀ {items acc : List Dv} {S : Store} {res : Rs (List Dv)}, compM2 b ft fi1 vs1 b1 ft1 fe env0 items acc S = some res → ∃ ys S2, res = .ok ys S2
  | [], acc, S, res, h => by cases h; exact ⟨acc, S, rfl⟩
  | d :: r, acc, S, res, h => by
    obtain ⟨env1, _, ⟨S1, _, h2⟩ | ⟨S1, items1, S2, acc2, S3, _, _, _, h2⟩⟩ := compM2_cons h
    · exact compM2_ok h2
    · exact compM2_ok h2
section
variable {tg iter tg1 iter1 elt : Expr} {ifs ifs1 : List Expr} {scope : Scope} {own : List (Str × Nat)} {pos : Pos} {fi fi1 : FI} {sl sl1 vs1 : List Nat} {b b1 : Bd} {ft ft1 : FT} {fe : FE}
theorem lc2_body (m : Bool) (hsl : ∀ i ∈ sl, i ∈ own.map (·.2)) (hsl1 : ∀ i ∈ sl1, i ∈ vs1) : ∀ σ H Q, tD G Iv.no W (fLc2 m fi (own.map (·.2)) b ft fi1 vs1 b1 ft1 fe) σ H Q →
    tLc2 (tI G Iv.no W fi) (gD G Iv.no sl b) (tDT G Iv.no W0 ft) (tIW G Iv.no W0 fi1) (gD G Iv.no sl1 b1) (tDT G Iv.no W0 ft1) (tD G Iv.no W0 fe) (own.map (·.2)) vs1 σ H Q := fun σ H Q ⟨w, env, S, res, eH, s, en, h, p⟩ => by
  subst eH
  refine seqR s en h p.px fun items S1 J w1 e1 s1 en1 ok h1 => fun D hD => ?_
  have p1 := p.mono e1 s1
  unfold bnd at h1
  cases hc : compM2 b ft fi1 vs1 b1 ft1 fe (wipeD env (own.map (·.2))) items [] S1 with
  | none => rw [hc] at h1; cases h1
  | some r1 =>
    rw [hc] at h1
    obtain ⟨ys, Sf, rfl⟩ := compM2_ok hc
    have hk : newL m ys Sf = some res := h1
    refine ⟨fun i k H => k = items.length - i ∧ i ≤ items.length ∧ ∃ w2 S2 vs acc, w2.H = H ∧ Lcs G w1 D w2 S2 vs acc ∧ compM2 b ft fi1 vs1 b1 ft1 fe (wipeD env (own.map (·.2))) (items.drop i) acc S2 = some (.ok ys Sf), ⟨items.length, rfl, Nat.zero_le _, ?_⟩, ?_⟩
    · refine ⟨⟨upd w1.H D (.lst []), w1.as, D :: w1.M0⟩, S1, [], [], rfl, ?_, hc⟩
      have ex : Ext w1 ⟨upd w1.H D (.lst []), w1.as, D :: w1.M0⟩ := ⟨⟨[], by simp⟩, fun a ha => List.mem_cons_of_mem _ ha, fun _ _ _ n => n, fun a o ho n z => by
        rcases z with z | z
        · rcases List.mem_cons.mp z with z | z
          · exact ne_of_none ho hD z
          · exact n (.inl z)
        · exact n (.inr z), fun a o _ ho => by
        show upd w1.H D _ a = some o
        rw [upd_ne (ne_of_none ho hD)]
        exact ho⟩
      refine ⟨ex, ⟨s1.nd, s1.len, fun a ha => ?_, fun a ha z => ?_, fun i a d q1 q2 => ?_⟩, List.mem_cons_self, fun z => s1.fresh hD (.inr z), upd_same, .nil⟩
      · rcases List.mem_cons.mp ha with z | z
        · subst z; exact ⟨_, upd_same⟩
        · obtain ⟨o, ho⟩ := s1.dom a z
          exact ⟨o, by show upd w1.H D _ a = some o; rw [upd_ne (ne_of_none ho hD)]; exact ho⟩
      · rcases List.mem_cons.mp z with z | z
        · subst z; exact s1.fresh hD (.inr ha)
        · exact s1.dj a ha z
      · have q := s1.cont i a d q1 q2
        obtain ⟨o, ho⟩ := q.there
        exact q.mono ex (upd_ne (ne_of_none ho hD))
    · rintro i k H' ⟨rfl, hi, w2, S2, vs, acc, rfl, c, hcm⟩
      obtain ⟨go, stop, yld⟩ := ok w2 S2 c.e c.s
      by_cases hlt : i < items.length
      · refine .inr ⟨go i hlt, fun H' => i + 1 ≤ items.length ∧ ∃ w2 S2 vs acc, w2.H = H' ∧ Lcs G w1 D w2 S2 vs acc ∧ compM2 b ft fi1 vs1 b1 ft1 fe (wipeD env (own.map (·.2))) (items.drop (i + 1)) acc S2 = some (.ok ys Sf), fun H' hN => ⟨items.length - (i + 1), by omega, rfl, hN.1, hN.2⟩, fun x H' hy => ?_⟩
        have hd : items[i]? = some items[i] := List.getElem?_eq_getElem hlt
        obtain ⟨w3, rfl, e3, s3, rx⟩ := yld i _ x H' hd hy
        rw [List.drop_eq_getElem_cons hlt] at hcm
        obtain ⟨env1, hb, hcases⟩ := compM2_cons hcm
        refine ⟨w3, S2, wipeD env (own.map (·.2)), items[i], env1, rfl, s3, ((en1.mono c.e).mono e3).wipe _ (fun _ _ => True.intro), rx, hb, fun σ' en' hw => ⟨?_, ?_⟩⟩
        · rw [hw _ hsl]
          exact wipe_wipe σ _ _ fun _ z => z
        · have c3 := c.go e3 s3
          rcases hcases with ⟨S4, hft, hr⟩ | ⟨S4, items1, S5, acc2, S6, hft, hfi, hcm1, hr⟩
          · refine ⟨w3, env1, S2, _, rfl, s3, en', hft, fun bv w4 e4 s4 hbv => ?_⟩
            cases hbv
            exact ⟨hlt, w4, S4, vs, acc, rfl, c3.go e4 s4, hr⟩
          · refine ⟨w3, env1, S2, _, rfl, s3, en', hft, fun bv w4 e4 s4 hbv => ?_⟩
            cases hbv
            have c4 := c3.go e4 s4
            refine ⟨w4, env1, S4, _, rfl, s4, en'.mono e4, hfi, fun J1 w5 e5 s5 ok1 => ?_⟩
            have c5 := c4.go e5 s5
            have en5 := (en'.mono e4).mono e5
            refine ⟨fun j k H => k = items1.length - j ∧ j ≤ items1.length ∧ ∃ w6 S7 vs' acc', w6.H = H ∧ Wk w5 w6 ∧ Lcs G w1 D w6 S7 vs' acc' ∧ compM b1 ft1 fe (wipeD env1 vs1) (items1.drop j) acc' S7 = some (.ok acc2 S6), ⟨items1.length, rfl, Nat.zero_le _, w5, S5, vs, acc, rfl, Wk.refl _, c5, hcm1⟩, ?_⟩
            rintro j k H7 ⟨rfl, hj, w6, S7, vs', acc', rfl, e6, c6, hin⟩
            obtain ⟨go1, stop1, yld1⟩ := ok1 w6 S7 e6 c6.s
            by_cases hlt1 : j < items1.length
            · refine .inr ⟨go1 j hlt1, fun H' => j + 1 ≤ items1.length ∧ ∃ w6 S7 vs' acc', w6.H = H' ∧ Wk w5 w6 ∧ Lcs G w1 D w6 S7 vs' acc' ∧ compM b1 ft1 fe (wipeD env1 vs1) (items1.drop (j + 1)) acc' S7 = some (.ok acc2 S6), fun H' hN => ⟨items1.length - (j + 1), by omega, rfl, hN.1, hN.2⟩, fun x1 H8 hy1 => ?_⟩
              have hd1 : items1[j]? = some items1[j] := List.getElem?_eq_getElem hlt1
              obtain ⟨w8, rfl, e8, s8, rx1⟩ := yld1 j _ x1 H8 hd1 hy1
              rw [List.drop_eq_getElem_cons hlt1] at hin
              obtain ⟨env2, hb1, hcases1⟩ := compM_cons hin
              refine ⟨w8, S7, wipeD env1 vs1, items1[j], env2, rfl, s8, ((en5.wkNo e6).mono e8).wipe _ (fun _ _ => True.intro), rx1, hb1, fun σ3 en3 hw1 => ⟨?_, ?_⟩⟩
              · rw [hw1 _ hsl1]
                exact wipe_wipe σ' _ _ fun _ z => z
              · have c8 := c6.go e8 s8
                have e58 := e6.trans e8.wk
                rcases hcases1 with ⟨S9, hf1, hr1⟩ | ⟨S9, y, S10, hf1, hfe, hl, hr1⟩
                · refine ⟨w8, env2, S7, _, rfl, s8, en3, hf1, fun bv w9 e9 s9 hbv => ?_⟩
                  cases hbv
                  exact ⟨hlt1, w9, S9, vs', acc', rfl, e58.trans e9.wk, c8.go e9 s9, hr1⟩
                · refine ⟨w8, env2, S7, _, rfl, s8, en3, hf1, fun bv w9 e9 s9 hbv => ?_⟩
                  cases hbv
                  have c9 := c8.go e9 s9
                  refine ⟨w9, env2, S9, _, rfl, s9, en3.mono e9, hfe, fun v w10 e10 s10 rv => ?_⟩
                  have c10 := c9.go e10 s10
                  have ca := c10.app hD rv
                  exact ⟨vs', c10.h, by rw [c10.r.length]; exact big_lt hl, hlt1, _, S10, _, _, rfl, (((e58.trans e9.wk).trans e10.wk).trans (Wk.putD (.inl c10.m))), ca, hr1⟩
            · have e0 : j = items1.length := by omega
              subst e0
              rw [List.drop_length] at hin
              cases hin
              exact .inl ⟨stop1, hlt, w6, _, vs', _, rfl, c6, hr⟩
      · have e0 : i = items.length := by omega
        subst e0
        rw [List.drop_length] at hcm
        cases hcm
        exact .inl ⟨stop, c.out s1 hD hk p1⟩
theorem d_lc2V {vs : List Nat} (m : Bool) (hc : X.calm = true) (hN : X.N.Nodup) (hi : DI X Iv.no W tg iter fi) (ok : BlkOk X.N X.env.scope scope own)
    (hg : ∀ (s : Shared) (H : Hp) (C : Addr) (cl : List (Str × Addr)) (fp : List Addr), DG (X.blk s H scope (compEnvC scope cl C X.env) fp) Iv.no tg sl b)
    (ht : ∀ (s : Shared) (H : Hp) (C : Addr) (cl : List (Str × Addr)) (fp : List Addr), DTs (X.blk s H scope (compEnvC scope cl C X.env) fp) Iv.no W0 ifs ft)
    (hi1 : ∀ (s : Shared) (H : Hp) (C : Addr) (cl : List (Str × Addr)) (fp : List Addr), DIW (X.blk s H scope (compEnvC scope cl C X.env) fp) Iv.no W0 tg1 iter1 fi1)
    (hg1 : ∀ (s : Shared) (H : Hp) (C : Addr) (cl : List (Str × Addr)) (fp : List Addr), DG (X.blk s H scope (compEnvC scope cl C X.env) fp) Iv.no tg1 sl1 b1)
    (ht1 : ∀ (s : Shared) (H : Hp) (C : Addr) (cl : List (Str × Addr)) (fp : List Addr), DTs (X.blk s H scope (compEnvC scope cl C X.env) fp) Iv.no W0 ifs1 ft1)
    (he : ∀ (s : Shared) (H : Hp) (C : Addr) (cl : List (Str × Addr)) (fp : List Addr), DE (X.blk s H scope (compEnvC scope cl C X.env) fp) Iv.no W0 elt fe)
    (hv : own.map (·.2) = vs := by rfl) (hv1 : ∀ i ∈ vs1, i ∈ own.map (·.2) := by decide) (hsl : ∀ i ∈ sl, i ∈ own.map (·.2) := by decide) (hsl1 : ∀ i ∈ sl1, i ∈ vs1 := by decide) (hs : ∀ x, foldedSetIterable iter X.env x = pure x := by intro _; rfl) (hs1 : ∀ env x, foldedSetIterable iter1 env x = pure x := by intro _ _; rfl) :
    DE X Iv.no W (.ListComp elt [⟨tg, iter, ifs, 0⟩, ⟨tg1, iter1, ifs1, 0⟩] scope pos) (fLc2 m fi vs b ft fi1 vs1 b1 ft1 fe) := by
  subst hv
  exact PE.imp (pe_lc2 (g := gD (gp X) Iv.no sl b) (tt := tDT (gp X) Iv.no W0 ft) (wi1 := tIW (gp X) Iv.no W0 fi1) (g1 := gD (gp X) Iv.no sl1 b1) (tt1 := tDT (gp X) Iv.no W0 ft1) (te := tD (gp X) Iv.no W0 fe) hc hN hi ok hv1 hg ht hi1 hg1 ht1 he hs hs1) (lc2_body m hsl hsl1)
theorem s_setLc2V {i : Nat} {y : Str} {py spos : Pos} {vs : List Nat} (m : Bool) (hc : X.calm = true) (hN : X.N.Nodup) (hsw : swapsWith (.ListComp elt [⟨tg, iter, ifs, 0⟩, ⟨tg1, iter1, ifs1, 0⟩] scope pos) (some (.Name y py)) spos.line X.env = pure true) (hi : DI X Iv.no W tg iter fi) (ok : BlkOk X.N X.env.scope scope own)
    (hg : ∀ (s : Shared) (H : Hp) (C : Addr) (cl : List (Str × Addr)) (fp : List Addr), DG (X.blk s H scope (compEnvC scope cl C X.env) fp) Iv.no tg sl b)
    (ht : ∀ (s : Shared) (H : Hp) (C : Addr) (cl : List (Str × Addr)) (fp : List Addr), DTs (X.blk s H scope (compEnvC scope cl C X.env) fp) Iv.no W0 ifs ft)
    (hi1 : ∀ (s : Shared) (H : Hp) (C : Addr) (cl : List (Str × Addr)) (fp : List Addr), DIW (X.blk s H scope (compEnvC scope cl C X.env) fp) Iv.no W0 tg1 iter1 fi1)
    (hg1 : ∀ (s : Shared) (H : Hp) (C : Addr) (cl : List (Str × Addr)) (fp : List Addr), DG (X.blk s H scope (compEnvC scope cl C X.env) fp) Iv.no tg1 sl1 b1)
    (ht1 : ∀ (s : Shared) (H : Hp) (C : Addr) (cl : List (Str × Addr)) (fp : List Addr), DTs (X.blk s H scope (compEnvC scope cl C X.env) fp) Iv.no W0 ifs1 ft1)
    (he : ∀ (s : Shared) (H : Hp) (C : Addr) (cl : List (Str × Addr)) (fp : List Addr), DE (X.blk s H scope (compEnvC scope cl C X.env) fp) Iv.no W0 elt fe)
    (hv : own.map (·.2) = vs := by rfl) (hv1 : ∀ i ∈ vs1, i ∈ own.map (·.2) := by decide) (hsl : ∀ i ∈ sl, i ∈ own.map (·.2) := by decide) (hsl1 : ∀ i ∈ sl1, i ∈ vs1 := by decide) (hy : X.N[i]? = some y := by rfl) (hyl : X.env.scope.names.lookup y = some .local := by rfl) (hs : ∀ x, foldedSetIterable iter X.env x = pure x := by intro _; rfl) (hs1 : ∀ env x, foldedSetIterable iter1 env x = pure x := by intro _ _; rfl) :
    DS X Iv.no W (.Assign [.Name y py] (.ListComp elt [⟨tg, iter, ifs, 0⟩, ⟨tg1, iter1, ifs1, 0⟩] scope pos) spos) (sAsg (fLc2 m fi vs b ft fi1 vs1 b1 ft1 fe) (bName i)) := by
  subst hv
  refine PS.imp (ps_setLc2 (g := gD (gp X) Iv.no sl b) (tt := tDT (gp X) Iv.no W0 ft) (wi1 := tIW (gp X) Iv.no W0 fi1) (g1 := gD (gp X) Iv.no sl1 b1) (tt1 := tDT (gp X) Iv.no W0 ft1) (te := tD (gp X) Iv.no W0 fe) hc hN hy hyl hsw hi ok hv1 hg ht hi1 hg1 ht1 he hs hs1) fun D σ H h => ?_
  obtain ⟨w, env, S, r, eH, s, en, h, p⟩ := h
  subst eH
  have q : tD (gp X) Iv.no W (fLc2 m fi (own.map (·.2)) b ft fi1 vs1 b1 ft1 fe) σ w.H (fun x H1 => gName i x σ H1 D.nx) := seqS s en h p.px fun d S1 v w1 e1 s1 en1 r1 h1 => by
    cases h1
    exact p _ w1 e1 s1 (en1.set True.intro r1)
  exact lc2_body m hsl hsl1 σ w.H _ q
end
end
/-- a constant of the module, an int -/
theorem d_globI {X : Cx} {ξ : Iv} {W : WX} {x : Str} {n : Int} {pos : Pos} (hg : Gl X x) (h : ∃ t, X.mg x = some (.int n t)) (hd : (x == ("__debug__" : Str)) = false := by decide) : DE X ξ W (.Name x pos) (fC (.int n)) := by
  obtain ⟨t, h⟩ := h
  exact d_glob hg h (v := .int n) ⟨t, rfl⟩ (fun _ => .int _) hd
end FC

set_option Elab.async false
set_option linter.all false
set_option maxRecDepth 100000
namespace FC
open PySem PySem.Spec L2
open ClX (CRead CVal pe_cval)
section
variable {X : Cx} {ξ : Iv} {W : WX} {G : Gp}
/-- C.f, a constant of the class -/
theorem d_ccon {c f : Str} {C : Addr} {mc u : Value} {v : V} {d : Dv} {p pos : Pos} (hm : X.mg c = some (.ref C)) (hr : CRead X.K C mc) (hk : CVal X.K C mc f v u) (hv : ∀ w, Rp (gp X) w v d) (hg : Gl X c := by rfl) (hdb : (c == ("__debug__" : Str)) = false := by decide)
    (hb : attributeBase (.Name c p) f X.env (eval (.Name c p) X.env) = eval (.Name c p) X.env := by rfl) : DE X ξ W (.Attribute (.Name c p) f pos) (fC d) :=
  PE.imp (pe_cval (pe_glob (v := .ref C) hg hm rfl hdb) hb) fun σ H Q ⟨w, env, S, res, eH, s, en, h, p⟩ => by
    subst eH
    cases h
    exact ⟨C, mc, v, u, rfl, hr, hk, p.here s (hv w)⟩
/-! ### keywords; instances made with keywords -/
def DK (X : Cx) (ξ : Iv) (W : WX) (kws : List Keyword) (fk : FA) : Prop := PK X kws (tDA (gp X) ξ W fk)
theorem PK.imp {kws : List Keyword} {t t' : TA} (h : PK X kws t) (i : ∀ σ H Q, t' σ H Q → t σ H Q) : PK X kws t' := ⟨fun pos pins s σ H Q I q => h.run pos pins s σ H Q I (i σ H Q q)⟩
theorem k_nil : DK X ξ W [] fNil := PK.imp pk_nil fun σ H Q ⟨w, env, S, res, eH, s, en, h, p⟩ => by
  subst eH
  cases h
  exact p.here s .nil
theorem k_cons {nm : Option Str} {e : Expr} {kpos : Pos} {kws : List Keyword} {fa : FE} {fr : FA} (ha : DE X ξ W e fa) (hr : DK X ξ W kws fr) : DK X ξ W (⟨nm, e, kpos⟩ :: kws) (fCons fa fr) :=
  PK.imp (pk_cons ha hr) fun σ H Q ⟨w, env, S, res, eH, s, en, h, p⟩ => by
    subst eH
    refine seqR s en h p.px fun x S1 v w1 e1 s1 en1 r1 h1 => seqR s1 en1 h1 (p.px.mono e1 s1) fun xs S2 vs w2 e2 s2 en2 r2 h2 => ?_
    cases h2
    exact p.ok_ (e1.trans e2) s2 (.cons (r1.mono e2) r2)
section
variable {CX : CXT} {k n : Nat} {f C : Addr} {fd : FuncData} {ps ks : List Str} {sp : Sp} {E : L2.St → XK} {g : List Value → List Value → List Value} {gV : List V → List V → List V}
def tMkKS (C : Addr) (n m : Nat) (sp : Sp) (gV : List V → List V → List V) (E : L2.St → XK) (t tk : TA) : TE := fun σ H Q => t σ H fun vs H1 => tk σ H1 fun zs H2 => vs.length = n ∧ zs.length = m ∧
  ∀ x dx, H2 x = none → H2 dx = none → dx ≠ x → sp (gV (V.ref x :: vs) zs) (upd (upd H2 dx (.own x)) x (.ins C dx [])) (fun v H3 => v = V.non ∧ Q (V.ref x) H3) (E σ)
theorem run_mkKS {pins : List (Addr × Obj)} {σ : L2.St} {H : Hp} {s : Shared} {Q : VK} {us ws : List Value} {vs zs : List V} (M : Mk X.K C f) (F : FnOk X.prog X.w X.K X.mg X.base CX k f fd ps sp) (hr : Room (k + 1) X.A) (hb : KBn X.K fd ps (n + 1) ks g gV)
    (hx : PassesAt CX X σ (E σ)) (I : Inv X pins σ H s) (rv : Vals vs us) (rz : Vals zs ws) (l1 : vs.length = n) (l2 : zs.length = ks.length)
    (h : ∀ x dx, H x = none → H dx = none → dx ≠ x → sp (gV (V.ref x :: vs) zs) (upd (upd H dx (.own x)) x (.ins C dx [])) (fun v H2 => v = V.non ∧ Q (V.ref x) H2) (E σ)) :
    wpAny (model X.prog X.w) X.A (call (Value.ref C) us (ks.zip ws)) (EP X pins σ Q) X.xe s := by
  let z := s.heap.objs.size
  have wish := h (z + 1) z (I.hok.fresh (Nat.le_succ z)) (I.hok.fresh (Nat.le_refl z)) (Nat.ne_of_lt (Nat.lt_succ_self z))
  have J := Inv.made (C := C) I
  have r1 : Vals (V.ref (z + 1) :: vs) (Value.ref (z + 1) :: us) := .cons rfl rv
  have n1 : (Value.ref (z + 1) :: us).length = n + 1 := by rw [List.length_cons, ← rv.length, l1]
  have binds := hb.to _ (Value.ref (z + 1) :: us) ws J.kIn n1 (rz.length.symm.trans l2)
  refine wpAny_call (make_map (f := f) I.kIn M.makes M.init (beq_iff_eq.mp M.fn) (codeAny_mono (F.run _ X.stack _ _ ⟨Value.ref (z + 1) :: us, ks.zip ws⟩ (g (Value.ref (z + 1) :: us) ws) _ _ (E σ) (hr.make C us (ks.zip ws)) (J.env0.make C us (ks.zip ws)) binds (hb.rel r1 rz) wish) fun r s' out => ?_))
  cases r with
  | error e => exact hx pins _ _ e s' J out
  | ok fl =>
    cases fl with
    | ret u =>
      obtain ⟨v, H', I3, ru, e, q⟩ := J.after out
      subst e
      exact ⟨ru, V.ref (z + 1), H', I3, rfl, q⟩
    | next => cases out
    | brk => cases out
    | cont => cases out
theorem pe_mkKS {x : Str} {e : Expr} {es : List Expr} {kws : List Keyword} {p pos : Pos} {t tk : TA} (M : Mk X.K C f) (F : FnOk X.prog X.w X.K X.mg X.base CX k f fd ps sp) (hr : Room (k + 1) X.A) (hm : X.mg x = some (.ref C)) (hb : KBn X.K fd ps (n + 1) ks g gV) (hx : ∀ σ, PassesAt CX X σ (E σ))
    (ha : PA X (e :: es) t) (hkw : PK X kws tk) (hg : Gl X x := by rfl) (hall : (backToKw pos (keywordEach kws X.env)).all (·.1.isSome) = true := by rfl) (hks : (backToKw pos (keywordEach kws X.env)).filterMap (·.1) = ks := by rfl) (hdb : (x == ("__debug__" : Str)) = false := by decide)
    (he : starEach (e :: es) X.env = (false, eval e X.env) :: starEach es X.env := by rfl) (hpl : ((backTo pos (starEach (e :: es) X.env)).any (·.1) || (backToKw pos (keywordEach kws X.env)).any (·.1.isNone)) = false := by rfl) :
    PE X (.Call (.Name x p) (e :: es) kws pos) (tMkKS C n ks.length sp gV E t tk) := ⟨fun pins s σ H Q I h => by
  refine wpAny_Call_Name_kw (ld_glob I hg hm (PySem.W.callWith_KW (h₀ := X.base) I.ok.mod.kin M.kp hall (thn (ha.run pos pins s σ H _ I h) fun us s1 ⟨vs, H1, I1, rv, q⟩ => ?_) hpl he) hdb)
  refine thn (hkw.run pos pins s1 σ H1 _ I1 q) fun ws s2 ⟨zs, H2, I2, rz, l1, l2, q2⟩ => ⟨I2.kIn, ?_⟩
  rw [hks]
  exact run_mkKS M F hr hb (hx σ) I2 rv rz l1 l2 q2⟩
@[simp] def fMakeK (c : Str) (n m : Nat) (gD : List Dv → List Dv → List Dv) (F : DFn) (fa fk : FA) : FE := fun env => bnd (fa env) fun ds => bnd (fk env) fun es S => if ds.length = n ∧ es.length = m then (match F (gD (.obj S.length :: ds) es) (S ++ [.ins c []]) with
  | some (.ok .non S') => some (.ok (.obj S.length) S')
  | some (.exc e fs S') => some (.exc e fs S')
  | _ => none) else none
theorem d_makeK {c : Str} {N : Nat} {gD : List Dv → List Dv → List Dv} {F : DFn} {e : Expr} {es : List Expr} {kws : List Keyword} {p pos : Pos} {fa fk : FA} (M : Mk X.K (cOf X.mg c) f) (hF : FnOk X.prog X.w X.K X.mg X.base (L2.CX X.prog X.w) k f fd ps (spD X.K X.mg N F)) (hr : Room (k + 1) X.A) (hm : X.mg c = some (.ref (cOf X.mg c))) (hb : KBn X.K fd ps (n + 1) ks g gV) (tk : Takes X W)
    (hgl : ∀ vs zs : List V, vs.length = n + 1 → zs.length = ks.length → (gV vs zs).length = N) (hgr : ∀ (w : Wd) (vs zs : List V) (ds es : List Dv), RpAll (gp X) w vs ds → RpAll (gp X) w zs es → RpAll (gp X) w (gV vs zs) (gD ds es))
    (ha : DA X ξ W (e :: es) fa) (hkw : DK X ξ W kws fk) (hg : Gl X c := by rfl) (hall : (backToKw pos (keywordEach kws X.env)).all (·.1.isSome) = true := by rfl) (hks : (backToKw pos (keywordEach kws X.env)).filterMap (·.1) = ks := by rfl) (hdb : (c == ("__debug__" : Str)) = false := by decide)
    (he : starEach (e :: es) X.env = (false, eval e X.env) :: starEach es X.env := by rfl) (hpl : ((backTo pos (starEach (e :: es) X.env)).any (·.1) || (backToKw pos (keywordEach kws X.env)).any (·.1.isNone)) = false := by rfl) :
    DE X ξ W (.Call (.Name c p) (e :: es) kws pos) (fMakeK c n ks.length gD F fa fk) :=
  PE.imp (pe_mkKS M hF hr hm hb (fun σ => passAt tk σ) ha hkw hg hall hks hdb he hpl) fun σ H Q ⟨w, env, S, res, eH, s, en, h, p⟩ => by
    subst eH
    refine seqR s en h p.px fun ds S0 vs w0 e0 s0 en0 r0 h0 => seqR s0 en0 h0 (p.px.mono e0 s0) fun es S1 zs w1 e1 s1 en1 rz h1 => ?_
    by_cases z : ds.length = n ∧ es.length = ks.length
    · rw [if_pos z] at h1
      have rv := r0.mono e1
      refine ⟨by rw [rv.length]; exact z.1, by rw [rz.length]; exact z.2, fun x dx hx hdx hne => ?_⟩
      have eA : Ext w1 (w1.put dx (.own x)) := .put hdx
      have sA : SOk (gp X) (w1.put dx (.own x)) S1 := s1.put hdx
      have hx2 : (w1.put dx (.own x)).H x = none := by
        show upd w1.H dx _ x = none
        rw [upd_ne (fun q => hne q.symm)]
        exact hx
      let w2 : Wd := (w1.put dx (.own x)).add x (.ins (cOf X.mg c) dx [])
      have eB : Ext (w1.put dx (.own x)) w2 := .add hx2
      have sB : SOk (gp X) w2 (S1 ++ [.ins c []]) := sA.add hx2 ⟨dx, [], upd_same, rfl, .nil⟩
      have ro : Rp (gp X) w2 (V.ref x) (.obj S1.length) := Rp.add_obj sA
      have pp := p.mono (((e0.thru e1 s0).thru eA s1).thru eB sA) sB
      cases hF2 : F (gD (.obj S1.length :: ds) es) (S1 ++ [.ins c []]) with
      | none => rw [hF2] at h1; cases h1
      | some r =>
        rw [hF2] at h1
        refine ⟨hgl _ _ (by rw [List.length_cons, rv.length, z.1]) (by rw [rz.length, z.2]), w2, S1 ++ [.ins c []], gD (.obj S1.length :: ds) es, r, rfl, sB, hgr w2 _ _ _ _ (.cons ro ((rv.mono eA).mono eB)) ((rz.mono eA).mono eB), hF2, ?_⟩
        cases r with
        | ok d S' =>
          cases d <;> first | (cases h1; done) | skip
          cases h1
          intro v w' e' s' rv
          cases rv
          cases ro with
          | obj ha2 => exact ⟨rfl, pp.ok_ e' s' (.obj (e'.as_of ha2))⟩
        | exc c2 fs2 S' =>
          cases h1
          exact fun dd fs' w' e s' hd hm hn hr => pp dd fs' w' e s' hd hm hn hr
    · rw [if_neg z] at h1; cases h1
end
end
end FC

set_option Elab.async false
set_option linter.all false
set_option maxRecDepth 100000
namespace FC
open PySem PySem.Spec L2
/-! ### what falls away: deep, at any place -/
mutual
def okO (n : Nat) : Dv → Bool
  | .non => true
  | .bl _ => true
  | .int _ => true
  | .str _ => true
  | .cls _ => true
  | .tup xs => okOs n xs
  | .lst xs => okOs n xs
  | .obj k => decide (k < n)
  | .ins _ fs => okOf n fs
  | .dic kvs => okOk n kvs
  | .dit kvs => okOt n kvs
def okOs (n : Nat) : List Dv → Bool
  | [] => true
  | d :: r => okO n d && okOs n r
def okOf (n : Nat) : List (Str × Dv) → Bool
  | [] => true
  | (_, d) :: r => okO n d && okOf n r
def okOk (n : Nat) : List (Key × Dv) → Bool
  | [] => true
  | (_, d) :: r => okO n d && okOk n r
def okOt (n : Nat) : List (List Key × Dv) → Bool
  | [] => true
  | (_, d) :: r => okO n d && okOt n r
end
theorem okOf_eq {n : Nat} : ∀ fs : List (Str × Dv), okOf n fs = okOs n (fs.map Prod.snd)
  | [] => rfl
  | (_, d) :: r => by show (okO n d && okOf n r) = (okO n d && okOs n (r.map Prod.snd)); rw [okOf_eq r]
theorem okOk_eq {n : Nat} : ∀ fs : List (Key × Dv), okOk n fs = okOs n (fs.map Prod.snd)
  | [] => rfl
  | (_, d) :: r => by show (okO n d && okOk n r) = (okO n d && okOs n (r.map Prod.snd)); rw [okOk_eq r]
theorem okOt_eq {n : Nat} : ∀ fs : List (List Key × Dv), okOt n fs = okOs n (fs.map Prod.snd)
  | [] => rfl
  | (_, d) :: r => by show (okO n d && okOt n r) = (okO n d && okOs n (r.map Prod.snd)); rw [okOt_eq r]
/-- names from n on may be forgotten -/
structure Dn (n : Nat) (w w' : Wd) : Prop where
  H : w'.H = w.H
  M : ∀ a, w'.M a → w.M a
  as : ∀ (k : Nat) (a : Addr), k < n → w.as[k]? = some a → w'.as[k]? = some a
mutual
theorem Rp.dn {G : Gp} {n : Nat} {w w' : Wd} (e : Dn n w w') : ∀ {v : V} {d : Dv}, Rp G w v d → okO n d = true → Rp G w' v d
  | _, _, .non, _ => .non
  | _, _, .bl b, _ => .bl b
  | _, _, .int i, _ => .int i
  | _, _, .str x, _ => .str x
  | _, _, .cls c, _ => .cls c
  | _, _, .tup h r, q => .tup (by
      rcases h with h | h
      · exact .inl ⟨by rw [e.H]; exact h.1, fun z => h.2 (e.M _ z)⟩
      · exact .inr h) (RpAll.dn e r q)
  | _, _, .lst h r, q => .lst (by
      rcases h with h | h
      · exact .inl ⟨by rw [e.H]; exact h.1, fun z => h.2 (e.M _ z)⟩
      · exact .inr h) (RpAll.dn e r q)
  | _, _, .obj h, q => .obj (e.as _ _ (of_decide_eq_true q) h)
  | _, _, .ins h m q r, z => .ins (by rw [e.H]; exact h) (fun z => m (e.M _ z)) q (RpAll.dn e r (by rw [← okOf_eq]; exact z))
  | _, _, .dic h m q r, z => .dic (by rw [e.H]; exact h) (fun z => m (e.M _ z)) q (RpAll.dn e r (by rw [← okOk_eq]; exact z))
  | _, _, .dit h m q r, z => .dit (by rw [e.H]; exact h) (fun z => m (e.M _ z)) q (RpAll.dn e r (by rw [← okOt_eq]; exact z))
theorem RpAll.dn {G : Gp} {n : Nat} {w w' : Wd} (e : Dn n w w') : ∀ {vs : List V} {ds : List Dv}, RpAll G w vs ds → okOs n ds = true → RpAll G w' vs ds
  | _, _, .nil, _ => .nil
  | _, _, .cons h r, q => .cons (Rp.dn e h (Bool.and_eq_true_iff.mp q).1) (RpAll.dn e r (Bool.and_eq_true_iff.mp q).2)
end
mutual
theorem Rp.okO {G : Gp} {w : Wd} : ∀ {v : V} {d : Dv}, Rp G w v d → okO w.as.length d = true
  | _, _, .non => rfl
  | _, _, .bl b => rfl
  | _, _, .int i => rfl
  | _, _, .str x => rfl
  | _, _, .cls c => rfl
  | _, _, .tup h r => RpAll.okO r
  | _, _, .lst h r => RpAll.okO r
  | _, _, .obj h => decide_eq_true (List.getElem?_eq_some_iff.mp h).1
  | _, _, .ins h m q r => (okOf_eq _).trans (RpAll.okO r)
  | _, _, .dic h m q r => (okOk_eq _).trans (RpAll.okO r)
  | _, _, .dit h m q r => (okOt_eq _).trans (RpAll.okO r)
theorem RpAll.okO {G : Gp} {w : Wd} : ∀ {vs : List V} {ds : List Dv}, RpAll G w vs ds → okOs w.as.length ds = true
  | _, _, .nil => rfl
  | _, _, .cons h r => Bool.and_eq_true_iff.mpr ⟨Rp.okO h, RpAll.okO r⟩
end
theorem MOk.dn {G : Gp} {n : Nat} {w w' : Wd} (e : Dn n w w') {a : Addr} {d : Dv} (h : MOk G w a d) (q : okO n d = true) : MOk G w' a d := by
  have hk : w'.H a = w.H a := by rw [e.H]
  cases d <;> first | exact h.elim | skip
  · obtain ⟨xs, h, r⟩ := h; exact ⟨xs, hk.trans h, r.dn e q⟩
  · obtain ⟨dx, fs', h, z, r⟩ := h; exact ⟨dx, fs', hk.trans h, z, r.dn e (by rw [← okOf_eq]; exact q)⟩
  · obtain ⟨kvs', h, z, r⟩ := h; exact ⟨kvs', hk.trans h, z, r.dn e (by rw [← okOk_eq]; exact q)⟩
  · obtain ⟨kvs', h, z, r⟩ := h; exact ⟨kvs', hk.trans h, z, r.dn e (by rw [← okOt_eq]; exact q)⟩
theorem MOk.okO {G : Gp} {w : Wd} {a : Addr} {d : Dv} (h : MOk G w a d) : okO w.as.length d = true := by
  cases d <;> first | exact h.elim | skip
  · obtain ⟨xs, h, r⟩ := h; exact r.okO
  · obtain ⟨dx, fs', h, z, r⟩ := h; exact (okOf_eq _).trans r.okO
  · obtain ⟨kvs', h, z, r⟩ := h; exact (okOk_eq _).trans r.okO
  · obtain ⟨kvs', h, z, r⟩ := h; exact (okOt_eq _).trans r.okO
/-- a value told without the names from n on -/
def fzs (g : Dv → Option Dv) : List Dv → Option (List Dv)
  | [] => some []
  | d :: r => match g d, fzs g r with
    | some d', some r' => some (d' :: r')
    | _, _ => none
def fzd (n : Nat) (S : Store) : Nat → Dv → Option Dv
  | 0, d => if okO n d = true then some d else none
  | f + 1, d => if okO n d = true then some d else match d with
    | .obj k => match S[k]? with
      | some (.lst xs) => (match fzs (fzd n S f) xs with | some ys => some (.lst ys) | none => none)
      | some (.ins c fs) => (match fzs (fzd n S f) (fs.map Prod.snd) with | some ys => some (.ins c ((fs.map Prod.fst).zip ys)) | none => none)
      | some (.dic fs) => (match fzs (fzd n S f) (fs.map Prod.snd) with | some ys => some (.dic ((fs.map Prod.fst).zip ys)) | none => none)
      | some (.dit fs) => (match fzs (fzd n S f) (fs.map Prod.snd) with | some ys => some (.dit ((fs.map Prod.fst).zip ys)) | none => none)
      | _ => none
    | .tup xs => (match fzs (fzd n S f) xs with | some ys => some (.tup ys) | none => none)
    | .lst xs => (match fzs (fzd n S f) xs with | some ys => some (.lst ys) | none => none)
    | .ins c fs => (match fzs (fzd n S f) (fs.map Prod.snd) with | some ys => some (.ins c ((fs.map Prod.fst).zip ys)) | none => none)
    | _ => none
/-- the older names' objects stand as they were, or hold no younger ones -/
def StOk (S S' : Store) : Prop := S.length ≤ S'.length ∧ ∀ i d, i < S.length → S'[i]? = some d → S[i]? = some d ∨ okO S.length d = true
abbrev Wd.cut (w : Wd) (as : List Addr) : Wd := ⟨w.H, as, w.M0⟩
section
variable {G : Gp} {w w' : Wd} {S S' : Store}
theorem cut_ok' (e : Ext w w') (s : SOk G w S) (s' : SOk G w' S') (h : StOk S S') : Ext w (w'.cut w.as) ∧ SOk G (w'.cut w.as) (S'.take S.length) ∧ Dn S.length w' (w'.cut w.as) := by
  obtain ⟨bs, hb⟩ := e.as
  have dr : Dn S.length w' (w'.cut w.as) := ⟨rfl, fun a h => by
    rcases h with h | h
    · exact .inl h
    · exact .inr (by rw [hb]; exact List.mem_append_left _ h), fun k a hk hx => by
    show w.as[k]? = some a
    rw [hb, List.getElem?_append_left (by rw [s.len]; exact hk)] at hx
    exact hx⟩
  refine ⟨⟨⟨[], by simp⟩, e.m0, fun _ _ _ h => h, fun a o h n z => e.nM a o h n (dr.M a z), e.keep⟩, ⟨s.nd, ?_, s'.dom, fun a ha => s'.dj a (by rw [hb]; exact List.mem_append_left _ ha), fun i a d h1 h2 => ?_⟩, dr⟩
  · show w.as.length = (S'.take S.length).length
    rw [List.length_take, s.len]
    have := h.1
    omega
  · have hi : i < (S'.take S.length).length := (List.getElem?_eq_some_iff.mp h2).1
    have hi2 : i < S.length := by rw [List.length_take] at hi; omega
    rw [List.getElem?_take_of_lt hi2] at h2
    have h1' : w.as[i]? = some a := h1
    have nd : okO S.length d = true := by
      rcases h.2 i d hi2 h2 with z | z
      · have := (s.cont i a d h1' z).okO
        rw [s.len] at this
        exact this
      · exact z
    refine (s'.cont i a d ?_ h2).dn dr nd
    rw [hb, List.getElem?_append_left (by rw [s.len]; exact hi2)]
    exact h1
theorem fz_new (e : Ext w w') (s : SOk G w S) (s' : SOk G w' S') {k : Nat} {a : Addr} (ha : w'.as[k]? = some a) (hk : S.length ≤ k) : ¬ (w'.cut w.as).M a := by
  obtain ⟨bs, hb⟩ := e.as
  have hkl : w.as.length ≤ k := by rw [s.len]; omega
  have hkw : k < w'.as.length := (List.getElem?_eq_some_iff.mp ha).1
  have hae : w'.as[k] = a := (List.getElem?_eq_some_iff.mp ha).2
  rintro (z | z)
  · exact s'.dj a (List.mem_of_getElem? ha) z
  · obtain ⟨j, hj, ej⟩ := List.getElem_of_mem z
    have hj' : j < w.as.length := hj
    have hj2 : j < w'.as.length := by rw [hb, List.length_append]; omega
    have e1 : w'.as[j] = w'.as[k] := by
      rw [hae, ← ej]
      simp only [hb]
      exact List.getElem_append_left hj'
    have := (List.getElem_inj s'.nd).mp e1
    omega
theorem fzs_some {g : Dv → Option Dv} : ∀ {ds ys : List Dv}, fzs g ds = some ys → ds.length = ys.length
  | [], ys, h => by cases h; rfl
  | d :: r, ys, h => by
    unfold fzs at h
    split at h
    · rename_i d' r' h1 h2
      cases h
      rw [List.length_cons, List.length_cons, fzs_some h2]
    · cases h
theorem fzs_ok {w1 : Wd} {g : Dv → Option Dv} (hg : ∀ {v : V} {d d' : Dv}, Rp G w' v d → g d = some d' → Rp G w1 v d') : ∀ {vs : List V} {ds ys : List Dv}, RpAll G w' vs ds → fzs g ds = some ys → RpAll G w1 vs ys
  | _, _, _, .nil, h => by cases h; exact .nil
  | _, _, _, .cons hv r, h => by
    unfold fzs at h
    split at h
    · rename_i d' r' h1 h2
      cases h
      exact .cons (hg hv h1) (fzs_ok hg r h2)
    · cases h
theorem zip_fst {α : Type} : ∀ {xs : List α} {ys : List Dv}, xs.length = ys.length → (xs.zip ys).map Prod.fst = xs ∧ (xs.zip ys).map Prod.snd = ys
  | [], [], _ => ⟨rfl, rfl⟩
  | x :: xs, y :: ys, h => by
    obtain ⟨h1, h2⟩ := zip_fst (xs := xs) (ys := ys) (by simpa using h)
    exact ⟨by simp [h1], by simp [h2]⟩
  | [], _ :: _, h => by simp at h
  | _ :: _, [], h => by simp at h
theorem fzd_ok (e : Ext w w') (s : SOk G w S) (s' : SOk G w' S') (h : StOk S S') : ∀ (f : Nat) {v : V} {d d' : Dv}, Rp G w' v d → fzd S.length S' f d = some d' → Rp G (w'.cut w.as) v d'
  | 0, v, d, d', r, hd => by
    unfold fzd at hd
    by_cases z : okO S.length d = true
    · rw [if_pos z] at hd; cases hd
      exact r.dn (cut_ok' e s s' h).2.2 z
    · rw [if_neg z] at hd; cases hd
  | f + 1, v, d, d', r, hd => by
    obtain ⟨_, _, dr⟩ := cut_ok' e s s' h
    unfold fzd at hd
    by_cases z : okO S.length d = true
    · rw [if_pos z] at hd; cases hd
      exact r.dn dr z
    · rw [if_neg z] at hd
      have ih := fun {v : V} {d d' : Dv} => fzd_ok e s s' h f (v := v) (d := d) (d' := d')
      cases r with
      | non => cases hd
      | bl _ => cases hd
      | int _ => cases hd
      | str _ => cases hd
      | cls _ => cases hd
      | dic _ _ _ _ => cases hd
      | dit _ _ _ _ => cases hd
      | tup hx rx =>
        dsimp only at hd
        split at hd
        · rename_i ys hy
          cases hd
          exact .tup (by
            rcases hx with hx | hx
            · exact .inl ⟨by rw [dr.H]; exact hx.1, fun z => hx.2 (dr.M _ z)⟩
            · exact .inr hx) (fzs_ok ih rx hy)
        · cases hd
      | lst hx rx =>
        dsimp only at hd
        split at hd
        · rename_i ys hy
          cases hd
          exact .lst (by
            rcases hx with hx | hx
            · exact .inl ⟨by rw [dr.H]; exact hx.1, fun z => hx.2 (dr.M _ z)⟩
            · exact .inr hx) (fzs_ok ih rx hy)
        · cases hd
      | ins h1 m q rx =>
        dsimp only at hd
        split at hd
        · rename_i ys hy
          cases hd
          have hl := fzs_some hy
          obtain ⟨z1, z2⟩ := zip_fst (xs := List.map Prod.fst _) (ys := ys) (by simpa using hl)
          exact .ins h1 (fun z => m (dr.M _ z)) (by rw [z1]; exact q) (by rw [z2]; exact fzs_ok ih rx hy)
        · cases hd
      | @obj a k ha =>
        dsimp only at hd
        have hk : S.length ≤ k := by
          unfold okO at z
          have := of_decide_eq_false (Bool.eq_false_iff.mpr z)
          omega
        have nM := fz_new e s s' ha hk
        split at hd
        · rename_i xs hS
          split at hd
          · rename_i ys hy
            cases hd
            obtain ⟨us, h1, h2⟩ := s'.cont k a _ ha hS
            exact .lst (.inl ⟨.inl h1, nM⟩) (fzs_ok ih h2 hy)
          · cases hd
        · rename_i c fs hS
          split at hd
          · rename_i ys hy
            cases hd
            obtain ⟨dx, fs', h1, q, h2⟩ := s'.cont k a _ ha hS
            have hl := fzs_some hy
            obtain ⟨z1, z2⟩ := zip_fst (xs := List.map Prod.fst fs) (ys := ys) (by simpa using hl)
            exact .ins h1 nM (by rw [z1]; exact q) (by rw [z2]; exact fzs_ok ih h2 hy)
          · cases hd
        · rename_i fs hS
          split at hd
          · rename_i ys hy
            cases hd
            obtain ⟨fs', h1, q, h2⟩ := s'.cont k a _ ha hS
            have hl := fzs_some hy
            obtain ⟨z1, z2⟩ := zip_fst (xs := List.map Prod.fst fs) (ys := ys) (by simpa using hl)
            exact .dic (.inl h1) nM (by rw [z1]; exact q) (by rw [z2]; exact fzs_ok ih h2 hy)
          · cases hd
        · rename_i fs hS
          split at hd
          · rename_i ys hy
            cases hd
            obtain ⟨fs', h1, q, h2⟩ := s'.cont k a _ ha hS
            have hl := fzs_some hy
            obtain ⟨z1, z2⟩ := zip_fst (xs := List.map Prod.fst fs) (ys := ys) (by simpa using hl)
            exact .dit (.inl h1) nM (by rw [z1]; exact q) (by rw [z2]; exact fzs_ok ih h2 hy)
          · cases hd
        · cases hd
end
/-- the fields of an error -/
def fzf (n : Nat) (S : Store) (fs : List (Str × Dv)) : Option (List (Str × Dv)) := match fzs (fzd n S 6) (fs.map Prod.snd) with
  | some ys => some ((fs.map Prod.fst).zip ys)
  | none => none
theorem fzf_ok {G : Gp} {w w' : Wd} {S S' : Store} (e : Ext w w') (s : SOk G w S) (s' : SOk G w' S') (h : StOk S S') {fs fs2 : List (Str × Dv)} {fs' : List (Str × V)} (hn : fs'.map Prod.fst = fs.map Prod.fst) (hr : RpAll G w' (fs'.map Prod.snd) (fs.map Prod.snd)) (hf : fzf S.length S' fs = some fs2) :
    fs'.map Prod.fst = fs2.map Prod.fst ∧ RpAll G (w'.cut w.as) (fs'.map Prod.snd) (fs2.map Prod.snd) := by
  unfold fzf at hf
  split at hf
  · rename_i ys hy
    cases hf
    have hl := fzs_some hy
    obtain ⟨z1, z2⟩ := zip_fst (xs := List.map Prod.fst fs) (ys := ys) (by simpa using hl)
    exact ⟨by rw [z1]; exact hn, by rw [z2]; exact fzs_ok (fzd_ok e s s' h 6) hr hy⟩
  · cases hf
open Classical in
/-- a result told without what was made on the way -/
noncomputable def gcR (S : Store) (r : Option (Rs Dv)) : Option (Rs Dv) := match r with
  | some (.ok d S') => if StOk S S' then (match fzd S.length S' 6 d with | some d' => some (.ok d' (S'.take S.length)) | none => none) else none
  | some (.exc c fs S') => if StOk S S' then (match fzf S.length S' fs with | some fs' => some (.exc c fs' (S'.take S.length)) | none => none) else none
  | none => none
noncomputable def fGc (fa : FE) : FE := fun env S => gcR S (fa env S)
noncomputable def gcD (F : DFn) : DFn := fun ds S => gcR S (F ds S)
section
variable {G : Gp} {w : Wd} {S : Store} {W : WX} {σ : L2.St}
theorem gcR_ok (s : SOk G w S) {r : Option (Rs Dv)} {res : Rs Dv} {Q : VK} (h : gcR S r = some res) (p : PR G W (Rp G) w σ res Q) : ∃ r1, r = some r1 ∧ PR G W (Rp G) w σ r1 Q := by
  unfold gcR at h
  split at h
  · rename_i d S'
    refine ⟨_, rfl, ?_⟩
    by_cases z : StOk S S'
    · rw [if_pos z] at h
      split at h
      · rename_i d' hd
        cases h
        intro v w' e s' rv
        obtain ⟨e2, s2, dr⟩ := cut_ok' e s s' z
        exact p v (w'.cut w.as) e2 s2 (fzd_ok e s s' z 6 rv hd)
      · cases h
    · rw [if_neg z] at h; cases h
  · rename_i c fs S'
    refine ⟨_, rfl, ?_⟩
    by_cases z : StOk S S'
    · rw [if_pos z] at h
      split at h
      · rename_i fs2 hd
        cases h
        intro dd fs' w' e s' hx hm hn hr
        obtain ⟨e2, s2, dr⟩ := cut_ok' e s s' z
        obtain ⟨k1, k2⟩ := fzf_ok e s s' z hn hr hd
        exact p dd fs' (w'.cut w.as) e2 s2 hx (fun q => hm (dr.M _ q)) k1 k2
      · cases h
    · rw [if_neg z] at h; cases h
  · cases h
end
section
variable {X : Cx} {ξ : Iv} {W : WX} {G : Gp}
theorem d_gc {e : Expr} {fa : FE} (h : DE X ξ W e fa) : DE X ξ W e (fGc fa) := PE.imp h fun σ H Q ⟨w, env, S, res, eH, s, en, h, p⟩ => by
  obtain ⟨r1, h1, p1⟩ := gcR_ok s h p
  exact ⟨w, env, S, r1, eH, s, en, h1, p1⟩
variable {P : Program} {w0 : World} {K : PySem.W.Frag} {mg : Str → Option Value} {base : Heap}
theorem fn_gcD {f : Addr} {fd : FuncData} {ps : List Str} {k n : Nat} {F : DFn} (h : FnOk P w0 K mg base (L2.CX P w0) k f fd ps (spD K mg n F)) : FnOk P w0 K mg base (L2.CX P w0) k f fd ps (spD K mg n (gcD F)) :=
  h.imp fun vs H Q E ⟨hl, w, S, ds, r, eH, hs, rv, hF, p⟩ => by
    obtain ⟨r1, h1, p1⟩ := gcR_ok hs hF p
    exact ⟨hl, w, S, ds, r1, eH, hs, rv, h1, p1⟩
/-! ### statements -/
def fzE (n : Nat) (S : Store) : DEnv → Option DEnv
  | [] => some []
  | none :: r => (match fzE n S r with | some r' => some (none :: r') | none => none)
  | some d :: r => (match fzd n S 6 d, fzE n S r with | some d', some r' => some (some d' :: r') | _, _ => none)
def fgt (ks : List Nat) (env : DEnv) : DEnv := match ks with
  | [] => env
  | k :: r => (fgt r env).set k none
theorem fgt_len : ∀ (ks : List Nat) (env : DEnv), (fgt ks env).length = env.length
  | [], env => rfl
  | k :: r, env => by unfold fgt; rw [List.length_set, fgt_len r env]
theorem fgt_get : ∀ {ks : List Nat} {env : DEnv} {i : Nat} {d : Dv}, (fgt ks env)[i]? = some (some d) → env[i]? = some (some d)
  | [], env, i, d, h => h
  | k :: r, env, i, d, h => by
    unfold fgt at h
    by_cases z : k = i
    · subst z
      rw [List.getElem?_set_self'] at h
      cases e : (fgt r env)[k]? with
      | none => rw [e] at h; cases h
      | some o => rw [e] at h; cases h
    · rw [List.getElem?_set_ne z] at h
      exact fgt_get h
theorem fzE_len {n : Nat} {S : Store} : ∀ {env env' : DEnv}, fzE n S env = some env' → env.length = env'.length
  | [], env', h => by cases h; rfl
  | none :: r, env', h => by
    unfold fzE at h
    split at h
    · rename_i r' hr; cases h; simp [fzE_len hr]
    · cases h
  | some d :: r, env', h => by
    unfold fzE at h
    split at h
    · rename_i d' r' h1 h2; cases h; simp [fzE_len h2]
    · cases h
theorem fzE_get {n : Nat} {S : Store} : ∀ {env env' : DEnv} {i : Nat} {d' : Dv}, fzE n S env = some env' → env'[i]? = some (some d') → ∃ d, env[i]? = some (some d) ∧ fzd n S 6 d = some d'
  | [], env', i, d, h, hi => by cases h; simp at hi
  | none :: r, env', i, d, h, hi => by
    unfold fzE at h
    split at h
    · rename_i r' hr
      cases h
      cases i with
      | zero => simp at hi
      | succ i => simpa using fzE_get hr (by simpa using hi)
    · cases h
  | some d0 :: r, env', i, d, h, hi => by
    unfold fzE at h
    split at h
    · rename_i d1 r' h1 h2
      cases h
      cases i with
      | zero =>
        simp at hi
        subst hi
        exact ⟨d0, by simp, h1⟩
      | succ i => simpa using fzE_get h2 (by simpa using hi)
    · cases h
open Classical in
noncomputable def gcS (ks : List Nat) (S : Store) (r : Option Rf) : Option Rf := match r with
  | some (.nx env' S') => if StOk S S' then (match fzE S.length S' (fgt ks env') with | some e => some (.nx e (S'.take S.length)) | none => none) else none
  | some (.bk env' S') => if StOk S S' then (match fzE S.length S' (fgt ks env') with | some e => some (.bk e (S'.take S.length)) | none => none) else none
  | some (.ct env' S') => if StOk S S' then (match fzE S.length S' (fgt ks env') with | some e => some (.ct e (S'.take S.length)) | none => none) else none
  | some (.rt d S') => if StOk S S' then (match fzd S.length S' 6 d with | some d' => some (.rt d' (S'.take S.length)) | none => none) else none
  | some (.exc c fs env' S') => if StOk S S' then (match fzf S.length S' fs, fzE S.length S' (fgt ks env') with | some fs', some e => some (.exc c fs' e (S'.take S.length)) | _, _ => none) else none
  | none => none
noncomputable def sGc (ks : List Nat) (fb : FS) : FS := fun env S => gcS ks S (fb env S)
theorem EOk.fz {w w' : Wd} {S S' : Store} {σ : L2.St} {env env' : DEnv} {ks : List Nat} (e : Ext w w') (s : SOk G w S) (s' : SOk G w' S') (z : StOk S S') (h : EOk G ξ w' σ env) (hf : fzE S.length S' (fgt ks env) = some env') (hi : ξ.P (w'.cut w.as) σ) : EOk G ξ (w'.cut w.as) σ env' := by
  refine ⟨by rw [h.len, ← fgt_len ks env, fzE_len hf], fun i d q => ?_, hi⟩
  obtain ⟨d0, h1, h2⟩ := fzE_get hf q
  obtain ⟨v, h3, h4⟩ := h.get i d0 (fgt_get h1)
  exact ⟨v, h3, fzd_ok e s s' z 6 h4 h2⟩
/-- what is known besides stays when names are forgotten -/
structure IvC (ξ : Iv) : Prop where
  cut : ∀ w w' σ, Ext w (w'.cut w.as) → Ext w w' → ξ.P w' σ → ξ.P (w'.cut w.as) σ
theorem IvC.no : IvC Iv.no := ⟨fun _ _ _ _ _ _ => True.intro⟩
theorem gcS_ok (ic : IvC ξ) {w : Wd} {S : Store} {ks : List Nat} {D : Ends} (s : SOk G w S) {r : Option Rf} {res : Rf} (h : gcS ks S r = some res) (p : PF G ξ W w res D) : ∃ r1, r = some r1 ∧ PF G ξ W w r1 D := by
  unfold gcS at h
  split at h
  · rename_i env' S'
    refine ⟨_, rfl, ?_⟩
    by_cases z : StOk S S'
    · rw [if_pos z] at h
      split at h
      · rename_i e2 hd
        cases h
        intro σ' w' e s' en
        obtain ⟨ee, s2, dr⟩ := cut_ok' e s s' z
        exact p σ' (w'.cut w.as) ee s2 (EOk.fz e s s' z en hd (ic.cut _ _ _ ee e en.inv))
      · cases h
    · rw [if_neg z] at h; cases h
  · rename_i env' S'
    refine ⟨_, rfl, ?_⟩
    by_cases z : StOk S S'
    · rw [if_pos z] at h
      split at h
      · rename_i e2 hd
        cases h
        intro σ' w' e s' en
        obtain ⟨ee, s2, dr⟩ := cut_ok' e s s' z
        exact p σ' (w'.cut w.as) ee s2 (EOk.fz e s s' z en hd (ic.cut _ _ _ ee e en.inv))
      · cases h
    · rw [if_neg z] at h; cases h
  · rename_i env' S'
    refine ⟨_, rfl, ?_⟩
    by_cases z : StOk S S'
    · rw [if_pos z] at h
      split at h
      · rename_i e2 hd
        cases h
        intro σ' w' e s' en
        obtain ⟨ee, s2, dr⟩ := cut_ok' e s s' z
        exact p σ' (w'.cut w.as) ee s2 (EOk.fz e s s' z en hd (ic.cut _ _ _ ee e en.inv))
      · cases h
    · rw [if_neg z] at h; cases h
  · rename_i d S'
    refine ⟨_, rfl, ?_⟩
    by_cases z : StOk S S'
    · rw [if_pos z] at h
      split at h
      · rename_i d' hd
        cases h
        intro v w' e s' rv
        obtain ⟨ee, s2, dr⟩ := cut_ok' e s s' z
        exact p v (w'.cut w.as) ee s2 (fzd_ok e s s' z 6 rv hd)
      · cases h
    · rw [if_neg z] at h; cases h
  · rename_i c fs env' S'
    refine ⟨_, rfl, ?_⟩
    by_cases z : StOk S S'
    · rw [if_pos z] at h
      split at h
      · rename_i fs2 e2 hd he
        cases h
        intro σ' dd fs' w' e s' en hx hm hn hr
        obtain ⟨ee, s2, dr⟩ := cut_ok' e s s' z
        obtain ⟨k1, k2⟩ := fzf_ok e s s' z hn hr hd
        exact p σ' dd fs' (w'.cut w.as) ee s2 (EOk.fz e s s' z en he (ic.cut _ _ _ ee e en.inv)) hx (fun q => hm (dr.M _ q)) k1 k2
      · cases h
    · rw [if_neg z] at h; cases h
  · cases h
theorem s_gc {st : Stmt} {f : FS} (ic : IvC ξ) (ks : List Nat) (h : DS X ξ W st f) : DS X ξ W st (sGc ks f) := PS.imp h fun D σ H ⟨w, env, S, res, eH, s, en, h, p⟩ => by
  obtain ⟨r1, h1, p1⟩ := gcS_ok ic s h p
  exact ⟨w, env, S, r1, eH, s, en, h1, p1⟩
theorem ss_gc {st : List Stmt} {f : FS} (ic : IvC ξ) (ks : List Nat) (h : DSs X ξ W st f) : DSs X ξ W st (sGc ks f) := PSs.imp h fun D σ H ⟨w, env, S, res, eH, s, en, h, p⟩ => by
  obtain ⟨r1, h1, p1⟩ := gcS_ok ic s h p
  exact ⟨w, env, S, r1, eH, s, en, h1, p1⟩
end
end FC

set_option Elab.async false
set_option linter.all false
set_option maxRecDepth 100000
namespace FC
open PySem PySem.Spec L2
open PySem.Sem (wp wp_mono wp_bind')
theorem wp_execs_append {M : Model} {Γ : _root_.PySem.Ctx} {env : PySem.Env} {l2 : List Stmt} {post : Flow → Pos → Shared → Prop} {exc : Value → Pos → Shared → Prop} : ∀ (l1 : List Stmt) (p : Pos) (s : Shared),
    wp M Γ (execs l1 env) (fun f p' s' => match f with | .next => wp M Γ (execs l2 env) post exc p' s' | f => post f p' s') exc p s → wp M Γ (execs (l1 ++ l2) env) post exc p s
  | [], p, s, h => h
  | st :: rest, p, s, h => by
    show wp M Γ (execs (st :: (rest ++ l2)) env) post exc p s
    rw [execs_cons, wp_bind'] at h ⊢
    refine wp_mono M Γ _ (fun f p' s' h' => ?_) (fun _ _ _ h' => h') _ _ h
    cases f with
    | next => exact wp_execs_append rest p' s' h'
    | ret v => exact h'
    | brk => exact h'
    | cont => exact h'
theorem pss_append {X : Cx} {l1 l2 : List Stmt} {t u : TS} (h1 : PSs X l1 t) (h2 : PSs X l2 u) : PSs X (l1 ++ l2) (tSeq t u) := by
  refine ⟨fun pins s σ H D I h => fun Γ p hΓ => wp_execs_append l1 p s ?_⟩
  refine wp_mono _ Γ _ (fun f p' s' h' => ?_) (fun _ _ _ h' => h') _ _ (h1.run pins s σ H { D with nx := u D } I h Γ p hΓ)
  cases f with
  | next =>
    obtain ⟨σ', H', I', q⟩ := h'
    exact h2.run pins s' σ' H' D I' q Γ p' hΓ
  | ret v => exact h'
  | brk => exact h'
  | cont => exact h'
section
variable {X : Cx} {ξ : Iv} {W : WX} {G : Gp}
theorem ss_app {l1 l2 : List Stmt} {f g : FS} (h1 : DSs X ξ W l1 f) (h2 : DSs X ξ W l2 g) : DSs X ξ W (l1 ++ l2) (sSeq f g) :=
  PSs.imp (pss_append h1 h2) fun D σ H ⟨w, env, S, r, eH, s, en, h, p⟩ => by
    subst eH
    unfold sSeq at h
    cases q : f env S with
    | none => rw [q] at h; cases h
    | some r1 =>
      rw [q] at h
      refine ⟨w, env, S, r1, rfl, s, en, q, ?_⟩
      cases r1 with
      | nx env1 S1 => exact fun σ1 w1 e1 s1 en1 => ⟨w1, env1, S1, r, rfl, s1, en1, h, p.mono e1⟩
      | rt d S1 => cases h; exact p
      | bk env1 S1 => cases h; exact p
      | ct env1 S1 => cases h; exact p
      | exc c fs env1 S1 => cases h; exact p
end
end FC
namespace FC
open PySem PySem.Spec L2
theorem ss_split {X : Cx} {ξ : Iv} {W : WX} {l : List Stmt} {f g : FS} (k : Nat) (h1 : DSs X ξ W (l.take k) f) (h2 : DSs X ξ W (l.drop k) g) : DSs X ξ W l (sSeq f g) := by
  have h := ss_app h1 h2
  rwa [List.take_append_drop] at h
end FC

set_option Elab.async false
set_option linter.all false
set_option maxRecDepth 100000
set_option maxHeartbeats 4000000
namespace FC
open PySem PySem.Spec L2 PyProof.Rows
open ClX (CRead CVal CMet)
/-! ### tuple * int -/
theorem tuple_mul1 (l : Addr) (items : Array Value) (n : Nat) (dd : Option Addr) (sl : Array (Option Value)) (u : Tok) :
    Meets (Builtin.«tuple.__mul__» ⟨[.ref l, .int 1 u], []⟩) (fun _ R s => s.heap.get? l = some { cls := .type "tuple", dict := dd, data := .seq items n, slots := sl } ∧
      R (.ok (.ret (Value.ref l))) s) :=
  .of_wp fun prog w A R s h => by
    obtain ⟨hp, g, d, tk, os⟩ := s
    obtain ⟨hl, h⟩ := h
    have f1 := AutoSeq1.idx_int
    wp_walk using wpAny_loadPart' hl
    exact ⟨_, rfl, h⟩
def rRep1 (K : PySem.W.Frag) : R2 := fun x y H Q => ∃ l xs, x = .ref l ∧ y = .int 1 ∧ SqT K H l xs ∧ Q (.ref l) H
section
variable {X : Cx} {ξ : Iv} {W : WX} {G : Gp}
theorem op_rep1 : OpR X (binaryOp .Mult) (rRep1 X.K) := by
  intro pins s σ H x y v u Q I rx ry h
  obtain ⟨l, xs, rfl, rfl, hT, q⟩ := h
  cases rx
  obtain ⟨t, rfl⟩ := ry
  obtain ⟨its, r, ⟨⟨cls, dd, data, sl⟩, ho, hc, n, hd⟩, hs⟩ := I.tuple hT
  simp only at hc hd
  subst hc hd
  refine wpAny_binaryOp_repeat_ref (T := "tuple") (U := "int") (by decide) ⟨_, ho, rfl⟩ (fun s' => typeIs_int s' 1 t) noFill_tuple_mul F.fills_int_mul F.slot_int_rmul repeat_tuple F.slot_int_index.lookup
    (call_meets F.slot_int_rmul (typeIs_int s 1 t) F.entry_int_rmul (F.args_int_rmul_2 _ _) (int_rmul_tuple 1 t l its.toArray n dd sl)
      ⟨ho, rfl, ⟨_, ho, rfl⟩, call_meets F.slot_tuple_mul ⟨_, ho, rfl⟩ F.entry_tuple_mul (F.args_tuple_mul_2 _ _) (tuple_mul1 l its.toArray n dd sl t) ⟨ho, ?_⟩⟩)
  exact ⟨.ref l, H, I.tok _, rfl, q⟩
/-- * of ints; of a tuple and an int from 1 on -/
def oMulT : DOp := fun x y => match x, y with
  | .int i, .int j => if CM i j then ret (.int (i * j)) else stuck
  | .tup xs, .int k => if k = 1 then ret (.tup xs) else if xs ≠ [] ∧ 2 ≤ k ∧ k ≤ 1000 ∧ xs.length ≤ 1000 then ret (.tup (List.replicate k.toNat xs).flatten) else stuck
  | _, _ => stuck
theorem RpAll.flat {w : Wd} {vs : List V} {ds : List Dv} (r : RpAll G w vs ds) : ∀ n : Nat, RpAll G w (List.replicate n vs).flatten (List.replicate n ds).flatten
  | 0 => .nil
  | n + 1 => r.append (RpAll.flat r n)
theorem od_mulT : OpD G (fun x y H Q => rI (fun i j => i.natAbs.log2 + j.natAbs.log2 < 1000000) (fun i j => .int (i * j)) x y H Q ∨ (rRep1 G.K x y H Q ∨ rRepT G.K x y H Q)) oMulT := by
  intro W w σ S x y dx dy res Q s rx ry h p
  cases rx <;> first | (cases h; done) | skip
  · cases ry <;> first | (cases h; done) | skip
    rename_i i j
    have h' : (if CM i j then ret (.int (i * j)) else stuck) S = some res := h
    by_cases z : CM i j
    · rw [if_pos z] at h'; cases h'
      exact .inl ⟨i, j, rfl, rfl, z, p.here s (.int _)⟩
    · rw [if_neg z] at h'; cases h'
  · cases ry <;> first | (cases h; done) | skip
    rename_i a xs ds ha ra k
    have h' : (if k = 1 then ret (.tup ds) else if ds ≠ [] ∧ 2 ≤ k ∧ k ≤ 1000 ∧ ds.length ≤ 1000 then ret (.tup (List.replicate k.toNat ds).flatten) else stuck) S = some res := h
    by_cases z : k = 1
    · rw [if_pos z] at h'; cases h'
      subst z
      exact .inr (.inl ⟨a, xs, rfl, rfl, ha.to, p.here s (.tup ha ra)⟩)
    · rw [if_neg z] at h'
      by_cases q : ds ≠ [] ∧ 2 ≤ k ∧ k ≤ 1000 ∧ ds.length ≤ 1000
      · rw [if_pos q] at h'; cases h'
        refine .inr (.inr ⟨a, k, xs, rfl, rfl, ha.to, fun e => q.1 ?_, q.2.1, q.2.2.1, by rw [ra.length]; exact q.2.2.2, fun l hl => p.ok_ (.put hl) (s.put hl) (Rp.new_tup s hl (ra.flat _))⟩)
        subst e
        cases ra
        rfl
      · rw [if_neg q] at h'; cases h'
theorem d_mulT {a b : Expr} {fa fb : FE} {pos : Pos} (ha : DE X ξ W a fa) (hb : DE X ξ W b fb) : DE X ξ W (.BinOp a .Mult b pos) (fOp oMulT fa fb) := d_op (OpR.or op_mulW (OpR.or op_rep1 op_repT)) od_mulT ha hb
/-! ### list + list -/
def rCatL (K : PySem.W.Frag) : R2 := fun x y H Q => ∃ l b xs zs, x = .ref l ∧ y = .ref b ∧ SqL K H l xs ∧ SqL K H b zs ∧ xs.length + zs.length ≤ sizeLine ∧ ∀ p, H p = none → Q (.ref p) (upd H p (.lst (xs ++ zs)))
theorem op_catL : OpR X (binaryOp .Add) (rCatL X.K) := by
  intro pins s σ H x y v u Q I rx ry h
  obtain ⟨l, b, xs, zs, rfl, rfl, hH, hB, hz, q⟩ := h
  cases rx
  cases ry
  obtain ⟨its, r, ⟨⟨cls, dd, data, sl⟩, n, ho, hc, _, hd⟩, _⟩ := I.list hH
  obtain ⟨its2, r2, ⟨⟨cls2, dd2, data2, sl2⟩, n2, ho2, hc2, _, hd2⟩, _⟩ := I.list hB
  simp only at hc hd hc2 hd2
  subst hc hd hc2 hd2
  have l1 := r.length
  have l2 := r2.length
  have e : its.toArray ++ its2.toArray = (its ++ its2).toArray := by simp
  refine PySem.concat_meets ⟨_, ho, rfl⟩ ⟨_, ho2, rfl⟩ PySem.noFill_list_add PySem.seq_list_add PySem.F.slot_list_add PySem.F.entry_list_add (PySem.F.args_list_add_2 _ _) (PyProof.Rows.list_addW l b its.toArray its2.toArray n n2 dd dd2 sl sl2 (by rw [List.size_toArray, List.size_toArray]; omega)) ⟨ho, ho2, ?_⟩
  rw [e]
  exact ⟨.ref _, _, I.lnew (t' := s.toks) (r.append r2) (by rw [List.length_append]; omega), rfl, q _ I.fresh⟩
/-- + of ints, tuples, lists -/
def notTup : Dv → Bool
  | .tup _ => false
  | _ => true
def oAddX (m : Bool) : DOp := fun x y S => match x with
  | .int i => (match y with | .int j => some (.ok (.int (i + j)) S) | _ => none)
  | .tup xs => (match y with | .tup ys => if xs.length + ys.length ≤ big then some (.ok (.tup (xs ++ ys)) S) else none | _ => none)
  | x => match seqOf x S, seqOf y S with
    | some xs, some ys => if notTup y = true ∧ xs.length + ys.length ≤ big then newL m (xs ++ ys) S else none
    | _, _ => none
theorem seqL_ok {w : Wd} {S : Store} {v : V} {d : Dv} {ds : List Dv} (s : SOk G w S) (r : Rp G w v d) (h : seqOf d S = some ds) (ht : ∀ xs, d ≠ .tup xs) : ∃ a xs, v = .ref a ∧ SqL G.K w.H a xs ∧ RpAll G w xs ds := by
  cases r <;> first | (cases h; done) | skip
  · exact absurd rfl (ht _)
  · cases h
    rename_i ha ra
    exact ⟨_, _, rfl, ha.to, ra⟩
  · rename_i a n ha
    dsimp only [seqOf] at h
    split at h
    · rename_i xs e
      cases h
      obtain ⟨ys, h1, h2⟩ := s.cont n a _ ha e
      exact ⟨a, ys, rfl, SqL.of h1, h2⟩
    · cases h
theorem od_addX (m : Bool) : OpD G (fun x y H Q => rAddD G.K x y H Q ∨ rCatL G.K x y H Q) (oAddX m) := by
  intro W w σ S x y dx dy res Q s rx ry h p
  have gen : (∀ xs, dx ≠ .tup xs) → (match seqOf dx S, seqOf dy S with
    | some xs, some ys => if notTup dy = true ∧ xs.length + ys.length ≤ big then newL m (xs ++ ys) S else none
    | _, _ => none) = some res → rCatL G.K x y w.H Q := fun hn h => by
    split at h
    · rename_i xs ys e1 e2
      by_cases z : notTup dy = true ∧ xs.length + ys.length ≤ big
      · rw [if_pos z] at h
        obtain ⟨a, us, rfl, ha, ra⟩ := seqL_ok s rx e1 hn
        obtain ⟨b, ws, rfl, hb, rb⟩ := seqL_ok s ry e2 (fun q e => by rw [e] at z; exact absurd z.1 (by simp [notTup]))
        exact ⟨a, b, us, ws, rfl, rfl, ha, hb, by rw [ra.length, rb.length]; exact big_le z.2, new_lst s (ra.append rb) h p⟩
      · rw [if_neg z] at h; cases h
    · cases h
  cases dx with
  | int i =>
    cases dy <;> first | (cases h; done) | skip
    exact .inl (od_add W w σ S x y _ _ res Q s rx ry h p)
  | tup xs =>
    cases dy <;> first | (cases h; done) | skip
    rename_i ys
    exact .inl (od_add W w σ S x y _ _ res Q s rx ry (by
      show lim _ (ret _) S = some res
      unfold lim
      have h' : (if xs.length + ys.length ≤ big then some (Rs.ok (Dv.tup (xs ++ ys)) S) else none) = some res := h
      by_cases z : xs.length + ys.length ≤ big
      · rw [if_pos z] at h' ⊢; exact h'
      · rw [if_neg z] at h'; cases h') p)
  | non => exact .inr (gen (fun _ e => nomatch e) h)
  | bl _ => exact .inr (gen (fun _ e => nomatch e) h)
  | str _ => exact .inr (gen (fun _ e => nomatch e) h)
  | lst _ => exact .inr (gen (fun _ e => nomatch e) h)
  | obj _ => exact .inr (gen (fun _ e => nomatch e) h)
  | ins _ _ => exact .inr (gen (fun _ e => nomatch e) h)
  | dic _ => exact .inr (gen (fun _ e => nomatch e) h)
  | dit _ => exact .inr (gen (fun _ e => nomatch e) h)
  | cls _ => exact .inr (gen (fun _ e => nomatch e) h)
theorem d_addX (m : Bool) {a b : Expr} {fa fb : FE} {pos : Pos} (ha : DE X ξ W a fa) (hb : DE X ξ W b fb) : DE X ξ W (.BinOp a .Add b pos) (fOp (oAddX m) fa fb) := d_op (OpR.or op_addD op_catL) (od_addX m) ha hb
/-! ### or, and by truth -/
@[simp] def fOrT (fa fb : FE) : FE := fun env => bnd (fa env) fun x => bnd (tru x) fun c => if c = true then ret x else fb env
@[simp] def fAndT (fa fb : FE) : FE := fun env => bnd (fa env) fun x => bnd (tru x) fun c => if c = true then fb env else ret x
theorem tru_bnd {w : Wd} {S : Store} {x : V} {d : Dv} {α : Type} {k : Bool → Mm α} {r : Rs α} (s : SOk G w S) (rx : Rp G w x d) (h : bnd (tru d) k S = some r) : ∃ b, TruV G.K x w.H b ∧ k b S = some r := by
  unfold bnd at h
  cases q : tru d S with
  | none => rw [q] at h; cases h
  | some r1 =>
    rw [q] at h
    cases r1 with
    | exc c fs S' => exact (tru_exc q).elim
    | ok b S' =>
      obtain ⟨rfl, t⟩ := tru_ok' s rx q
      exact ⟨b, t, h⟩
theorem d_orT {a b : Expr} {rest : List Expr} {fa fb : FE} {pos : Pos} (ha : DE X ξ W a fa) (hb : DE X ξ W (.BoolOp .Or (b :: rest) pos) fb) : DE X ξ W (.BoolOp .Or (a :: b :: rest) pos) (fOrT fa fb) :=
  PE.imp (pe_orT ha hb) fun σ H Q ⟨w, env, S, res, eH, s, en, h, p⟩ => by
    subst eH
    refine seqR s en h p.px fun x S1 v w1 e1 s1 en1 r1 h1 => ?_
    obtain ⟨k, t, h2⟩ := tru_bnd s1 r1 h1
    refine ⟨k, t, ?_⟩
    cases k with
    | false => exact ⟨w1, env, S1, res, rfl, s1, en1, h2, p.mono e1 s1⟩
    | true => cases h2; exact p.ok_ e1 s1 r1
theorem d_andT {a b : Expr} {rest : List Expr} {fa fb : FE} {pos : Pos} (ha : DE X ξ W a fa) (hb : DE X ξ W (.BoolOp .And (b :: rest) pos) fb) : DE X ξ W (.BoolOp .And (a :: b :: rest) pos) (fAndT fa fb) :=
  PE.imp (pe_andT ha hb) fun σ H Q ⟨w, env, S, res, eH, s, en, h, p⟩ => by
    subst eH
    refine seqR s en h p.px fun x S1 v w1 e1 s1 en1 r1 h1 => ?_
    obtain ⟨k, t, h2⟩ := tru_bnd s1 r1 h1
    refine ⟨k, t, ?_⟩
    cases k with
    | true => exact ⟨w1, env, S1, res, rfl, s1, en1, h2, p.mono e1 s1⟩
    | false => cases h2; exact p.ok_ e1 s1 r1
/-! ### calls as code -/
section
variable {CX : CXT} {k n : Nat} {f g C q : Addr} {fd : FuncData} {ps ks : List Str} {sp : Sp} {dvs : List V} {ds : List Value} {E : L2.St → XK} {mc : Value} {m : Str}
theorem run_fnC {pins : List (Addr × Obj)} {σ : L2.St} {H : Hp} {s : Shared} {Q : VK} {us : List Value} {vs : List V} (F : FnOk X.prog X.w X.K X.mg X.base CX k f fd ps sp) (hr : Room k X.A) (hb : Binds X.K fd ps ds) (hd : Vals dvs ds) (hx : PassesAt CX X σ (E σ))
    (I : Inv X pins σ H s) (r : Vals vs us) (h : sp (vs ++ dvs) H Q (E σ)) :
    codeAny (model X.prog X.w) X.A (.call (.ref f) ⟨us, []⟩) (fun r s' => match r with | .ok (.ret v) => EP X pins σ Q v s' | .ok _ => False | .error e => X.xe e s') s := by
  have r2 : Vals (vs ++ dvs) (us ++ ds) := r.append hd
  have hl : (us ++ ds).length = ps.length := by rw [← r2.length]; exact F.len _ _ _ _ h
  refine codeAny_mono (F.run X.A X.stack s H ⟨us, []⟩ (us ++ ds) (vs ++ dvs) Q (E σ) hr I.env0 (hb s us I.kIn hl) r2 h) fun r s' hq => ?_
  cases r with
  | error e => exact hx pins H s e s' I hq
  | ok fl =>
    cases fl with
    | ret u => exact I.after hq
    | next => exact False.elim hq
    | brk => exact False.elim hq
    | cont => exact False.elim hq
/-- C.m(e, ..), m a classmethod -/
def tCMethS (C : Addr) (sp : Sp) (dvs : List V) (E : L2.St → XK) (ta : TE) (t : TA) : TE := fun σ H Q => ta σ H fun x H1 => x = .ref C ∧ t σ H1 fun vs H2 => sp (.ref C :: vs ++ dvs) H2 Q (E σ)
theorem pe_cmethS {o e : Expr} {es : List Expr} {apos pos : Pos} {ta : TE} {t : TA} {pl : Sem Bool} {p : Addr} (he : PE X o ta) (r : CRead X.K C mc) (c : CMet X.K C mc m p g) (F : FnOk X.prog X.w X.K X.mg X.base CX k g fd ps sp) (hr : Room k X.A) (hb : Binds X.K fd ps ds) (hd : Vals dvs ds) (hx : ∀ σ, PassesAt CX X σ (E σ)) (ha : PA X (e :: es) t)
    (hst : starEach (e :: es) X.env = (false, eval e X.env) :: starEach es X.env := by rfl) (hpl : (backTo pos (starEach es X.env)).any (·.1) = false := by rfl)
    (ht : eval (.Call (.Attribute o m apos) (e :: es) [] pos) X.env = (do
      let ov ← eval o X.env
      standAt apos.atName
      let (f, first) ← holding [ov] (getMethod ov m pl)
      callWith pos f first (backTo pos (starEach (e :: es) X.env)) (backToKw pos (keywordEach [] X.env))) := by rfl) :
    PE X (.Call (.Attribute o m apos) (e :: es) [] pos) (tCMethS C sp dvs E ta t) := by
  refine ⟨fun pins s σ H Q I h => ?_⟩
  refine PySem.W.methodCall_KW (pl := pl) (thn (he.run pins s σ H _ I h) fun u s1 ⟨x, H1, I1, rx, ex, q⟩ => ?_) ht
  subst ex
  obtain rfl : u = Value.ref C := rx
  refine ClX.getmethcm_ok I1 r c fun s2 I2 => ?_
  refine ClX.callwith_cm I2 (ClX.base_none I1 (Nat.le_refl _)) c.fi (thn (ha.run pos _ s2 σ H1 _ I2 q) fun us s3 ⟨vs, H2, I3, rv, q2⟩ => ⟨⟨ClX.pin_at I3, I3.kIn⟩, ?_⟩) hst hpl
  have z := wpAny_call (PySem.W.method_call (ClX.pin_at I3) (run_fnC (us := .ref C :: us) (vs := .ref C :: vs) F hr hb hd (hx σ) I3 (.cons rfl rv) q2))
  exact thn z fun _ _ y => ClX.unpinE y
/-- C.m(e, ..), m a staticmethod -/
structure SMet (K : PySem.W.Frag) (C : Addr) (mc : Value) (m : Str) (p g : Addr) : Prop where
  at_ : PySem.W.findCls K (.ref C) mc m = some (.get (.builtin "staticmethod.__get__") (.ref p) .none (.ref C))
  rc : ∃ rest, PySem.W.recIn K p "staticmethod" = some (.ref g :: rest)
  kp : PySem.W.keepIn K (.ref g) = true
def tSMethS (C : Addr) (sp : Sp) (dvs : List V) (E : L2.St → XK) (ta : TE) (t : TA) : TE := fun σ H Q => ta σ H fun x H1 => x = .ref C ∧ t σ H1 fun vs H2 => sp (vs ++ dvs) H2 Q (E σ)
theorem getsm_ok {pins : List (Addr × Obj)} {σ : L2.St} {H : Hp} {s : Shared} {p : Addr} {pl : Sem Bool} {A : Around} {E : Value → Shared → Prop} {Q : Value × List Value → Shared → Prop} (I : Inv X pins σ H s) (r : CRead X.K C mc) (k : SMet X.K C mc m p g)
    (h : ∀ s', Inv X pins σ H s' → Q (.ref g, []) s') : wpAny (model X.prog X.w) A (getMethod (.ref C) m pl) Q E s := by
  obtain ⟨rest, hp⟩ := k.rc
  refine PySem.W.method_cls I.kIn r.ga (PySem.W.cls_bind I.kIn r.rd k.at_ ?_)
  refine wpAny_call (PySem.W.sm_get (s := { s with toks := s.toks + 1 }) I.kIn hp (PySem.W.handed_on rfl ?_))
  exact h _ (I.tok _)
theorem pe_smethS {o e : Expr} {es : List Expr} {apos pos : Pos} {ta : TE} {t : TA} {pl : Sem Bool} {p : Addr} (he : PE X o ta) (r : CRead X.K C mc) (c : SMet X.K C mc m p g) (F : FnOk X.prog X.w X.K X.mg X.base CX k g fd ps sp) (hr : Room k X.A) (hb : Binds X.K fd ps ds) (hd : Vals dvs ds) (hx : ∀ σ, PassesAt CX X σ (E σ)) (ha : PA X (e :: es) t)
    (hst : starEach (e :: es) X.env = (false, eval e X.env) :: starEach es X.env := by rfl) (hpl : (backTo pos (starEach es X.env)).any (·.1) = false := by rfl)
    (ht : eval (.Call (.Attribute o m apos) (e :: es) [] pos) X.env = (do
      let ov ← eval o X.env
      standAt apos.atName
      let (f, first) ← holding [ov] (getMethod ov m pl)
      callWith pos f first (backTo pos (starEach (e :: es) X.env)) (backToKw pos (keywordEach [] X.env))) := by rfl) :
    PE X (.Call (.Attribute o m apos) (e :: es) [] pos) (tSMethS C sp dvs E ta t) := by
  refine ⟨fun pins s σ H Q I h => ?_⟩
  refine PySem.W.methodCall_KW (pl := pl) (thn (he.run pins s σ H _ I h) fun u s1 ⟨x, H1, I1, rx, ex, q⟩ => ?_) ht
  subst ex
  obtain rfl : u = Value.ref C := rx
  refine getsm_ok I1 r c fun s2 I2 => ?_
  refine PySem.W.callWith_K (h₀ := X.base) I.ok.mod.kin c.kp (thn (ha.run pos _ s2 σ H1 _ I2 q) fun us s3 ⟨vs, H2, I3, rv, q2⟩ => ⟨I3.kIn, ?_⟩) hst hpl
  exact wpAny_call (run_fnC F hr hb hd (hx σ) I3 rv q2)
end
end
end FC

set_option Elab.async false
set_option linter.all false
set_option maxRecDepth 100000
set_option maxHeartbeats 4000000
namespace FC
open PySem PySem.Spec L2 PyProof.Rows
open ClX (CRead CVal CMet)
section
variable {X : Cx} {ξ : Iv} {W : WX} {G : Gp} {k n N : Nat} {f g C q : Addr} {fd : FuncData} {ps ks : List Str} {dvs : List V} {dds : List Dv} {ds : List Value} {mc : Value} {m c : Str} {F : DFn} {p0 : Addr}
/-- the default values, as data -/
def DfOk (G : Gp) (dvs : List V) (dds : List Dv) : Prop := ∀ w, RpAll G w dvs dds
theorem DfOk.nil : DfOk G [] [] := fun _ => .nil
theorem cx_no {P : Program} {w : World} {outer : List Env} {H : Hp} {s : Shared} {e : Value} {s' : Shared} (h : L2.CX P w outer H s (fun _ _ _ => False) e s') : False := by
  obtain ⟨_, _, _, _, _, _, _, _, _, _, _, _, z⟩ := h
  exact z
/-- a call's answer handed on -/
theorem sp_call {w : Wd} {σ : L2.St} {S : Store} {vs : List V} {es : List Dv} {res : Rs Dv} {Q : VK} (hl : vs.length = N) (s : SOk (gp X) w S) (r : RpAll (gp X) w vs es) (h : F es S = some res) (p : PR (gp X) W (Rp (gp X)) w σ res Q) : spD X.K X.mg N F vs w.H Q (WE W σ) := by
  refine ⟨hl, w, S, es, res, rfl, s, r, h, ?_⟩
  cases res with
  | ok d S' => exact p
  | exc c2 fs2 S' => exact fun dd fs3 w' e s' hd hm hn hr => p dd fs3 w' e s' hd hm hn hr
/-! ### C.m(..) -/
@[simp] def fCm (c : Str) (n : Nat) (dds : List Dv) (F : DFn) (fa : FA) : FE := fun env => bnd (fa env) fun ds => if ds.length = n then F (.cls c :: ds ++ dds) else stuck
theorem d_cmeth {pl : Sem Bool} {e : Expr} {es : List Expr} {px apos pos : Pos} {fa : FA} (hmg : X.mg c = some (.ref (cOf X.mg c))) (r : CRead X.K (cOf X.mg c) mc) (cm : CMet X.K (cOf X.mg c) mc m p0 g) (hF : FnOk X.prog X.w X.K X.mg X.base (L2.CX X.prog X.w) k g fd ps (spD X.K X.mg N F)) (hr : Room k X.A) (hb : Binds X.K fd ps ds) (hd : Vals dvs ds) (hdd : DfOk (gp X) dvs dds) (hN : N = n + 1 + dvs.length) (tk : Takes X W)
    (ha : DA X ξ W (e :: es) fa) (hg : Gl X c := by rfl) (hdb : (c == ("__debug__" : Str)) = false := by decide) (hst : starEach (e :: es) X.env = (false, eval e X.env) :: starEach es X.env := by rfl) (hpl : (backTo pos (starEach es X.env)).any (·.1) = false := by rfl)
    (ht : eval (.Call (.Attribute (.Name c px) m apos) (e :: es) [] pos) X.env = (do
      let ov ← eval (.Name c px) X.env
      standAt apos.atName
      let (f, first) ← holding [ov] (getMethod ov m pl)
      callWith pos f first (backTo pos (starEach (e :: es) X.env)) (backToKw pos (keywordEach [] X.env))) := by rfl) :
    DE X ξ W (.Call (.Attribute (.Name c px) m apos) (e :: es) [] pos) (fCm c n dds F fa) :=
  PE.imp (pe_cmethS (pe_glob (v := .ref (cOf X.mg c)) hg hmg rfl hdb) r cm hF hr hb hd (fun σ => passAt tk σ) ha hst hpl ht) fun σ H Q ⟨w, env, S, res, eH, s, en, h, p⟩ => by
    subst eH
    refine ⟨rfl, seqR s en h p.px fun es S1 vs w1 e1 s1 en1 r1 h1 => ?_⟩
    by_cases y : es.length = n
    · rw [if_pos y] at h1
      exact sp_call (by rw [List.length_append, List.length_cons, r1.length, y, hN]) s1 ((RpAll.cons (.cls c) r1).append (hdd w1)) h1 (p.mono e1 s1)
    · rw [if_neg y] at h1; cases h1
@[simp] def fSm (n : Nat) (dds : List Dv) (F : DFn) (fa : FA) : FE := fun env => bnd (fa env) fun ds => if ds.length = n then F (ds ++ dds) else stuck
theorem d_smeth {pl : Sem Bool} {e : Expr} {es : List Expr} {px apos pos : Pos} {fa : FA} (hmg : X.mg c = some (.ref (cOf X.mg c))) (r : CRead X.K (cOf X.mg c) mc) (cm : SMet X.K (cOf X.mg c) mc m p0 g) (hF : FnOk X.prog X.w X.K X.mg X.base (L2.CX X.prog X.w) k g fd ps (spD X.K X.mg N F)) (hr : Room k X.A) (hb : Binds X.K fd ps ds) (hd : Vals dvs ds) (hdd : DfOk (gp X) dvs dds) (hN : N = n + dvs.length) (tk : Takes X W)
    (ha : DA X ξ W (e :: es) fa) (hg : Gl X c := by rfl) (hdb : (c == ("__debug__" : Str)) = false := by decide) (hst : starEach (e :: es) X.env = (false, eval e X.env) :: starEach es X.env := by rfl) (hpl : (backTo pos (starEach es X.env)).any (·.1) = false := by rfl)
    (ht : eval (.Call (.Attribute (.Name c px) m apos) (e :: es) [] pos) X.env = (do
      let ov ← eval (.Name c px) X.env
      standAt apos.atName
      let (f, first) ← holding [ov] (getMethod ov m pl)
      callWith pos f first (backTo pos (starEach (e :: es) X.env)) (backToKw pos (keywordEach [] X.env))) := by rfl) :
    DE X ξ W (.Call (.Attribute (.Name c px) m apos) (e :: es) [] pos) (fSm n dds F fa) :=
  PE.imp (pe_smethS (pe_glob (v := .ref (cOf X.mg c)) hg hmg rfl hdb) r cm hF hr hb hd (fun σ => passAt tk σ) ha hst hpl ht) fun σ H Q ⟨w, env, S, res, eH, s, en, h, p⟩ => by
    subst eH
    refine ⟨rfl, seqR s en h p.px fun es S1 vs w1 e1 s1 en1 r1 h1 => ?_⟩
    by_cases y : es.length = n
    · rw [if_pos y] at h1
      exact sp_call (by rw [List.length_append, r1.length, y, hN]) s1 (r1.append (hdd w1)) h1 (p.mono e1 s1)
    · rw [if_neg y] at h1; cases h1
/-! ### C(..) with default values -/
section
variable {CX : CXT} {sp : Sp} {E : L2.St → XK}
def tMkD (C : Addr) (sp : Sp) (dvs : List V) (E : L2.St → XK) (t : TA) : TE := fun σ H Q => t σ H fun vs H1 =>
  ∀ x dx, H1 x = none → H1 dx = none → dx ≠ x → sp (V.ref x :: (vs ++ dvs)) (upd (upd H1 dx (.own x)) x (.ins C dx [])) (fun v H2 => v = V.non ∧ Q (V.ref x) H2) (E σ)
theorem run_mkD {pins : List (Addr × Obj)} {σ : L2.St} {H : Hp} {s : Shared} {Q : VK} {us : List Value} {vs : List V} (M : Mk X.K C f) (F : FnOk X.prog X.w X.K X.mg X.base CX k f fd ps sp) (hr : Room (k + 1) X.A) (hb : Binds X.K fd ps ds) (hd : Vals dvs ds)
    (hx : PassesAt CX X σ (E σ)) (I : Inv X pins σ H s) (rv : Vals vs us)
    (h : ∀ x dx, H x = none → H dx = none → dx ≠ x → sp (V.ref x :: (vs ++ dvs)) (upd (upd H dx (.own x)) x (.ins C dx [])) (fun v H2 => v = V.non ∧ Q (V.ref x) H2) (E σ)) :
    wpAny (model X.prog X.w) X.A (call (Value.ref C) us) (EP X pins σ Q) X.xe s := by
  let z := s.heap.objs.size
  have wish := h (z + 1) z (I.hok.fresh (Nat.le_succ z)) (I.hok.fresh (Nat.le_refl z)) (Nat.ne_of_lt (Nat.lt_succ_self z))
  have J := Inv.made (C := C) I
  have rall : Vals (V.ref (z + 1) :: (vs ++ dvs)) (Value.ref (z + 1) :: (us ++ ds)) := .cons rfl (rv.append hd)
  have len : (Value.ref (z + 1) :: us ++ ds).length = ps.length := by
    show (Value.ref (z + 1) :: (us ++ ds)).length = _
    rw [← rall.length]
    exact F.len _ _ _ _ wish
  have binds := hb _ (Value.ref (z + 1) :: us) J.kIn len
  refine wpAny_call (make_map (f := f) I.kIn M.makes M.init (beq_iff_eq.mp M.fn) (codeAny_mono (F.run _ X.stack _ _ ⟨Value.ref (z + 1) :: us, []⟩ (Value.ref (z + 1) :: (us ++ ds)) _ _ (E σ) (hr.make C us []) (J.env0.make C us []) binds rall wish) fun r s' out => ?_))
  cases r with
  | error e => exact hx pins _ _ e s' J out
  | ok fl =>
    cases fl with
    | ret u =>
      obtain ⟨v, H', I3, ru, e, q⟩ := J.after out
      subst e
      exact ⟨ru, V.ref (z + 1), H', I3, rfl, q⟩
    | next => cases out
    | brk => cases out
    | cont => cases out
/-- the callee by any expression: a class's name, a slot that holds the class -/
theorem pe_mkD {fe e : Expr} {es : List Expr} {pos : Pos} {t : TA} {tf : TE} (hf : PE X fe tf) (M : Mk X.K C f) (F : FnOk X.prog X.w X.K X.mg X.base CX k f fd ps sp) (hr : Room (k + 1) X.A) (hb : Binds X.K fd ps ds) (hd : Vals dvs ds) (hx : ∀ σ, PassesAt CX X σ (E σ))
    (ha : PA X (e :: es) t) (ht : eval (.Call fe (e :: es) [] pos) X.env = (do callWith pos (← eval fe X.env) [] (backTo pos (starEach (e :: es) X.env)) (backToKw pos (keywordEach [] X.env))) := by rfl)
    (he : starEach (e :: es) X.env = (false, eval e X.env) :: starEach es X.env := by rfl) (hpl : (backTo pos (starEach es X.env)).any (·.1) = false := by rfl) :
    PE X (.Call fe (e :: es) [] pos) (fun σ H Q => tf σ H fun y H1 => y = .ref C ∧ tMkD C sp dvs E t σ H1 Q) := ⟨fun pins s σ H Q I h => by
  refine Call_ (thn (hf.run pins s σ H _ I h) fun u s1 ⟨y, H1, I1, ry, ey, q⟩ => ?_) ht
  subst ey
  obtain rfl : u = Value.ref C := ry
  exact PySem.W.callWith_K (h₀ := X.base) I.ok.mod.kin M.kp (thn (ha.run pos pins s1 σ H1 _ I1 q) fun us s2 ⟨vs, H2, I2, rv, q2⟩ => ⟨I2.kIn, run_mkD M F hr hb hd (hx σ) I2 rv q2⟩) he hpl⟩
theorem pe_mkKL {fe e : Expr} {es : List Expr} {kws : List Keyword} {pos : Pos} {t tk : TA} {tf : TE} {gg : List Value → List Value → List Value} {gV : List V → List V → List V} (hf : PE X fe tf) (M : Mk X.K C f) (F : FnOk X.prog X.w X.K X.mg X.base CX k f fd ps sp) (hr : Room (k + 1) X.A) (hb : KBn X.K fd ps (n + 1) ks gg gV) (hx : ∀ σ, PassesAt CX X σ (E σ))
    (ha : PA X (e :: es) t) (hkw : PK X kws tk) (hall : (backToKw pos (keywordEach kws X.env)).all (·.1.isSome) = true := by rfl) (hks : (backToKw pos (keywordEach kws X.env)).filterMap (·.1) = ks := by rfl)
    (ht : eval (.Call fe (e :: es) kws pos) X.env = (do callWith pos (← eval fe X.env) [] (backTo pos (starEach (e :: es) X.env)) (backToKw pos (keywordEach kws X.env))) := by rfl)
    (he : starEach (e :: es) X.env = (false, eval e X.env) :: starEach es X.env := by rfl) (hpl : ((backTo pos (starEach (e :: es) X.env)).any (·.1) || (backToKw pos (keywordEach kws X.env)).any (·.1.isNone)) = false := by rfl) :
    PE X (.Call fe (e :: es) kws pos) (fun σ H Q => tf σ H fun y H1 => y = .ref C ∧ tMkKS C n ks.length sp gV E t tk σ H1 Q) := ⟨fun pins s σ H Q I h => by
  rw [ht]
  refine wpAny_bind (thn (hf.run pins s σ H _ I h) fun u s0 ⟨y, H0, I0, ry, ey, q0⟩ => ?_)
  subst ey
  obtain rfl : u = Value.ref C := ry
  refine PySem.W.callWith_KW (h₀ := X.base) I.ok.mod.kin M.kp hall (thn (ha.run pos pins s0 σ H0 _ I0 q0) fun us s1 ⟨vs, H1, I1, rv, q⟩ => ?_) hpl he
  refine thn (hkw.run pos pins s1 σ H1 _ I1 q) fun ws s2 ⟨zs, H2, I2, rz, l1, l2, q2⟩ => ⟨I2.kIn, ?_⟩
  rw [hks]
  exact run_mkKS M F hr hb (hx σ) I2 rv rz l1 l2 q2⟩
end
/-- what a new instance leads to -/
def mkR (F : DFn) (c : Str) (g : Dv → List Dv) (S : Store) : Option (Rs Dv) := match F (g (.obj S.length)) (S ++ [.ins c []]) with
  | some (.ok .non S') => some (.ok (.obj S.length) S')
  | some (.exc e fs S') => some (.exc e fs S')
  | _ => none
theorem mk_sp {w : Wd} {σ : L2.St} {S : Store} {vs : V → List V} {es : Dv → List Dv} {res : Rs Dv} {Q : VK} (s : SOk (gp X) w S) (hl : ∀ x, (vs x).length = N) (hv : ∀ w' x d, Ext w w' → Rp (gp X) w' x d → RpAll (gp X) w' (vs x) (es d)) (h : mkR F c es S = some res) (p : PR (gp X) W (Rp (gp X)) w σ res Q) :
    ∀ x dx, w.H x = none → w.H dx = none → dx ≠ x → spD X.K X.mg N F (vs (V.ref x)) (upd (upd w.H dx (.own x)) x (.ins (cOf X.mg c) dx [])) (fun v H2 => v = V.non ∧ Q (V.ref x) H2) (WE W σ) := fun x dx hx hdx hne => by
  have eA : Ext w (w.put dx (.own x)) := .put hdx
  have sA : SOk (gp X) (w.put dx (.own x)) S := s.put hdx
  have hx2 : (w.put dx (.own x)).H x = none := by
    show upd w.H dx _ x = none
    rw [upd_ne (fun q => hne q.symm)]
    exact hx
  let w2 : Wd := (w.put dx (.own x)).add x (.ins (cOf X.mg c) dx [])
  have eB : Ext (w.put dx (.own x)) w2 := .add hx2
  have sB : SOk (gp X) w2 (S ++ [.ins c []]) := sA.add hx2 ⟨dx, [], upd_same, rfl, .nil⟩
  have ro : Rp (gp X) w2 (V.ref x) (.obj S.length) := Rp.add_obj sA
  have e12 := eA.thru eB sA
  have pp := p.mono e12 sB
  unfold mkR at h
  cases hF2 : F (es (.obj S.length)) (S ++ [.ins c []]) with
  | none => rw [hF2] at h; cases h
  | some r =>
    rw [hF2] at h
    refine ⟨hl _, w2, S ++ [.ins c []], es (.obj S.length), r, rfl, sB, hv w2 _ _ e12 ro, hF2, ?_⟩
    cases r with
    | ok d S' =>
      cases d <;> first | (cases h; done) | skip
      cases h
      intro v w' e' s' rv
      cases rv
      cases ro with
      | obj ha2 => exact ⟨rfl, pp.ok_ e' s' (.obj (e'.as_of ha2))⟩
    | exc c2 fs2 S' =>
      cases h
      exact fun dd fs' w' e s' hd hm hn hr => pp dd fs' w' e s' hd hm hn hr
/-- is it the class c? -/
def isCls (c : Str) : Dv → Bool
  | .cls c' => decide (c' = c)
  | _ => false
@[simp] def fMk (c : Str) (n : Nat) (dds : List Dv) (F : DFn) (fa : FA) : FE := fun env => bnd (fa env) fun ds S => if ds.length = n then mkR F c (fun o => o :: (ds ++ dds)) S else none
theorem mkD_body {fa : FA} (hdd : DfOk (gp X) dvs dds) (hN : N = n + 1 + dvs.length) : ∀ σ H Q, tD (gp X) ξ W (fMk c n dds F fa) σ H Q → tMkD (cOf X.mg c) (spD X.K X.mg N F) dvs (WE W) (tDA (gp X) ξ W fa) σ H Q := fun σ H Q ⟨w, env, S, res, eH, s, en, h, p⟩ => by
  subst eH
  refine seqR s en h p.px fun es S1 vs w1 e1 s1 en1 r1 h1 => ?_
  by_cases y : es.length = n
  · rw [if_pos y] at h1
    exact mk_sp (vs := fun x => x :: (vs ++ dvs)) (es := fun o => o :: (es ++ dds)) s1 (fun x => by rw [List.length_cons, List.length_append, r1.length, y, hN]; omega) (fun w' x d e r => .cons r ((r1.mono e).append (hdd w'))) h1 (p.mono e1 s1)
  · rw [if_neg y] at h1; cases h1
theorem d_mk {e : Expr} {es : List Expr} {px pos : Pos} {fa : FA} (hmg : X.mg c = some (.ref (cOf X.mg c))) (M : Mk X.K (cOf X.mg c) f) (hF : FnOk X.prog X.w X.K X.mg X.base (L2.CX X.prog X.w) k f fd ps (spD X.K X.mg N F)) (hr : Room (k + 1) X.A) (hb : Binds X.K fd ps ds) (hd : Vals dvs ds) (hdd : DfOk (gp X) dvs dds) (hN : N = n + 1 + dvs.length) (tk : Takes X W)
    (ha : DA X ξ W (e :: es) fa) (hg : Gl X c := by rfl) (hdb : (c == ("__debug__" : Str)) = false := by decide) (ht : eval (.Call (.Name c px) (e :: es) [] pos) X.env = (do callWith pos (← eval (.Name c px) X.env) [] (backTo pos (starEach (e :: es) X.env)) (backToKw pos (keywordEach [] X.env))) := by rfl)
    (he : starEach (e :: es) X.env = (false, eval e X.env) :: starEach es X.env := by rfl) (hpl : (backTo pos (starEach es X.env)).any (·.1) = false := by rfl) :
    DE X ξ W (.Call (.Name c px) (e :: es) [] pos) (fMk c n dds F fa) :=
  PE.imp (pe_mkD (pe_glob (v := .ref (cOf X.mg c)) hg hmg rfl hdb) M hF hr hb hd (fun σ => passAt tk σ) ha ht he hpl) fun σ H Q h => ⟨rfl, mkD_body hdd hN σ H Q h⟩
/-- cls(..) -/
@[simp] def fMkL (i : Nat) (c : Str) (n : Nat) (dds : List Dv) (F : DFn) (fa : FA) : FE := fun env => bnd (fVar i env) fun x => if isCls c x = true then fMk c n dds F fa env else stuck
theorem isCls_ok {w : Wd} {v : V} {d : Dv} (r : Rp G w v d) (h : isCls c d = true) : v = .ref (G.cA c) := by
  cases r <;> first | (cases h; done) | skip
  rename_i c'
  have : c' = c := of_decide_eq_true h
  subst this
  rfl
theorem d_mkL {i : Nat} {e : Expr} {es : List Expr} {fe : Expr} {pos : Pos} {fa : FA} (hv : DE X ξ W fe (fVar i)) (M : Mk X.K (cOf X.mg c) f) (hF : FnOk X.prog X.w X.K X.mg X.base (L2.CX X.prog X.w) k f fd ps (spD X.K X.mg N F)) (hr : Room (k + 1) X.A) (hb : Binds X.K fd ps ds) (hd : Vals dvs ds) (hdd : DfOk (gp X) dvs dds) (hN : N = n + 1 + dvs.length) (tk : Takes X W)
    (ha : DA X ξ W (e :: es) fa) (ht : eval (.Call fe (e :: es) [] pos) X.env = (do callWith pos (← eval fe X.env) [] (backTo pos (starEach (e :: es) X.env)) (backToKw pos (keywordEach [] X.env))) := by rfl)
    (he : starEach (e :: es) X.env = (false, eval e X.env) :: starEach es X.env := by rfl) (hpl : (backTo pos (starEach es X.env)).any (·.1) = false := by rfl) :
    DE X ξ W (.Call fe (e :: es) [] pos) (fMkL i c n dds F fa) :=
  PE.imp (pe_mkD hv M hF hr hb hd (fun σ => passAt tk σ) ha ht he hpl) fun σ H Q ⟨w, env, S, res, eH, s, en, h, p⟩ => by
    subst eH
    refine seqR s en h p.px fun x S1 v w1 e1 s1 en1 r1 h1 => ?_
    by_cases z : isCls c x = true
    · rw [if_pos z] at h1
      exact ⟨isCls_ok r1 z, mkD_body hdd hN σ w1.H Q ⟨w1, env, S1, res, rfl, s1, en1, h1, p.mono e1 s1⟩⟩
    · rw [if_neg z] at h1; cases h1
@[simp] def fMkK (c : Str) (n m : Nat) (gD : List Dv → List Dv → List Dv) (F : DFn) (fa fk : FA) : FE := fun env => bnd (fa env) fun ds => bnd (fk env) fun es S => if ds.length = n ∧ es.length = m then mkR F c (fun o => gD (o :: ds) es) S else none
theorem mkK_body {gV : List V → List V → List V} {gD : List Dv → List Dv → List Dv} {fa fk : FA} {mm : Nat} (hgl : ∀ vs zs : List V, vs.length = n + 1 → zs.length = mm → (gV vs zs).length = N) (hgr : ∀ (w : Wd) (vs zs : List V) (ds es : List Dv), RpAll (gp X) w vs ds → RpAll (gp X) w zs es → RpAll (gp X) w (gV vs zs) (gD ds es)) :
    ∀ σ H Q, tD (gp X) ξ W (fMkK c n mm gD F fa fk) σ H Q → tMkKS (cOf X.mg c) n mm (spD X.K X.mg N F) gV (WE W) (tDA (gp X) ξ W fa) (tDA (gp X) ξ W fk) σ H Q := fun σ H Q ⟨w, env, S, res, eH, s, en, h, p⟩ => by
  subst eH
  refine seqR s en h p.px fun ds S0 vs w0 e0 s0 en0 r0 h0 => seqR s0 en0 h0 (p.px.mono e0 s0) fun es S1 zs w1 e1 s1 en1 rz h1 => ?_
  by_cases z : ds.length = n ∧ es.length = mm
  · rw [if_pos z] at h1
    have rv := r0.mono e1
    refine ⟨by rw [rv.length]; exact z.1, by rw [rz.length]; exact z.2, ?_⟩
    exact mk_sp (vs := fun x => gV (x :: vs) zs) (es := fun o => gD (o :: ds) es) s1 (fun x => hgl _ _ (by rw [List.length_cons, rv.length, z.1]) (by rw [rz.length, z.2])) (fun w' x d e r => hgr w' _ _ _ _ (.cons r (rv.mono e)) (rz.mono e)) h1 (p.mono (e0.thru e1 s0) s1)
  · rw [if_neg z] at h1; cases h1
section
variable {gg : List Value → List Value → List Value} {gV : List V → List V → List V} {gD : List Dv → List Dv → List Dv}
theorem d_mkK {e : Expr} {es : List Expr} {kws : List Keyword} {px pos : Pos} {fa fk : FA} (hmg : X.mg c = some (.ref (cOf X.mg c))) (M : Mk X.K (cOf X.mg c) f) (hF : FnOk X.prog X.w X.K X.mg X.base (L2.CX X.prog X.w) k f fd ps (spD X.K X.mg N F)) (hr : Room (k + 1) X.A) (hb : KBn X.K fd ps (n + 1) ks gg gV) (tk : Takes X W)
    (hgl : ∀ vs zs : List V, vs.length = n + 1 → zs.length = ks.length → (gV vs zs).length = N) (hgr : ∀ (w : Wd) (vs zs : List V) (ds es : List Dv), RpAll (gp X) w vs ds → RpAll (gp X) w zs es → RpAll (gp X) w (gV vs zs) (gD ds es))
    (ha : DA X ξ W (e :: es) fa) (hkw : DK X ξ W kws fk) (hg : Gl X c := by rfl) (hdb : (c == ("__debug__" : Str)) = false := by decide) (hall : (backToKw pos (keywordEach kws X.env)).all (·.1.isSome) = true := by rfl) (hks : (backToKw pos (keywordEach kws X.env)).filterMap (·.1) = ks := by rfl)
    (ht : eval (.Call (.Name c px) (e :: es) kws pos) X.env = (do callWith pos (← eval (.Name c px) X.env) [] (backTo pos (starEach (e :: es) X.env)) (backToKw pos (keywordEach kws X.env))) := by rfl)
    (he : starEach (e :: es) X.env = (false, eval e X.env) :: starEach es X.env := by rfl) (hpl : ((backTo pos (starEach (e :: es) X.env)).any (·.1) || (backToKw pos (keywordEach kws X.env)).any (·.1.isNone)) = false := by rfl) :
    DE X ξ W (.Call (.Name c px) (e :: es) kws pos) (fMkK c n ks.length gD F fa fk) :=
  PE.imp (pe_mkKL (pe_glob (v := .ref (cOf X.mg c)) hg hmg rfl hdb) M hF hr hb (fun σ => passAt tk σ) ha hkw hall hks ht he hpl) fun σ H Q h => ⟨rfl, mkK_body hgl hgr σ H Q h⟩
@[simp] def fMkKL (i : Nat) (c : Str) (n m : Nat) (gD : List Dv → List Dv → List Dv) (F : DFn) (fa fk : FA) : FE := fun env => bnd (fVar i env) fun x => if isCls c x = true then fMkK c n m gD F fa fk env else stuck
theorem d_mkKL {i : Nat} {fe e : Expr} {es : List Expr} {kws : List Keyword} {pos : Pos} {fa fk : FA} (hv : DE X ξ W fe (fVar i)) (M : Mk X.K (cOf X.mg c) f) (hF : FnOk X.prog X.w X.K X.mg X.base (L2.CX X.prog X.w) k f fd ps (spD X.K X.mg N F)) (hr : Room (k + 1) X.A) (hb : KBn X.K fd ps (n + 1) ks gg gV) (tk : Takes X W)
    (hgl : ∀ vs zs : List V, vs.length = n + 1 → zs.length = ks.length → (gV vs zs).length = N) (hgr : ∀ (w : Wd) (vs zs : List V) (ds es : List Dv), RpAll (gp X) w vs ds → RpAll (gp X) w zs es → RpAll (gp X) w (gV vs zs) (gD ds es))
    (ha : DA X ξ W (e :: es) fa) (hkw : DK X ξ W kws fk) (hall : (backToKw pos (keywordEach kws X.env)).all (·.1.isSome) = true := by rfl) (hks : (backToKw pos (keywordEach kws X.env)).filterMap (·.1) = ks := by rfl)
    (ht : eval (.Call fe (e :: es) kws pos) X.env = (do callWith pos (← eval fe X.env) [] (backTo pos (starEach (e :: es) X.env)) (backToKw pos (keywordEach kws X.env))) := by rfl)
    (he : starEach (e :: es) X.env = (false, eval e X.env) :: starEach es X.env := by rfl) (hpl : ((backTo pos (starEach (e :: es) X.env)).any (·.1) || (backToKw pos (keywordEach kws X.env)).any (·.1.isNone)) = false := by rfl) :
    DE X ξ W (.Call fe (e :: es) kws pos) (fMkKL i c n ks.length gD F fa fk) :=
  PE.imp (pe_mkKL hv M hF hr hb (fun σ => passAt tk σ) ha hkw hall hks ht he hpl) fun σ H Q ⟨w, env, S, res, eH, s, en, h, p⟩ => by
    subst eH
    refine seqR s en h p.px fun x S1 v w1 e1 s1 en1 r1 h1 => ?_
    by_cases z : isCls c x = true
    · rw [if_pos z] at h1
      exact ⟨isCls_ok r1 z, mkK_body hgl hgr σ w1.H Q ⟨w1, env, S1, res, rfl, s1, en1, h1, p.mono e1 s1⟩⟩
    · rw [if_neg z] at h1; cases h1
end
end
end FC

set_option Elab.async false
set_option linter.all false
set_option maxRecDepth 100000
set_option maxHeartbeats 4000000
namespace FC
open PySem PySem.Spec L2 PyProof.Rows
open ClX (CRead CVal CMet)
section
variable {X : Cx} {ξ : Iv} {W : WX} {G : Gp} {k n N : Nat} {f g C q : Addr} {fd : FuncData} {ps ks : List Str} {dvs : List V} {dds : List Dv} {ds : List Value} {mc : Value} {m c : Str} {F : DFn} {p0 : Addr}
/-! ### properties -/
@[simp] def fProp (c : Str) (F : DFn) (fo : FE) : FE := fun env => bnd (fo env) fun o S => match insOf o S with
  | some (c', _) => if c' = c then (match F [o] S with
    | some (.ok d S') => some (.ok d S')
    | _ => none) else none
  | none => none
theorem d_prop {f : Str} {e : Expr} {fo : FE} {pos : Pos} {pa : Addr} (ho : DE X ξ W e fo) (hC : Cls X.K (cOf X.mg c)) (hp : PropOf X.K (cOf X.mg c) f pa g) (hF : FnOk X.prog X.w X.K X.mg X.base (L2.CX X.prog X.w) k g fd ps (spD X.K X.mg 1 F)) (hr : Room (k + 1) X.A) (hb : Binds X.K fd ps [])
    (hab : attributeBase e f X.env (eval e X.env) = eval e X.env := by rfl) : DE X ξ W (.Attribute e f pos) (fProp c F fo) :=
  PE.imp (pe_prop (E := fun _ _ _ => False) ho hC hp hF hr hb .nil (fun _ _ _ _ _ _ _ h => (cx_no h).elim) hab) fun σ H Q ⟨w, env, S, res, eH, s, en, h, p⟩ => by
    subst eH
    refine seqR s en h p.px fun o S1 v w1 e1 s1 en1 r1 h1 => ?_
    cases hi : insOf o S1 with
    | none => rw [hi] at h1; cases h1
    | some q =>
      obtain ⟨c', fs⟩ := q
      rw [hi] at h1
      by_cases z : c' = c
      · subst z
        simp only [if_pos] at h1
        obtain ⟨a, dx, fs', rfl, hH, hn, hr2⟩ := insOf_ok s1 r1 hi
        cases hF2 : F [o] S1 with
        | none => rw [hF2] at h1; cases h1
        | some r =>
          rw [hF2] at h1
          cases r with
          | exc _ _ _ => cases h1
          | ok d S' =>
            cases h1
            exact ⟨a, dx, fs', rfl, hH, rfl, w1, S1, [o], _, rfl, s1, .cons r1 .nil, hF2, fun u w' e' s' ru => p u w' (e1.trans e') s' ru⟩
      · simp only [if_neg z] at h1; cases h1
/-! ### == by the class's own -/
def rOwn (K : PySem.W.Frag) (mg : Str → Option Value) (C : Addr) (F : DFn) : R2 := fun x y H Q => ∃ a b dx dy fs gs, x = .ref a ∧ y = .ref b ∧ H a = some (.ins C dx fs) ∧ H b = some (.ins C dy gs) ∧
  spD K mg 2 F [.ref a, .ref b] H (fun v H' => ∃ t, v = .bl t ∧ Q v H') (fun _ _ _ => False)
theorem op_own (hF : FnOk X.prog X.w X.K X.mg X.base (L2.CX X.prog X.w) n f fd ps (spD X.K X.mg 2 F)) (hr : Room n X.A) (hs : PySem.W.findIn X.K (.ref C) "__eq__" = some (some (.ref f))) (hf : PySem.W.isFn X.K (.ref f) = true) (hb : Binds X.K fd ps []) : OpR X (compareOp .Eq) (rOwn X.K X.mg C F) := by
  intro pins s σ H x y v u Q I rx ry h
  obtain ⟨a, b, dx, dy, fs, gs, rfl, rfl, ha, hb', hsp⟩ := h
  cases rx
  cases ry
  show wpAny (model X.prog X.w) X.A (richCompare .Eq (.ref a) (.ref b)) (EP X pins σ Q) X.xe s
  obtain ⟨mA, J, _⟩ := ins_get I.hok ha
  obtain ⟨mB, J', _⟩ := ins_get I.hok hb'
  obtain ⟨od, J, _⟩ := J.look
  obtain ⟨od', J', _⟩ := J'.look
  obtain ⟨m, hFr⟩ := I.fr
  refine PySem.W.cmp_K (op := .Eq) (tb := .ref C) hr.units0 hFr I.ok.mod.kin J J'.type (by simp [PySem.W.notFirst]) hs hf ?_
  have hl := hF.len _ _ _ _ hsp
  have r2 : Vals [V.ref a, V.ref b] [Value.ref a, Value.ref b] := .cons rfl (.cons rfl .nil)
  refine wpAny_call (codeAny_mono (hF.run X.A X.stack s H ⟨[.ref a, .ref b], []⟩ [.ref a, .ref b] [.ref a, .ref b] _ (fun _ _ _ => False) hr I.env0 (by
    have := hb s [.ref a, .ref b] I.kIn (by simpa using hl)
    simpa using this) r2 hsp) fun r s' hq => ?_)
  cases r with
  | error e => exact (cx_no hq).elim
  | ok fl =>
    cases fl with
    | ret w =>
      obtain ⟨z, H', I', rz, t, ez, q⟩ := I.after hq
      subst ez
      cases rz
      exact ⟨.bl t, H', I', rfl, q⟩
    | next => exact False.elim hq
    | brk => exact False.elim hq
    | cont => exact False.elim hq
def oOwn (c : Str) (F : DFn) : DOp := fun x y S => match insOf x S, insOf y S with
  | some (c1, _), some (c2, _) => if c1 = c ∧ c2 = c then (match F [x, y] S with
    | some (.ok (.bl t) S') => some (.ok (.bl t) S')
    | _ => none) else none
  | _, _ => none
theorem od_own : OpD (gp X) (rOwn X.K X.mg (cOf X.mg c) F) (oOwn c F) := by
  intro W w σ S x y dx dy res Q s rx ry h p
  unfold oOwn at h
  split at h
  · rename_i c1 f1 c2 f2 e1 e2
    by_cases z : c1 = c ∧ c2 = c
    · rw [if_pos z] at h
      obtain ⟨z1, z2⟩ := z
      subst z1
      subst z2
      obtain ⟨a, dx1, fs', rfl, hH, _, _⟩ := insOf_ok s rx e1
      obtain ⟨b, dx2, gs', rfl, hH2, _, _⟩ := insOf_ok s ry e2
      split at h
      · rename_i t S' hF2
        cases h
        refine ⟨a, b, _, _, _, _, rfl, rfl, hH, hH2, rfl, w, S, [dx, dy], _, rfl, s, .cons rx (.cons ry .nil), hF2, fun u w' e' s' ru => ?_⟩
        cases ru
        exact ⟨t, rfl, p.ok_ e' s' (.bl t)⟩
      · cases h
    · rw [if_neg z] at h; cases h
  · cases h
/-! ### isinstance of instances -/
structure InsC' (K : PySem.W.Frag) (C : Addr) : Prop where
  cl : Cls K C
  ha : PySem.W.findIn K (.ref C) "__class__" = some (some (.builtin "object.__class__"))
  hn : PySem.W.specialIn K (.builtin "object.__class__") "__get__" = some (some (.builtin "getset_descriptor.__get__"))
  ht : PySem.W.takesIn K (.builtin "object.__class__") = some true
  hm : PySem.W.mroIn K C (.type "object") = some true
/-- isinstance(e, D), e an instance -/
@[simp] def fIsc (l : List (Str × Bool)) (fa : FE) : FE := fun env => bnd (fa env) fun x S => match insOf x S with
  | some (c', _) => (match l.lookup c' with
    | some b => some (.ok (.bl b) S)
    | none => none)
  | none => none
theorem d_isc {l : List (Str × Bool)} {e : Expr} {fa : FE} {cx : Str} {Cx' : Addr} {p p2 pos : Pos} (hl : ∀ c' b, l.lookup c' = some b → InsC' X.K (cOf X.mg c') ∧ PySem.W.kitOne X.K (.ref (cOf X.mg c')) (.ref Cx') = some b) (ha : DE X ξ W e fa) (hm : X.mg "isinstance" = none) (hv : bootBuiltins "isinstance" = some (.builtin "isinstance")) (hmb : X.mg cx = some (.ref Cx'))
    (hg : Gl X "isinstance" := by rfl) (hgb : Gl X cx := by rfl) (hdb : (cx == ("__debug__" : Str)) = false := by decide)
    (he : starEach [e, .Name cx p2] X.env = (false, eval e X.env) :: starEach [.Name cx p2] X.env := by rfl) (he2 : starEach [.Name cx p2] X.env = (false, eval (.Name cx p2) X.env) :: starEach [] X.env := by rfl) (hpl : (backTo pos (starEach [.Name cx p2] X.env)).any (·.1) = false := by rfl) :
    DE X ξ W (.Call (.Name "isinstance" p) [e, .Name cx p2] [] pos) (fIsc l fa) :=
  PE.imp (pe_callB call_isi hg hm hv (pa_cons ha (pa_cons (pe_glob (v := .ref Cx') hgb hmb rfl hdb) pa_nil he2) he) (by decide) (by decide) he hpl) fun σ H Q ⟨w, env, S, r, eH, s, en, h, q⟩ => by
    subst eH
    refine seqR s en h q.px fun x S1 v w1 e1 s1 en1 r1 h1 => ?_
    cases hi : insOf x S1 with
    | none => rw [hi] at h1; cases h1
    | some z =>
      obtain ⟨c', fs⟩ := z
      rw [hi] at h1
      cases hb : l.lookup c' with
      | none => simp only [hb] at h1; cases h1
      | some b =>
        simp only [hb] at h1
        cases h1
        obtain ⟨ic, hk⟩ := hl c' b hb
        obtain ⟨a, dx, fs', rfl, hH, hn, hr⟩ := insOf_ok s1 r1 hi
        exact ⟨.ref a, .ref Cx', .ref (cOf X.mg c'), .ref Cx', b, rfl, .own Cx', .base (.ins hH ic.cl ic.ha ic.hn ic.ht ic.hm), hk, q.ok_ e1 s1 (.bl b)⟩
/-! ### an instance called -/
section
variable {CX : CXT} {sp : Sp} {E : L2.St → XK}
def tCallOS (C : Addr) (sp : Sp) (dvs : List V) (E : L2.St → XK) (tf : TE) (t : TA) : TE := fun σ H Q => tf σ H fun y H1 => ∃ a, y = V.ref a ∧ t σ H1 fun vs H2 => (∃ dx fs, H2 a = some (.ins C dx fs)) ∧ sp (V.ref a :: vs ++ dvs) H2 Q (E σ)
theorem pe_callOS {fe e : Expr} {es : List Expr} {pos : Pos} {tf : TE} {t : TA} (hf : PE X fe tf) (c : StX.CallO X.K C g) (F : FnOk X.prog X.w X.K X.mg X.base CX k g fd ps sp) (hr : Room k X.A) (hb : Binds X.K fd ps ds) (hd : Vals dvs ds) (hx : ∀ σ, PassesAt CX X σ (E σ)) (ha : PA X (e :: es) t)
    (ht : eval (.Call fe (e :: es) [] pos) X.env = (do callWith pos (← eval fe X.env) [] (backTo pos (starEach (e :: es) X.env)) (backToKw pos (keywordEach [] X.env))) := by rfl)
    (he : starEach (e :: es) X.env = (false, eval e X.env) :: starEach es X.env := by rfl) (hpl : (backTo pos (starEach es X.env)).any (·.1) = false := by rfl) : PE X (.Call fe (e :: es) [] pos) (tCallOS C sp dvs E tf t) := by
  refine ⟨fun pins s σ H Q I h => ?_⟩
  refine Call_ (thn (hf.run pins s σ H _ I h) fun u s1 ⟨y, H1, I1, ry, a, ey, q⟩ => ?_) ht
  subst ey
  obtain rfl : u = Value.ref a := ry
  refine StX.callO_with (thn (ha.run pos pins s1 σ H1 _ I1 q) fun us s2 ⟨vs, H2, I2, r, hi, q2⟩ => ?_) he hpl
  obtain ⟨ox, od, J, hdp⟩ := StX.insC_at (C := C) I2 (.inr hi)
  exact ⟨⟨C, ox, od, J, hdp⟩, wpAny_call (PySem.W.kco_code I2.kIn J hdp c.at_ c.fn c.fi (run_fnC (us := .ref a :: us) (vs := .ref a :: vs) F hr hb hd (hx σ) I2 (.cons rfl r) q2))⟩
end
@[simp] def fCo (c : Str) (n : Nat) (F : DFn) (fo : FE) (fa : FA) : FE := fun env => bnd (fo env) fun o S => match insOf o S with
  | some _ => bnd (fa env) (fun ds S => match insOf o S with
    | some (c', _) => if c' = c ∧ ds.length = n then F (o :: ds) S else none
    | none => none) S
  | none => none
theorem d_callO {fe e : Expr} {es : List Expr} {pos : Pos} {fo : FE} {fa : FA} (co : StX.CallO X.K (cOf X.mg c) g) (hF : FnOk X.prog X.w X.K X.mg X.base (L2.CX X.prog X.w) k g fd ps (spD X.K X.mg (n + 1) F)) (hr : Room k X.A) (hb : Binds X.K fd ps []) (tk : Takes X W) (ho : DE X ξ W fe fo) (ha : DA X ξ W (e :: es) fa)
    (ht : eval (.Call fe (e :: es) [] pos) X.env = (do callWith pos (← eval fe X.env) [] (backTo pos (starEach (e :: es) X.env)) (backToKw pos (keywordEach [] X.env))) := by rfl)
    (he : starEach (e :: es) X.env = (false, eval e X.env) :: starEach es X.env := by rfl) (hpl : (backTo pos (starEach es X.env)).any (·.1) = false := by rfl) : DE X ξ W (.Call fe (e :: es) [] pos) (fCo c n F fo fa) :=
  PE.imp (pe_callOS ho co hF hr hb .nil (fun σ => passAt tk σ) ha ht he hpl) fun σ H Q ⟨w, env, S, res, eH, s, en, h, p⟩ => by
    subst eH
    refine seqR s en h p.px fun o S1 v w1 e1 s1 en1 r1 h1 => ?_
    cases hi : insOf o S1 with
    | none => rw [hi] at h1; cases h1
    | some z =>
      obtain ⟨c', fs⟩ := z
      rw [hi] at h1
      obtain ⟨a, dx, fs', rfl, hH, hn, hr1⟩ := insOf_ok s1 r1 hi
      refine ⟨a, rfl, seqR s1 en1 h1 (p.px.mono e1 s1) fun ds S2 vs w2 e2 s2 en2 r2 h2 => ?_⟩
      cases hi2 : insOf o S2 with
      | none => rw [hi2] at h2; cases h2
      | some z2 =>
        obtain ⟨c2, fs2⟩ := z2
        rw [hi2] at h2
        by_cases y : c2 = c ∧ ds.length = n
        · simp only [if_pos y] at h2
          obtain ⟨y1, y2⟩ := y
          subst y1
          obtain ⟨a2, dx2, fs2', ea, hH2, _, _⟩ := insOf_ok s2 (r1.mono e2) hi2
          cases ea
          refine ⟨⟨dx2, fs2', hH2⟩, ?_⟩
          rw [List.append_nil]
          exact sp_call (by rw [List.length_cons, r2.length, y2]) s2 (.cons (r1.mono e2) r2) h2 (p.mono (e1.trans e2) s2)
        · simp only [if_neg y] at h2; cases h2
end
end FC

set_option Elab.async false
set_option linter.all false
set_option maxRecDepth 100000
namespace FC
open PySem PySem.Spec L2
/-! ### a def whose answer is a new object that is changed later -/
theorem fzd_gen {G : Gp} {w' w1 : Wd} {S' S2 : Store} {n : Nat} (s' : SOk G w' S') (dr : Dn n w' w1) (hS : ∀ (k : Nat) (a : Addr) (d : Dv), n ≤ k → w'.as[k]? = some a → S2[k]? = some d → d = .non ∨ (S'[k]? = some d ∧ ¬ w1.M a)) : ∀ (f : Nat) {v : V} {d d' : Dv}, Rp G w' v d → fzd n S2 f d = some d' → Rp G w1 v d'
  | 0, v, d, d', r, hd => by
    unfold fzd at hd
    by_cases z : okO n d = true
    · rw [if_pos z] at hd; cases hd
      exact r.dn dr z
    · rw [if_neg z] at hd; cases hd
  | f + 1, v, d, d', r, hd => by
    unfold fzd at hd
    by_cases z : okO n d = true
    · rw [if_pos z] at hd; cases hd
      exact r.dn dr z
    · rw [if_neg z] at hd
      have ih := fun {v : V} {d d' : Dv} => fzd_gen s' dr hS f (v := v) (d := d) (d' := d')
      cases r with
      | non => cases hd
      | bl _ => cases hd
      | int _ => cases hd
      | str _ => cases hd
      | cls _ => cases hd
      | dic _ _ _ _ => cases hd
      | dit _ _ _ _ => cases hd
      | tup hx rx =>
        dsimp only at hd
        split at hd
        · rename_i ys hy
          cases hd
          exact .tup (by
            rcases hx with hx | hx
            · exact .inl ⟨by rw [dr.H]; exact hx.1, fun z => hx.2 (dr.M _ z)⟩
            · exact .inr hx) (fzs_ok ih rx hy)
        · cases hd
      | lst hx rx =>
        dsimp only at hd
        split at hd
        · rename_i ys hy
          cases hd
          exact .lst (by
            rcases hx with hx | hx
            · exact .inl ⟨by rw [dr.H]; exact hx.1, fun z => hx.2 (dr.M _ z)⟩
            · exact .inr hx) (fzs_ok ih rx hy)
        · cases hd
      | ins h1 m q rx =>
        dsimp only at hd
        split at hd
        · rename_i ys hy
          cases hd
          have hl := fzs_some hy
          obtain ⟨z1, z2⟩ := zip_fst (xs := List.map Prod.fst _) (ys := ys) (by simpa using hl)
          exact .ins (by rw [dr.H]; exact h1) (fun z => m (dr.M _ z)) (by rw [z1]; exact q) (by rw [z2]; exact fzs_ok ih rx hy)
        · cases hd
      | @obj a k ha =>
        dsimp only at hd
        have hk : n ≤ k := by
          unfold okO at z
          have := of_decide_eq_false (Bool.eq_false_iff.mpr z)
          omega
        split at hd
        · rename_i xs hS2
          obtain hq | ⟨hq, nM⟩ := hS k a _ hk ha hS2
          · cases hq
          split at hd
          · rename_i ys hy
            cases hd
            obtain ⟨us, h1, h2⟩ := s'.cont k a _ ha hq
            exact .lst (.inl ⟨.inl (by rw [dr.H]; exact h1), nM⟩) (fzs_ok ih h2 hy)
          · cases hd
        · rename_i c fs hS2
          obtain hq | ⟨hq, nM⟩ := hS k a _ hk ha hS2
          · cases hq
          split at hd
          · rename_i ys hy
            cases hd
            obtain ⟨dx, fs', h1, q, h2⟩ := s'.cont k a _ ha hq
            have hl := fzs_some hy
            obtain ⟨z1, z2⟩ := zip_fst (xs := List.map Prod.fst fs) (ys := ys) (by simpa using hl)
            exact .ins (by rw [dr.H]; exact h1) nM (by rw [z1]; exact q) (by rw [z2]; exact fzs_ok ih h2 hy)
          · cases hd
        · rename_i fs hS2
          obtain hq | ⟨hq, nM⟩ := hS k a _ hk ha hS2
          · cases hq
          split at hd
          · rename_i ys hy
            cases hd
            obtain ⟨fs', h1, q, h2⟩ := s'.cont k a _ ha hq
            have hl := fzs_some hy
            obtain ⟨z1, z2⟩ := zip_fst (xs := List.map Prod.fst fs) (ys := ys) (by simpa using hl)
            exact .dic (by rw [dr.H]; exact .inl h1) nM (by rw [z1]; exact q) (by rw [z2]; exact fzs_ok ih h2 hy)
          · cases hd
        · rename_i fs hS2
          obtain hq | ⟨hq, nM⟩ := hS k a _ hk ha hS2
          · cases hq
          split at hd
          · rename_i ys hy
            cases hd
            obtain ⟨fs', h1, q, h2⟩ := s'.cont k a _ ha hq
            have hl := fzs_some hy
            obtain ⟨z1, z2⟩ := zip_fst (xs := List.map Prod.fst fs) (ys := ys) (by simpa using hl)
            exact .dit (by rw [dr.H]; exact .inl h1) nM (by rw [z1]; exact q) (by rw [z2]; exact fzs_ok ih h2 hy)
          · cases hd
        · cases hd
/-- an object's own content, told without the names from n on -/
def fzo (n : Nat) (S : Store) : Dv → Option Dv
  | .lst xs => (match fzs (fzd n S 6) xs with | some ys => some (.lst ys) | none => none)
  | .ins c fs => (match fzs (fzd n S 6) (fs.map Prod.snd) with | some ys => some (.ins c ((fs.map Prod.fst).zip ys)) | none => none)
  | .dic fs => (match fzs (fzd n S 6) (fs.map Prod.snd) with | some ys => some (.dic ((fs.map Prod.fst).zip ys)) | none => none)
  | .dit fs => (match fzs (fzd n S 6) (fs.map Prod.snd) with | some ys => some (.dit ((fs.map Prod.fst).zip ys)) | none => none)
  | _ => none
open Classical in
/-- a def's answer: an object that it made, by the first free name -/
noncomputable def gcMR (S : Store) (r : Option (Rs Dv)) : Option (Rs Dv) := match r with
  | some (.ok (.obj k) S') => if StOk S S' ∧ S.length ≤ k then (match S'[k]? with
    | some d => (match fzo S.length (S'.set k .non) d with | some d' => some (.ok (.obj S.length) (S'.take S.length ++ [d'])) | none => none)
    | none => none) else none
  | some (.exc c fs S') => gcR S (some (.exc c fs S'))
  | _ => none
noncomputable def gcM (F : DFn) : DFn := fun ds S => gcMR S (F ds S)
noncomputable def fGcM (fa : FE) : FE := fun env S => gcMR S (fa env S)
section
variable {G : Gp} {w w' : Wd} {S S' : Store}
theorem cutM (e : Ext w w') (s : SOk G w S) (s' : SOk G w' S') (h : StOk S S') {k : Nat} {a : Addr} (ha : w'.as[k]? = some a) (hk : S.length ≤ k) {d d' : Dv} (hd : S'[k]? = some d) (hf : fzo S.length (S'.set k .non) d = some d') :
    Ext w (w'.cut (w.as ++ [a])) ∧ SOk G (w'.cut (w.as ++ [a])) (S'.take S.length ++ [d']) ∧ (w'.cut (w.as ++ [a])).as[S.length]? = some a := by
  obtain ⟨bs, hb⟩ := e.as
  have nM0 := fz_new e s s' ha hk
  have haw : a ∉ w.as := fun z => nM0 (.inr z)
  have haM0 : a ∉ w'.M0 := fun z => nM0 (.inl z)
  have ham : a ∈ w'.as := List.mem_of_getElem? ha
  have dr : Dn S.length w' (w'.cut (w.as ++ [a])) := ⟨rfl, fun b h => by
    rcases h with h | h
    · exact .inl h
    · rcases List.mem_append.mp h with h | h
      · exact .inr (by rw [hb]; exact List.mem_append_left _ h)
      · rw [show b = a by simpa using h]; exact .inr ham, fun j b hj hx => by
    show (w.as ++ [a])[j]? = some b
    rw [hb, List.getElem?_append_left (by rw [s.len]; exact hj)] at hx
    rw [List.getElem?_append_left (by rw [s.len]; exact hj)]
    exact hx⟩
  have hS : ∀ (j : Nat) (b : Addr) (x : Dv), S.length ≤ j → w'.as[j]? = some b → (S'.set k .non)[j]? = some x → x = .non ∨ (S'[j]? = some x ∧ ¬ (w'.cut (w.as ++ [a])).M b) := fun j b x hj hx h2 => by
    by_cases z : k = j
    · subst z
      left
      rw [List.getElem?_set_self'] at h2
      cases q : S'[k]? with
      | none => rw [q] at h2; cases h2
      | some y => rw [q] at h2; cases h2; rfl
    · right
      rw [List.getElem?_set_ne z] at h2
      refine ⟨h2, fun m => ?_⟩
      have nb := fz_new e s s' hx hj
      rcases m with m | m
      · exact nb (.inl m)
      · rcases List.mem_append.mp m with m | m
        · exact nb (.inr m)
        · have eb : b = a := by simpa using m
          subst eb
          have h3 := (List.getElem?_eq_some_iff.mp ha)
          have h4 := (List.getElem?_eq_some_iff.mp hx)
          obtain ⟨l3, h3⟩ := h3
          obtain ⟨l4, h4⟩ := h4
          exact z ((List.getElem_inj s'.nd).mp (h3.trans h4.symm))
  have fz := fun {f : Nat} {v : V} {x x' : Dv} => fzd_gen s' dr hS f (v := v) (d := x) (d' := x')
  have hlen : (S'.take S.length).length = S.length := by rw [List.length_take]; have := h.1; omega
  refine ⟨⟨⟨[a], rfl⟩, e.m0, fun b o hbo hn z => ?_, fun b o hbo n z => e.nM b o hbo n (dr.M b z), e.keep⟩, ⟨?_, ?_, s'.dom, fun b hb' z => ?_, fun i b x h1 h2 => ?_⟩, ?_⟩
  · rcases List.mem_append.mp z with z | z
    · exact hn z
    · rw [show b = a by simpa using z] at hbo hn
      exact e.na a o hbo hn ham
  · show (w.as ++ [a]).Nodup
    rw [List.nodup_append]
    refine ⟨s.nd, by simp, fun b hb c hc => ?_⟩
    rw [show c = a by simpa using hc]
    rintro rfl
    exact haw hb
  · show (w.as ++ [a]).length = (S'.take S.length ++ [d']).length
    rw [List.length_append, List.length_append, hlen, s.len]
    rfl
  · rcases List.mem_append.mp hb' with q | q
    · exact s'.dj b (by rw [hb]; exact List.mem_append_left _ q) z
    · rw [show b = a by simpa using q] at z
      exact haM0 z
  · have h1' : (w.as ++ [a])[i]? = some b := h1
    by_cases hi : i < S.length
    · rw [List.getElem?_append_left (by rw [s.len]; exact hi)] at h1'
      rw [List.getElem?_append_left (by rw [hlen]; exact hi), List.getElem?_take_of_lt hi] at h2
      have nd : okO S.length x = true := by
        rcases h.2 i x hi h2 with z | z
        · have := (s.cont i b x h1' z).okO
          rw [s.len] at this
          exact this
        · exact z
      refine (s'.cont i b x ?_ h2).dn dr nd
      rw [hb, List.getElem?_append_left (by rw [s.len]; exact hi)]
      exact h1'
    · rw [List.getElem?_append_right (by rw [s.len]; omega)] at h1'
      rw [List.getElem?_append_right (by rw [hlen]; omega)] at h2
      rw [s.len] at h1'
      rw [hlen] at h2
      cases hq : i - S.length with
      | succ j => rw [hq] at h1'; simp at h1'
      | zero =>
        rw [hq] at h1' h2
        simp at h1' h2
        subst h1'; subst h2
        have m := s'.cont k a d ha hd
        cases d <;> first | exact m.elim | skip
        · obtain ⟨us, h1, h2⟩ := m
          unfold fzo at hf
          dsimp only at hf
          split at hf
          · rename_i ys hy
            cases hf
            exact ⟨us, h1, fzs_ok fz h2 hy⟩
          · cases hf
        · obtain ⟨dx, fs', h1, q, h2⟩ := m
          unfold fzo at hf
          dsimp only at hf
          split at hf
          · rename_i ys hy
            cases hf
            have hl := fzs_some hy
            obtain ⟨z1, z2⟩ := zip_fst (xs := List.map Prod.fst _) (ys := ys) (by simpa using hl)
            exact ⟨dx, fs', h1, by rw [z1]; exact q, by rw [z2]; exact fzs_ok fz h2 hy⟩
          · cases hf
        · obtain ⟨fs', h1, q, h2⟩ := m
          unfold fzo at hf
          dsimp only at hf
          split at hf
          · rename_i ys hy
            cases hf
            have hl := fzs_some hy
            obtain ⟨z1, z2⟩ := zip_fst (xs := List.map Prod.fst _) (ys := ys) (by simpa using hl)
            exact ⟨fs', h1, by rw [z1]; exact q, by rw [z2]; exact fzs_ok fz h2 hy⟩
          · cases hf
        · obtain ⟨fs', h1, q, h2⟩ := m
          unfold fzo at hf
          dsimp only at hf
          split at hf
          · rename_i ys hy
            cases hf
            have hl := fzs_some hy
            obtain ⟨z1, z2⟩ := zip_fst (xs := List.map Prod.fst _) (ys := ys) (by simpa using hl)
            exact ⟨fs', h1, by rw [z1]; exact q, by rw [z2]; exact fzs_ok fz h2 hy⟩
          · cases hf
  · show (w.as ++ [a])[S.length]? = some a
    rw [← s.len, List.getElem?_append_right (Nat.le_refl _), Nat.sub_self]
    rfl
theorem gcMR_ok {W : WX} {σ : L2.St} (s : SOk G w S) {r : Option (Rs Dv)} {res : Rs Dv} {Q : VK} (h : gcMR S r = some res) (p : PR G W (Rp G) w σ res Q) : ∃ r1, r = some r1 ∧ PR G W (Rp G) w σ r1 Q := by
  unfold gcMR at h
  split at h
  · rename_i k S'
    refine ⟨_, rfl, ?_⟩
    by_cases z : StOk S S' ∧ S.length ≤ k
    · rw [if_pos z] at h
      split at h
      · rename_i d hd
        split at h
        · rename_i d' hf
          cases h
          intro v w' e s' rv
          cases rv with
          | @obj a _ ha =>
            obtain ⟨e2, s2, ha2⟩ := cutM e s s' z.1 ha z.2 hd hf
            exact p (.ref a) (w'.cut (w.as ++ [a])) e2 s2 (.obj ha2)
        · cases h
      · cases h
    · rw [if_neg z] at h; cases h
  · rename_i c fs S'
    exact gcR_ok s h p
  · cases h
end
section
variable {X : Cx} {ξ : Iv} {W : WX} {G : Gp}
theorem d_gcM {e : Expr} {fa : FE} (h : DE X ξ W e fa) : DE X ξ W e (fGcM fa) := PE.imp h fun σ H Q ⟨w, env, S, res, eH, s, en, h, p⟩ => by
  obtain ⟨r1, h1, p1⟩ := gcMR_ok s h p
  exact ⟨w, env, S, r1, eH, s, en, h1, p1⟩
variable {P : Program} {w0 : World} {K : PySem.W.Frag} {mg : Str → Option Value} {base : Heap}
theorem fn_gcM {f : Addr} {fd : FuncData} {ps : List Str} {k n : Nat} {F : DFn} (h : FnOk P w0 K mg base (L2.CX P w0) k f fd ps (spD K mg n F)) : FnOk P w0 K mg base (L2.CX P w0) k f fd ps (spD K mg n (gcM F)) :=
  h.imp fun vs H Q E ⟨hl, w, S, ds, r, eH, hs, rv, hF, p⟩ => by
    obtain ⟨r1, h1, p1⟩ := gcMR_ok hs hF p
    exact ⟨hl, w, S, ds, r1, eH, hs, rv, h1, p1⟩
/-! ### slots forgotten alone -/
@[simp] def clS (ks : List Nat) : Option Rf → Option Rf
  | some (.nx env S) => some (.nx (fgt ks env) S)
  | some (.bk env S) => some (.bk (fgt ks env) S)
  | some (.ct env S) => some (.ct (fgt ks env) S)
  | r => r
@[simp] def sCl (ks : List Nat) (fb : FS) : FS := fun env S => clS ks (fb env S)
theorem EOk.fg {w : Wd} {σ : L2.St} {env : DEnv} {ks : List Nat} (h : EOk G ξ w σ env) : EOk G ξ w σ (fgt ks env) := ⟨by rw [h.len, fgt_len], fun i d q => h.get i d (fgt_get q), h.inv⟩
theorem clS_ok {w : Wd} {ks : List Nat} {D : Ends} {r : Option Rf} {res : Rf} (h : clS ks r = some res) (p : PF G ξ W w res D) : ∃ r1, r = some r1 ∧ PF G ξ W w r1 D := by
  unfold clS at h
  split at h
  · cases h; exact ⟨_, rfl, fun σ' w' e s' en => p σ' w' e s' en.fg⟩
  · cases h; exact ⟨_, rfl, fun σ' w' e s' en => p σ' w' e s' en.fg⟩
  · cases h; exact ⟨_, rfl, fun σ' w' e s' en => p σ' w' e s' en.fg⟩
  · exact ⟨_, h, p⟩
theorem s_cl {st : Stmt} {f : FS} (ks : List Nat) (h : DS X ξ W st f) : DS X ξ W st (sCl ks f) := PS.imp h fun D σ H ⟨w, env, S, res, eH, s, en, h, p⟩ => by
  obtain ⟨r1, h1, p1⟩ := clS_ok h p
  exact ⟨w, env, S, r1, eH, s, en, h1, p1⟩
theorem ss_cl {st : List Stmt} {f : FS} (ks : List Nat) (h : DSs X ξ W st f) : DSs X ξ W st (sCl ks f) := PSs.imp h fun D σ H ⟨w, env, S, res, eH, s, en, h, p⟩ => by
  obtain ⟨r1, h1, p1⟩ := clS_ok h p
  exact ⟨w, env, S, r1, eH, s, en, h1, p1⟩
end
end FC

set_option Elab.async false
set_option linter.all false
set_option maxRecDepth 100000
namespace FC
open PySem PySem.Spec L2
section
variable {X : Cx} {ξ : Iv} {W : WX} {G : Gp}
@[simp] def sPre (ks : List Nat) (fb : FS) : FS := fun env S => fb (fgt ks env) S
theorem s_pre {st : Stmt} {f : FS} (ks : List Nat) (h : DS X ξ W st f) : DS X ξ W st (sPre ks f) := PS.imp h fun D σ H ⟨w, env, S, res, eH, s, en, h, p⟩ => ⟨w, _, S, res, eH, s, en.fg, h, p⟩
theorem lk_all {β : Type} {P : Str → β → Prop} : ∀ {l : List (Str × β)}, (∀ q ∈ l, P q.1 q.2) → ∀ c b, l.lookup c = some b → P c b
  | [], _, c, b, h => by cases h
  | (n, v) :: r, hl, c, b, h => by
    rw [List.lookup_cons] at h
    cases q : (c == n) with
    | true =>
      rw [q] at h
      cases h
      have e : c = n := by simpa using q
      subst e
      exact hl _ List.mem_cons_self
    | false =>
      rw [q] at h
      exact lk_all (l := r) (fun p hp => hl p (List.mem_cons_of_mem _ hp)) c b h
@[simp] def oBool1 : DCl := fun ds S => match ds with
  | [.int i] => some (.ok (.bl (i != 0)) S)
  | [.bl b] => some (.ok (.bl b) S)
  | _ => none
theorem cd_bool1 : CallD G (fun xs H Q => (∃ i, xs = [V.int i] ∧ Q (.bl (i != 0)) H) ∨ ∃ k, xs = [V.bl k] ∧ Q (.bl k) H) oBool1 := by
  intro W w σ S xs ds res Q s r h p
  unfold oBool1 at h
  split at h
  · cases h
    obtain ⟨v, rfl, h1⟩ := rp1 r
    cases h1
    exact .inl ⟨_, rfl, p.here s (.bl _)⟩
  · cases h
    obtain ⟨v, rfl, h1⟩ := rp1 r
    cases h1
    exact .inr ⟨_, rfl, p.here s (.bl _)⟩
  · cases h
end
end FC

set_option Elab.async false
set_option linter.all false
set_option maxRecDepth 100000
namespace FC
open PySem PySem.Spec L2
section
variable {X : Cx} {ξ : Iv} {W : WX} {G : Gp}
/-! ### walks over a list that may change, while it does not -/
def ItOkO (G : Gp) (w : Wd) (J : It) (p : Nat × List Dv) : Prop := ∀ w2 S2, Ext w w2 → SOk G w2 S2 → S2[p.1]? = some (.lst p.2) →
  (∀ i, i < p.2.length → J.go i w2.H) ∧ J.stop p.2.length w2.H ∧
    ∀ i d x H', p.2[i]? = some d → J.yld i w2.H x H' → ∃ w3, w3.H = H' ∧ Ext w2 w3 ∧ SOk G w3 S2 ∧ Rp G w3 x d
abbrev FIO := DEnv → Mm (Nat × List Dv)
def tIO (G : Gp) (ξ : Iv) (W : WX) (f : FIO) : TI := tG G ξ W (fun w J p => ItOkO G w J p) f
def DIO (X : Cx) (ξ : Iv) (W : WX) (tg iter : Expr) (f : FIO) : Prop := PI X tg iter (tIO (gp X) ξ W f)
@[simp] def fItO (fa : FE) : FIO := fun env => bnd (fa env) fun d S => match d with
  | .obj n => (match S[n]? with
    | some (.lst xs) => some (.ok (n, xs) S)
    | _ => none)
  | _ => none
theorem i_obj {tg e : Expr} {fa : FE} (ha : DE X ξ W e fa) : DIO X ξ W tg e (fItO fa) := PI.imp (pi_list ha) fun σ H R ⟨w, env, S, res, eH, s, en, h, p⟩ => by
  subst eH
  refine seqR s en h p.px fun d S1 v w1 e1 s1 en1 rv h1 => ?_
  cases rv <;> first | (cases h1; done) | skip
  rename_i a n ha
  dsimp only at h1
  split at h1
  · rename_i xs hS
    cases h1
    obtain ⟨us, h2, h3⟩ := s1.cont n a _ ha hS
    refine ⟨a, rfl, ⟨us, SqL.of h2⟩, p.ok_ e1 s1 fun w2 S2 e2 s2 hg => ?_⟩
    obtain ⟨us2, h4, h5⟩ := s2.cont n a _ (e2.as_of ha) hg
    have hq : SqL (gp X).K w2.H a us2 := SqL.of h4
    refine ⟨fun i hi => ?_, ⟨us2, hq, by rw [h5.length]; exact Nat.le_refl _⟩, fun i d x H' hd hy => ?_⟩
    · have hx : i < us2.length := by rw [h5.length]; exact hi
      exact ⟨us2, us2[i], hq, List.getElem?_eq_getElem hx⟩
    · obtain ⟨rfl, hx⟩ := hy
      obtain ⟨v, h6, h7⟩ := h5.get hd
      rw [hx us2 hq] at h6
      cases h6
      exact ⟨w2, rfl, Ext.refl _, s2, h7⟩
  · cases h1
open Classical in
/-- a step while the list stands -/
noncomputable def stands {α : Type} (n : Nat) (all : List Dv) (m : Mm α) : Mm α := fun S => if S[n]? = some (.lst all) then m S else none
theorem stands_some {α : Type} {n : Nat} {all : List Dv} {m : Mm α} {S : Store} {r : Rs α} (h : stands n all m S = some r) : S[n]? = some (.lst all) ∧ m S = some r := by
  unfold stands at h
  by_cases z : S[n]? = some (.lst all)
  · rw [if_pos z] at h; exact ⟨z, h⟩
  · rw [if_neg z] at h; cases h
noncomputable def compM2O (n : Nat) (all : List Dv) (b : Bd) (ft : FT) (fi1 : FI) (vs1 : List Nat) (b1 : Bd) (ft1 : FT) (fe : FE) (env0 : DEnv) : List Dv → List Dv → Mm (List Dv)
  | [], acc => stands n all (ret acc)
  | d :: r, acc => stands n all fun S => match b d env0 with
    | none => none
    | some env1 => match ft env1 S with
      | some (.ok false S1) => compM2O n all b ft fi1 vs1 b1 ft1 fe env0 r acc S1
      | some (.ok true S1) => match fi1 env1 S1 with
        | some (.ok items1 S2) => match compM b1 ft1 fe (wipeD env1 vs1) items1 acc S2 with
          | some (.ok acc2 S3) => compM2O n all b ft fi1 vs1 b1 ft1 fe env0 r acc2 S3
          | _ => none
        | _ => none
      | _ => none
noncomputable def fLc2O (m : Bool) (fi : FIO) (own : List Nat) (b : Bd) (ft : FT) (fi1 : FI) (vs1 : List Nat) (b1 : Bd) (ft1 : FT) (fe : FE) : FE := fun env => bnd (fi env) fun p => bnd (compM2O p.1 p.2 b ft fi1 vs1 b1 ft1 fe (wipeD env own) p.2 []) (newL m)
section
variable {n0 : Nat} {all : List Dv} {b : Bd} {ft : FT} {fi1 : FI} {vs1 : List Nat} {b1 : Bd} {ft1 : FT} {fe : FE} {env0 : DEnv}
theorem compM2O_g {l acc : List Dv} {S : Store} {res : Rs (List Dv)} (h : compM2O n0 all b ft fi1 vs1 b1 ft1 fe env0 l acc S = some res) : S[n0]? = some (.lst all) := by
  cases l with
  | nil => unfold compM2O at h; exact (stands_some h).1
  | cons d r => unfold compM2O at h; exact (stands_some h).1
theorem compM2O_nil {acc ys : List Dv} {S S' : Store} (h : compM2O n0 all b ft fi1 vs1 b1 ft1 fe env0 [] acc S = some (.ok ys S')) : (acc, S) = (ys, S') := by
  unfold compM2O at h
  have := (stands_some h).2
  cases this
  rfl
theorem compM2O_cons {d : Dv} {r acc : List Dv} {S : Store} {res : Rs (List Dv)} (h : compM2O n0 all b ft fi1 vs1 b1 ft1 fe env0 (d :: r) acc S = some res) :
    ∃ env1, b d env0 = some env1 ∧ ((∃ S1, ft env1 S = some (.ok false S1) ∧ compM2O n0 all b ft fi1 vs1 b1 ft1 fe env0 r acc S1 = some res) ∨
      ∃ S1 items1 S2 acc2 S3, ft env1 S = some (.ok true S1) ∧ fi1 env1 S1 = some (.ok items1 S2) ∧ compM b1 ft1 fe (wipeD env1 vs1) items1 acc S2 = some (.ok acc2 S3) ∧ compM2O n0 all b ft fi1 vs1 b1 ft1 fe env0 r acc2 S3 = some res) := by
  unfold compM2O at h
  have h := (stands_some h).2
  split at h
  · cases h
  · rename_i env1 e1
    refine ⟨env1, e1, ?_⟩
    split at h
    · rename_i S1 e2
      exact .inl ⟨S1, e2, h⟩
    · rename_i S1 e2
      split at h
      · rename_i items1 S2 e3
        split at h
        · rename_i acc2 S3 e4
          exact .inr ⟨S1, items1, S2, acc2, S3, e2, e3, e4, h⟩
        · cases h
      · cases h
    · cases h
theorem compM2O_ok : ∀ {l acc : List Dv} {S : Store} {res : Rs (List Dv)}, compM2O n0 all b ft fi1 vs1 b1 ft1 fe env0 l acc S = some res → ∃ ys S2, res = .ok ys S2
  | [], acc, S, res, h => by unfold compM2O at h; have h := (stands_some h).2; cases h; exact ⟨acc, S, rfl⟩
  | d :: r, acc, S, res, h => by
    obtain ⟨env1, _, ⟨S1, _, h2⟩ | ⟨S1, items1, S2, acc2, S3, _, _, _, h2⟩⟩ := compM2O_cons h
    · exact compM2O_ok h2
    · exact compM2O_ok h2
end
section
variable {tg iter tg1 iter1 elt : Expr} {ifs ifs1 : List Expr} {scope : Scope} {own : List (Str × Nat)} {pos : Pos} {fi : FIO} {fi1 : FI} {sl sl1 vs1 : List Nat} {b b1 : Bd} {ft ft1 : FT} {fe : FE}
theorem lc2O_body (m : Bool) (hsl : ∀ i ∈ sl, i ∈ own.map (·.2)) (hsl1 : ∀ i ∈ sl1, i ∈ vs1) : ∀ σ H Q, tD G Iv.no W (fLc2O m fi (own.map (·.2)) b ft fi1 vs1 b1 ft1 fe) σ H Q →
    tLc2 (tIO G Iv.no W fi) (gD G Iv.no sl b) (tDT G Iv.no W0 ft) (tIW G Iv.no W0 fi1) (gD G Iv.no sl1 b1) (tDT G Iv.no W0 ft1) (tD G Iv.no W0 fe) (own.map (·.2)) vs1 σ H Q := fun σ H Q ⟨w, env, S, res, eH, s, en, h, p⟩ => by
  subst eH
  refine seqR s en h p.px fun it S1 J w1 e1 s1 en1 ok h1 => fun D hD => ?_
  obtain ⟨n0, items⟩ := it
  have p1 := p.mono e1 s1
  unfold bnd at h1
  cases hc : compM2O n0 items b ft fi1 vs1 b1 ft1 fe (wipeD env (own.map (·.2))) items [] S1 with
  | none => rw [hc] at h1; cases h1
  | some r1 =>
    rw [hc] at h1
    obtain ⟨ys, Sf, rfl⟩ := compM2O_ok hc
    have hk : newL m ys Sf = some res := h1
    refine ⟨fun i k H => k = items.length - i ∧ i ≤ items.length ∧ ∃ w2 S2 vs acc, w2.H = H ∧ Lcs G w1 D w2 S2 vs acc ∧ compM2O n0 items b ft fi1 vs1 b1 ft1 fe (wipeD env (own.map (·.2))) (items.drop i) acc S2 = some (.ok ys Sf), ⟨items.length, rfl, Nat.zero_le _, ?_⟩, ?_⟩
    · refine ⟨⟨upd w1.H D (.lst []), w1.as, D :: w1.M0⟩, S1, [], [], rfl, ?_, hc⟩
      have ex : Ext w1 ⟨upd w1.H D (.lst []), w1.as, D :: w1.M0⟩ := ⟨⟨[], by simp⟩, fun a ha => List.mem_cons_of_mem _ ha, fun _ _ _ n => n, fun a o ho n z => by
        rcases z with z | z
        · rcases List.mem_cons.mp z with z | z
          · exact ne_of_none ho hD z
          · exact n (.inl z)
        · exact n (.inr z), fun a o _ ho => by
        show upd w1.H D _ a = some o
        rw [upd_ne (ne_of_none ho hD)]
        exact ho⟩
      refine ⟨ex, ⟨s1.nd, s1.len, fun a ha => ?_, fun a ha z => ?_, fun i a d q1 q2 => ?_⟩, List.mem_cons_self, fun z => s1.fresh hD (.inr z), upd_same, .nil⟩
      · rcases List.mem_cons.mp ha with z | z
        · subst z; exact ⟨_, upd_same⟩
        · obtain ⟨o, ho⟩ := s1.dom a z
          exact ⟨o, by show upd w1.H D _ a = some o; rw [upd_ne (ne_of_none ho hD)]; exact ho⟩
      · rcases List.mem_cons.mp z with z | z
        · subst z; exact s1.fresh hD (.inr ha)
        · exact s1.dj a ha z
      · have q := s1.cont i a d q1 q2
        obtain ⟨o, ho⟩ := q.there
        exact q.mono ex (upd_ne (ne_of_none ho hD))
    · rintro i k H' ⟨rfl, hi, w2, S2, vs, acc, rfl, c, hcm⟩
      obtain ⟨go, stop, yld⟩ := ok w2 S2 c.e c.s (compM2O_g hcm)
      by_cases hlt : i < items.length
      · refine .inr ⟨go i hlt, fun H' => i + 1 ≤ items.length ∧ ∃ w2 S2 vs acc, w2.H = H' ∧ Lcs G w1 D w2 S2 vs acc ∧ compM2O n0 items b ft fi1 vs1 b1 ft1 fe (wipeD env (own.map (·.2))) (items.drop (i + 1)) acc S2 = some (.ok ys Sf), fun H' hN => ⟨items.length - (i + 1), by omega, rfl, hN.1, hN.2⟩, fun x H' hy => ?_⟩
        have hd : items[i]? = some items[i] := List.getElem?_eq_getElem hlt
        obtain ⟨w3, rfl, e3, s3, rx⟩ := yld i _ x H' hd hy
        rw [List.drop_eq_getElem_cons hlt] at hcm
        obtain ⟨env1, hb, hcases⟩ := compM2O_cons hcm
        refine ⟨w3, S2, wipeD env (own.map (·.2)), items[i], env1, rfl, s3, ((en1.mono c.e).mono e3).wipe _ (fun _ _ => True.intro), rx, hb, fun σ' en' hw => ⟨?_, ?_⟩⟩
        · rw [hw _ hsl]
          exact wipe_wipe σ _ _ fun _ z => z
        · have c3 := c.go e3 s3
          rcases hcases with ⟨S4, hft, hr⟩ | ⟨S4, items1, S5, acc2, S6, hft, hfi, hcm1, hr⟩
          · refine ⟨w3, env1, S2, _, rfl, s3, en', hft, fun bv w4 e4 s4 hbv => ?_⟩
            cases hbv
            exact ⟨hlt, w4, S4, vs, acc, rfl, c3.go e4 s4, hr⟩
          · refine ⟨w3, env1, S2, _, rfl, s3, en', hft, fun bv w4 e4 s4 hbv => ?_⟩
            cases hbv
            have c4 := c3.go e4 s4
            refine ⟨w4, env1, S4, _, rfl, s4, en'.mono e4, hfi, fun J1 w5 e5 s5 ok1 => ?_⟩
            have c5 := c4.go e5 s5
            have en5 := (en'.mono e4).mono e5
            refine ⟨fun j k H => k = items1.length - j ∧ j ≤ items1.length ∧ ∃ w6 S7 vs' acc', w6.H = H ∧ Wk w5 w6 ∧ Lcs G w1 D w6 S7 vs' acc' ∧ compM b1 ft1 fe (wipeD env1 vs1) (items1.drop j) acc' S7 = some (.ok acc2 S6), ⟨items1.length, rfl, Nat.zero_le _, w5, S5, vs, acc, rfl, Wk.refl _, c5, hcm1⟩, ?_⟩
            rintro j k H7 ⟨rfl, hj, w6, S7, vs', acc', rfl, e6, c6, hin⟩
            obtain ⟨go1, stop1, yld1⟩ := ok1 w6 S7 e6 c6.s
            by_cases hlt1 : j < items1.length
            · refine .inr ⟨go1 j hlt1, fun H' => j + 1 ≤ items1.length ∧ ∃ w6 S7 vs' acc', w6.H = H' ∧ Wk w5 w6 ∧ Lcs G w1 D w6 S7 vs' acc' ∧ compM b1 ft1 fe (wipeD env1 vs1) (items1.drop (j + 1)) acc' S7 = some (.ok acc2 S6), fun H' hN => ⟨items1.length - (j + 1), by omega, rfl, hN.1, hN.2⟩, fun x1 H8 hy1 => ?_⟩
              have hd1 : items1[j]? = some items1[j] := List.getElem?_eq_getElem hlt1
              obtain ⟨w8, rfl, e8, s8, rx1⟩ := yld1 j _ x1 H8 hd1 hy1
              rw [List.drop_eq_getElem_cons hlt1] at hin
              obtain ⟨env2, hb1, hcases1⟩ := compM_cons hin
              refine ⟨w8, S7, wipeD env1 vs1, items1[j], env2, rfl, s8, ((en5.wkNo e6).mono e8).wipe _ (fun _ _ => True.intro), rx1, hb1, fun σ3 en3 hw1 => ⟨?_, ?_⟩⟩
              · rw [hw1 _ hsl1]
                exact wipe_wipe σ' _ _ fun _ z => z
              · have c8 := c6.go e8 s8
                have e58 := e6.trans e8.wk
                rcases hcases1 with ⟨S9, hf1, hr1⟩ | ⟨S9, y, S10, hf1, hfe, hl, hr1⟩
                · refine ⟨w8, env2, S7, _, rfl, s8, en3, hf1, fun bv w9 e9 s9 hbv => ?_⟩
                  cases hbv
                  exact ⟨hlt1, w9, S9, vs', acc', rfl, e58.trans e9.wk, c8.go e9 s9, hr1⟩
                · refine ⟨w8, env2, S7, _, rfl, s8, en3, hf1, fun bv w9 e9 s9 hbv => ?_⟩
                  cases hbv
                  have c9 := c8.go e9 s9
                  refine ⟨w9, env2, S9, _, rfl, s9, en3.mono e9, hfe, fun v w10 e10 s10 rv => ?_⟩
                  have c10 := c9.go e10 s10
                  have ca := c10.app hD rv
                  exact ⟨vs', c10.h, by rw [c10.r.length]; exact big_lt hl, hlt1, _, S10, _, _, rfl, (((e58.trans e9.wk).trans e10.wk).trans (Wk.putD (.inl c10.m))), ca, hr1⟩
            · have e0 : j = items1.length := by omega
              subst e0
              rw [List.drop_length] at hin
              cases hin
              exact .inl ⟨stop1, hlt, w6, _, vs', _, rfl, c6, hr⟩
      · have e0 : i = items.length := by omega
        subst e0
        rw [List.drop_length] at hcm
        cases compM2O_nil hcm
        exact .inl ⟨stop, c.out s1 hD hk p1⟩
theorem d_lc2O {vs : List Nat} (m : Bool) (hc : X.calm = true) (hN : X.N.Nodup) (hi : DIO X Iv.no W tg iter fi) (ok : BlkOk X.N X.env.scope scope own)
    (hg : ∀ (s : Shared) (H : Hp) (C : Addr) (cl : List (Str × Addr)) (fp : List Addr), DG (X.blk s H scope (compEnvC scope cl C X.env) fp) Iv.no tg sl b)
    (ht : ∀ (s : Shared) (H : Hp) (C : Addr) (cl : List (Str × Addr)) (fp : List Addr), DTs (X.blk s H scope (compEnvC scope cl C X.env) fp) Iv.no W0 ifs ft)
    (hi1 : ∀ (s : Shared) (H : Hp) (C : Addr) (cl : List (Str × Addr)) (fp : List Addr), DIW (X.blk s H scope (compEnvC scope cl C X.env) fp) Iv.no W0 tg1 iter1 fi1)
    (hg1 : ∀ (s : Shared) (H : Hp) (C : Addr) (cl : List (Str × Addr)) (fp : List Addr), DG (X.blk s H scope (compEnvC scope cl C X.env) fp) Iv.no tg1 sl1 b1)
    (ht1 : ∀ (s : Shared) (H : Hp) (C : Addr) (cl : List (Str × Addr)) (fp : List Addr), DTs (X.blk s H scope (compEnvC scope cl C X.env) fp) Iv.no W0 ifs1 ft1)
    (he : ∀ (s : Shared) (H : Hp) (C : Addr) (cl : List (Str × Addr)) (fp : List Addr), DE (X.blk s H scope (compEnvC scope cl C X.env) fp) Iv.no W0 elt fe)
    (hv : own.map (·.2) = vs := by rfl) (hv1 : ∀ i ∈ vs1, i ∈ own.map (·.2) := by decide) (hsl : ∀ i ∈ sl, i ∈ own.map (·.2) := by decide) (hsl1 : ∀ i ∈ sl1, i ∈ vs1 := by decide) (hs : ∀ x, foldedSetIterable iter X.env x = pure x := by intro _; rfl) (hs1 : ∀ env x, foldedSetIterable iter1 env x = pure x := by intro _ _; rfl) :
    DE X Iv.no W (.ListComp elt [⟨tg, iter, ifs, 0⟩, ⟨tg1, iter1, ifs1, 0⟩] scope pos) (fLc2O m fi vs b ft fi1 vs1 b1 ft1 fe) := by
  subst hv
  exact PE.imp (pe_lc2 (g := gD (gp X) Iv.no sl b) (tt := tDT (gp X) Iv.no W0 ft) (wi1 := tIW (gp X) Iv.no W0 fi1) (g1 := gD (gp X) Iv.no sl1 b1) (tt1 := tDT (gp X) Iv.no W0 ft1) (te := tD (gp X) Iv.no W0 fe) hc hN hi ok hv1 hg ht hi1 hg1 ht1 he hs hs1) (lc2O_body m hsl hsl1)
theorem s_setLc2O {i : Nat} {y : Str} {py spos : Pos} {vs : List Nat} (m : Bool) (hc : X.calm = true) (hN : X.N.Nodup) (hsw : swapsWith (.ListComp elt [⟨tg, iter, ifs, 0⟩, ⟨tg1, iter1, ifs1, 0⟩] scope pos) (some (.Name y py)) spos.line X.env = pure true) (hi : DIO X Iv.no W tg iter fi) (ok : BlkOk X.N X.env.scope scope own)
    (hg : ∀ (s : Shared) (H : Hp) (C : Addr) (cl : List (Str × Addr)) (fp : List Addr), DG (X.blk s H scope (compEnvC scope cl C X.env) fp) Iv.no tg sl b)
    (ht : ∀ (s : Shared) (H : Hp) (C : Addr) (cl : List (Str × Addr)) (fp : List Addr), DTs (X.blk s H scope (compEnvC scope cl C X.env) fp) Iv.no W0 ifs ft)
    (hi1 : ∀ (s : Shared) (H : Hp) (C : Addr) (cl : List (Str × Addr)) (fp : List Addr), DIW (X.blk s H scope (compEnvC scope cl C X.env) fp) Iv.no W0 tg1 iter1 fi1)
    (hg1 : ∀ (s : Shared) (H : Hp) (C : Addr) (cl : List (Str × Addr)) (fp : List Addr), DG (X.blk s H scope (compEnvC scope cl C X.env) fp) Iv.no tg1 sl1 b1)
    (ht1 : ∀ (s : Shared) (H : Hp) (C : Addr) (cl : List (Str × Addr)) (fp : List Addr), DTs (X.blk s H scope (compEnvC scope cl C X.env) fp) Iv.no W0 ifs1 ft1)
    (he : ∀ (s : Shared) (H : Hp) (C : Addr) (cl : List (Str × Addr)) (fp : List Addr), DE (X.blk s H scope (compEnvC scope cl C X.env) fp) Iv.no W0 elt fe)
    (hv : own.map (·.2) = vs := by rfl) (hv1 : ∀ i ∈ vs1, i ∈ own.map (·.2) := by decide) (hsl : ∀ i ∈ sl, i ∈ own.map (·.2) := by decide) (hsl1 : ∀ i ∈ sl1, i ∈ vs1 := by decide) (hy : X.N[i]? = some y := by rfl) (hyl : X.env.scope.names.lookup y = some .local := by rfl) (hs : ∀ x, foldedSetIterable iter X.env x = pure x := by intro _; rfl) (hs1 : ∀ env x, foldedSetIterable iter1 env x = pure x := by intro _ _; rfl) :
    DS X Iv.no W (.Assign [.Name y py] (.ListComp elt [⟨tg, iter, ifs, 0⟩, ⟨tg1, iter1, ifs1, 0⟩] scope pos) spos) (sAsg (fLc2O m fi vs b ft fi1 vs1 b1 ft1 fe) (bName i)) := by
  subst hv
  refine PS.imp (ps_setLc2 (g := gD (gp X) Iv.no sl b) (tt := tDT (gp X) Iv.no W0 ft) (wi1 := tIW (gp X) Iv.no W0 fi1) (g1 := gD (gp X) Iv.no sl1 b1) (tt1 := tDT (gp X) Iv.no W0 ft1) (te := tD (gp X) Iv.no W0 fe) hc hN hy hyl hsw hi ok hv1 hg ht hi1 hg1 ht1 he hs hs1) fun D σ H h => ?_
  obtain ⟨w, env, S, r, eH, s, en, h, p⟩ := h
  subst eH
  have q : tD (gp X) Iv.no W (fLc2O m fi (own.map (·.2)) b ft fi1 vs1 b1 ft1 fe) σ w.H (fun x H1 => gName i x σ H1 D.nx) := seqS s en h p.px fun d S1 v w1 e1 s1 en1 r1 h1 => by
    cases h1
    exact p _ w1 e1 s1 (en1.set True.intro r1)
  exact lc2O_body m hsl hsl1 σ w.H _ q
end
end
end FC

set_option Elab.async false
set_option linter.all false
set_option maxRecDepth 100000
set_option maxHeartbeats 4000000
theorem L2.Room.units1 {k : Nat} {A : PySem.Around} (r : L2.Room k A) : A.units + 65 < PySem.cLine := by have := r.un; omega
namespace FC
open PySem PySem.Spec L2
/-! ### a, b = x, y -/
def sPar (i j : Nat) (fa : FA) : FS := sBnd fa fun ds env S => match ds with
  | [a, b] => some (.nx ((env.set i (some a)).set j (some b)) S)
  | _ => none
section
variable {X : Cx} {ξ : Iv} {W : WX}
theorem s_par {i j : Nat} {x y : Str} {a b : Expr} {fa : FA} {px py pt pos : Pos} {kt k2 pt2} (hc : X.calm = true) (hN : X.N.Nodup) (ha : DA X ξ W [a, b] fa) (hi : X.N[i]? = some x := by rfl) (hj : X.N[j]? = some y := by rfl) (hij : i ≠ j := by decide)
    (hx : X.env.scope.names.lookup x = some .local := by rfl) (hy : X.env.scope.names.lookup y = some .local := by rfl)
    (hw : swappedStores [.Tuple [.Name x px, .Name y py] kt pt] (.Tuple [a, b] k2 pt2) X.env = pure (some [x, y]) := by rfl)
    (hs : swapsWithSole [.Tuple [.Name x px, .Name y py] kt pt] (.Tuple [a, b] k2 pt2) pos.line X.env = pure false := by rfl) (oi : ξ.ok i := by first | trivial | decide) (oj : ξ.ok j := by first | trivial | decide) :
    DS X ξ W (.Assign [.Tuple [.Name x px, .Name y py] kt pt] (.Tuple [a, b] k2 pt2) pos) (sPar i j fa) := PS.imp (ps_par hc hN hi hj hij hx hy ha hw hs) fun D σ H h => by
  obtain ⟨w, env, S, r, eH, s, en, h, p⟩ := h
  subst eH
  refine seqS s en h p.px fun ds S1 vs w1 e1 s1 en1 r1 h1 => ?_
  cases r1 with
  | nil => cases h1
  | cons ra rr =>
    cases rr with
    | nil => cases h1
    | cons rb rr =>
      cases rr with
      | cons _ _ => cases h1
      | nil =>
        cases h1
        exact ⟨_, _, rfl, p _ w1 e1 s1 ((en1.set oi ra).set oj rb)⟩
end
/-! ### < of data -/
def rLtD (K : PySem.W.Frag) : R2 := fun x y H Q => ∃ d e, Dp K H x d ∧ Dp K H y e ∧ PySem.W.alike d e = true ∧ d ≠ .none ∧ d.depth ≤ 64 ∧ Q (.bl (PySem.W.dataLt d e)) H
theorem op_ltD {X : Cx} (hu : X.A.units + 64 < cLine) : OpR X (compareOp .Lt) (rLtD X.K) := by
  intro pins s σ H x y v u Q I rx ry h
  obtain ⟨d, e, hd, he, sd, sn, sl, q⟩ := h
  obtain ⟨as, r1⟩ := Dp.reads I d x v hd rx
  obtain ⟨bs, r2⟩ := Dp.reads I e y u he ry
  exact PySem.W.rcLt_alike d e X.A s v u as bs r1 r2 sd sn (by have := Nat.min_le_left d.depth e.depth; omega) _ _ _ _ ⟨.bl _, H, I, rfl, q⟩
def oLtX : DOp := fun x y S => match toPy x, toPy y with
  | some p, some q => if PySem.W.alike p q = true ∧ p.depth ≤ 64 then (match p with | .none => none | _ => some (.ok (.bl (PySem.W.dataLt p q)) S)) else none
  | _, _ => none
theorem od_ltX {G : Gp} : OpD G (rLtD G.K) oLtX := by
  intro W w σ S x y dx dy res Q s rx ry h p
  unfold oLtX at h
  cases e1 : toPy dx with
  | none => rw [e1] at h; cases h
  | some p1 =>
    cases e2 : toPy dy with
    | none => rw [e1, e2] at h; cases h
    | some q1 =>
      rw [e1, e2] at h
      simp only at h
      by_cases z : PySem.W.alike p1 q1 = true ∧ p1.depth ≤ 64
      · rw [if_pos z] at h
        have hn : p1 ≠ .none := by
          intro e
          subst e
          cases h
        have hr : some (Rs.ok (Dv.bl (PySem.W.dataLt p1 q1)) S) = some res := by
          cases p1 <;> first | exact absurd rfl hn | exact h
        cases hr
        exact ⟨p1, q1, dp_of dx x p1 rx e1, dp_of dy y q1 ry e2, z.1, hn, z.2, p.here s (.bl _)⟩
      · rw [if_neg z] at h
        cases h
section
variable {X : Cx} {ξ : Iv} {W : WX} {a b : Expr} {fa fb : FE} {pos : Pos}
theorem d_ltX (hu : X.A.units + 64 < cLine) (ha : DE X ξ W a fa) (hb : DE X ξ W b fb) : DE X ξ W (.Compare a [.Lt] [b] pos) (fOp oLtX fa fb) := d_cmp (op_ltD hu) od_ltX ha hb (nomark _)
theorem t_ltX (hu : X.A.units + 64 < cLine) (ha : DE X ξ W a fa) (hb : DE X ξ W b fb) : DT X ξ W (.Compare a [.Lt] [b] pos) (fTest (fOp oLtX fa fb)) := t_cmp (op_ltD hu) od_ltX ha hb (nomark _)
end
/-! ### list.index, `in` of data -/
def idxX (es ds : List Dv) : Mm Dv := fun S => match toPys es, ds with
  | some ps, [d] => (match toPy d with
    | some p => if SeqAt.shaped (.list ps) = true ∧ SeqAt.shaped p = true then (match ps.findIdx? (fun z => PyData.eqv z p) with
        | some j => some (.ok (.int (j : Nat)) S)
        | none => none) else none
    | none => none)
  | _, _ => none
theorem md_idxX {G : Gp} : MethR G (rIndexD G.K) idxX := by
  intro W w σ S a ys xs es ds res Q s hs hr r h p
  unfold idxX at h
  cases hi : toPys es with
  | none => rw [hi] at h; cases h
  | some ps =>
    rw [hi] at h
    match ds, r, h with
    | [d], r, h =>
      obtain ⟨v, rfl, hv⟩ := rp1 r
      simp only at h
      cases hd : toPy d with
      | none => rw [hd] at h; cases h
      | some q =>
        rw [hd] at h
        simp only at h
        by_cases z : SeqAt.shaped (.list ps) = true ∧ SeqAt.shaped q = true
        · rw [if_pos z] at h
          cases hj : ps.findIdx? (fun z => PyData.eqv z q) with
          | none => rw [hj] at h; cases h
          | some j =>
            rw [hj] at h
            cases h
            rw [List.findIdx?_eq_some_iff_getElem] at hj
            obtain ⟨h1, h2, h3⟩ := hj
            refine ⟨a, v, q, ps, j, ps[j], rfl, rfl, .lst hs (dps_of es ys ps hr hi), dp_of d v q hv hd, z.1, z.2, List.getElem?_eq_getElem h1, h2, fun m z' hm hz => ?_, p.here s (.int _)⟩
            have := h3 m hm
            obtain ⟨hm', e⟩ := List.getElem?_eq_some_iff.1 hz
            subst e
            simpa using this
        · rw [if_neg z] at h
          cases h
section
variable {X : Cx} {ξ : Iv} {W : WX} {o a : Expr} {fo : FE} {fa : FA} {apos cpos : Pos}
theorem d_indexX (hu : X.A.units + 65 < cLine) (ho : DE X ξ W o fo) (ha : DA X ξ W [a] fa)
    (hbase : attributeBase o "index" X.env (eval o X.env) = eval o X.env := by rfl)
    (hfew : ((backTo cpos (starEach [a] X.env)).all (fun x => !x.1) && (backToKw cpos (keywordEach [] X.env)).all (fun x => x.1.isSome)
      && decide ([a].length + ([] : List Keyword).length + (if ([] : List Keyword).isEmpty then 0 else 1) < 30)) = true := by rfl)
    (hline : (apos.endLine == cpos.line) = true := by rfl) (hs : starEach [a] X.env = (false, eval a X.env) :: starEach [] X.env := by rfl) (hplain : (backTo cpos (starEach [] X.env)).any (·.1) = false := by rfl) :
    DE X ξ W (.Call (.Attribute o "index" apos) [a] [] cpos) (fMR idxX fo fa) :=
  PE.imp (pe_bm PySem.F.plainAttrs_list PySem.F.slot_list_index PySem.F.type_list_index (mt_indexD hu) ho ha hbase hfew hline hs hplain) (methR_body md_idxX)
end
def oInX (neg : Bool) : DOp := fun x y S => match toPy x, y with
  | some p, .lst ys => (match toPys ys with
    | some ps => if SeqAt.shaped p = true ∧ SeqAt.shaped (.list ps) = true then some (.ok (.bl (if neg = true then !ps.any fun z => PyData.eqv z p else ps.any fun z => PyData.eqv z p)) S) else none
    | none => none)
  | _, _ => none
theorem inX_at {G : Gp} {neg : Bool} {x y : V} {dx dy : Dv} {res : Rs Dv} {S : Store} {w : Wd} (rx : Rp G w x dx) (ry : Rp G w y dy) (h : oInX neg dx dy S = some res) : ∃ p ps, Dp G.K w.H x p ∧ Dp G.K w.H y (.list ps) ∧ SeqAt.shaped p = true ∧ SeqAt.shaped (.list ps) = true ∧
    res = .ok (.bl (if neg = true then !ps.any fun z => PyData.eqv z p else ps.any fun z => PyData.eqv z p)) S := by
  unfold oInX at h
  cases e1 : toPy dx with
  | none => rw [e1] at h; cases h
  | some p1 =>
    rw [e1] at h
    cases dy with
    | lst ys =>
      simp only at h
      cases e2 : toPys ys with
      | none => rw [e2] at h; cases h
      | some ps =>
        rw [e2] at h
        simp only at h
        by_cases z : SeqAt.shaped p1 = true ∧ SeqAt.shaped (.list ps) = true
        · rw [if_pos z] at h
          cases h
          refine ⟨p1, ps, dp_of dx x p1 rx e1, dp_of (.lst ys) y (.list ps) ry ?_, z.1, z.2, rfl⟩
          unfold toPy
          rw [e2]
          rfl
        · rw [if_neg z] at h
          cases h
    | _ => cases h
theorem od_inX {G : Gp} : OpD G (rInD G.K) (oInX false) := by
  intro W w σ S x y dx dy res Q s rx ry h p
  obtain ⟨p1, ps, h1, h2, h3, h4, rfl⟩ := inX_at rx ry h
  exact ⟨p1, ps, h1, h2, h3, h4, p.here s (.bl _)⟩
theorem od_ninX {G : Gp} : OpD G (rNotInD G.K) (oInX true) := by
  intro W w σ S x y dx dy res Q s rx ry h p
  obtain ⟨p1, ps, h1, h2, h3, h4, rfl⟩ := inX_at rx ry h
  exact ⟨p1, ps, h1, h2, h3, h4, p.here s (.bl _)⟩
section
variable {X : Cx} {ξ : Iv} {W : WX} {a b : Expr} {fa fb : FE} {pos : Pos}
theorem d_inX (hu : X.A.units + 65 < cLine) (ha : DE X ξ W a fa) (hb : DE X ξ W b fb) (hm : behindInMarks .In b = false := by rfl) : DE X ξ W (.Compare a [.In] [b] pos) (fOp (oInX false) fa fb) := d_cmp (op_inD hu) od_inX ha hb hm
theorem t_inX (hu : X.A.units + 65 < cLine) (ha : DE X ξ W a fa) (hb : DE X ξ W b fb) (hm : behindInMarks .In b = false := by rfl) : DT X ξ W (.Compare a [.In] [b] pos) (fTest (fOp (oInX false) fa fb)) := t_cmp (op_inD hu) od_inX ha hb hm
theorem d_ninX (hu : X.A.units + 65 < cLine) (ha : DE X ξ W a fa) (hb : DE X ξ W b fb) (hm : behindInMarks .NotIn b = false := by rfl) : DE X ξ W (.Compare a [.NotIn] [b] pos) (fOp (oInX true) fa fb) := d_cmp (op_notInD hu) od_ninX ha hb hm
theorem t_ninX (hu : X.A.units + 65 < cLine) (ha : DE X ξ W a fa) (hb : DE X ξ W b fb) (hm : behindInMarks .NotIn b = false := by rfl) : DT X ξ W (.Compare a [.NotIn] [b] pos) (fTest (fOp (oInX true) fa fb)) := t_cmp (op_notInD hu) od_ninX ha hb hm
end
end FC

set_option Elab.async false
set_option linter.all false
set_option maxRecDepth 100000
set_option maxHeartbeats 4000000
namespace FC
open PySem PySem.Spec L2
/-! ### dicts as data: keys -/
def keyD : Dv → Option Key
  | .int i => some (.inl i)
  | .str x => some (.inr x)
  | _ => none
def keysD : List Dv → Option (List Key)
  | [] => some []
  | d :: r => match keyD d, keysD r with
    | some k, some ks => some (k :: ks)
    | _, _ => none
/-- a key that is a row: not empty -/
def rowD : Dv → Option (List Key)
  | .tup (d :: r) => keysD (d :: r)
  | _ => none
section
variable {G : Gp} {w : Wd}
theorem keyD_ok {v : V} {d : Dv} {k : Key} (r : Rp G w v d) (h : keyD d = some k) : v = kV k := by
  cases r <;> first | (cases h; done) | skip
  · cases h; rfl
  · cases h; rfl
theorem keysD_ok : ∀ {ds : List Dv} {vs : List V} {ks : List Key}, RpAll G w vs ds → keysD ds = some ks → vs = ks.map kV
  | [], vs, ks, r, h => by cases r; cases h; rfl
  | d :: ds, vs, ks, r, h => by
    cases r with
    | cons r1 r2 =>
      unfold keysD at h
      cases e1 : keyD d with
      | none => rw [e1] at h; cases h
      | some k =>
        cases e2 : keysD ds with
        | none => rw [e1, e2] at h; cases h
        | some ks' =>
          rw [e1, e2] at h
          cases h
          rw [keyD_ok r1 e1, keysD_ok r2 e2]
          rfl
theorem rowD_ok {v : V} {d : Dv} {k : List Key} (r : Rp G w v d) (h : rowD d = some k) : ∃ b, v = .ref b ∧ w.H b = some (.tup (k.map kV)) := by
  cases r <;> first | (cases h; done) | skip
  rename_i a xs ds hs ra
  cases ds with
  | nil => cases h
  | cons d ds =>
    have e := keysD_ok ra h
    rcases hs with ⟨h1, _⟩ | ⟨h1, _⟩
    · exact ⟨a, rfl, by rw [← e]; exact h1⟩
    · subst h1
      cases ra
/-! ### .. and what stands at them -/
def valD {κ : Type} [DecidableEq κ] (kvs : List (κ × Dv)) (k : κ) : Option Dv := (kvs.find? fun kv => decide (kv.1 = k)).map (·.2)
def putD2 {κ : Type} [DecidableEq κ] (kvs : List (κ × Dv)) (k : κ) (d : Dv) : List (κ × Dv) :=
  if kvs.any (fun kv => decide (kv.1 = k)) = true then kvs.map fun kv => if kv.1 = k then (kv.1, d) else kv else kvs ++ [(k, d)]
/-- two rows of pairs, key by key -/
def KvR {κ : Type} (G : Gp) (w : Wd) (ps : List (κ × V)) (qs : List (κ × Dv)) : Prop := ps.map Prod.fst = qs.map Prod.fst ∧ RpAll G w (ps.map Prod.snd) (qs.map Prod.snd)
theorem KvR.nil {κ : Type} : KvR G w ([] : List (κ × V)) [] := ⟨rfl, .nil⟩
theorem KvR.cons_inv {κ : Type} {p : κ × V} {ps : List (κ × V)} {q : κ × Dv} {qs : List (κ × Dv)} (h : KvR G w (p :: ps) (q :: qs)) : p.1 = q.1 ∧ Rp G w p.2 q.2 ∧ KvR G w ps qs := by
  obtain ⟨h1, h2⟩ := h
  simp only [List.map_cons] at h1 h2
  cases h2 with
  | cons r1 r2 => exact ⟨(List.cons.inj h1).1, r1, (List.cons.inj h1).2, r2⟩
theorem KvR.len {κ : Type} : ∀ {ps : List (κ × V)} {qs : List (κ × Dv)}, KvR G w ps qs → ps.length = qs.length := fun h => by
  have := congrArg List.length h.1
  simpa using this
theorem KvR.ind {κ : Type} {P : List (κ × V) → List (κ × Dv) → Prop} (h0 : P [] []) (h1 : ∀ k v d ps qs, Rp G w v d → KvR G w ps qs → P ps qs → P ((k, v) :: ps) ((k, d) :: qs)) : ∀ {ps : List (κ × V)} {qs : List (κ × Dv)}, KvR G w ps qs → P ps qs
  | [], [], _ => h0
  | [], _ :: _, h => by cases h.1
  | _ :: _, [], h => by cases h.1
  | (k, v) :: ps, (k', d) :: qs, h => by
    obtain ⟨e, r, t⟩ := h.cons_inv
    have e' : k = k' := e
    subst e'
    exact h1 k v d ps qs r t (KvR.ind h0 h1 t)
theorem KvR.cons {κ : Type} {k : κ} {v : V} {d : Dv} {ps : List (κ × V)} {qs : List (κ × Dv)} (r : Rp G w v d) (t : KvR G w ps qs) : KvR G w ((k, v) :: ps) ((k, d) :: qs) := ⟨by simp [t.1], .cons r t.2⟩
theorem KvR.app {κ : Type} {ps ps' : List (κ × V)} {qs qs' : List (κ × Dv)} (h : KvR G w ps qs) (h' : KvR G w ps' qs') : KvR G w (ps ++ ps') (qs ++ qs') := ⟨by simp [h.1, h'.1], by simp only [List.map_append]; exact h.2.append h'.2⟩
theorem KvR.mono {κ : Type} {w' : Wd} (e : Ext w w') {ps : List (κ × V)} {qs : List (κ × Dv)} (h : KvR G w ps qs) : KvR G w' ps qs := ⟨h.1, h.2.mono e⟩
section
variable {κ : Type} [DecidableEq κ]
theorem KvR.val {ps : List (κ × V)} {qs : List (κ × Dv)} (h : KvR G w ps qs) (k : κ) : (∃ v d, valV ps k = some v ∧ valD qs k = some d ∧ Rp G w v d) ∨ (valV ps k = none ∧ valD qs k = none) :=
  KvR.ind (P := fun ps qs => (∃ v d, valV ps k = some v ∧ valD qs k = some d ∧ Rp G w v d) ∨ (valV ps k = none ∧ valD qs k = none)) (.inr ⟨rfl, rfl⟩) (fun k' v d ps qs r t ih => by
    by_cases z : k' = k
    · refine .inl ⟨v, d, ?_, ?_, r⟩
      · simp [valV, z]
      · simp [valD, z]
    · have e1 : valV ((k', v) :: ps) k = valV ps k := by simp [valV, z]
      have e2 : valD ((k', d) :: qs) k = valD qs k := by simp [valD, z]
      rw [e1, e2]
      exact ih) h
theorem KvR.any {ps : List (κ × V)} {qs : List (κ × Dv)} (h : KvR G w ps qs) (k : κ) : (ps.any fun kv => decide (kv.1 = k)) = qs.any fun kv => decide (kv.1 = k) :=
  KvR.ind (P := fun ps qs => (ps.any fun kv => decide (kv.1 = k)) = qs.any fun kv => decide (kv.1 = k)) rfl (fun k' v d ps qs r t ih => by simp only [List.any_cons, ih]) h
theorem KvR.put {ps : List (κ × V)} {qs : List (κ × Dv)} (h : KvR G w ps qs) (k : κ) {v : V} {d : Dv} (r : Rp G w v d) : KvR G w (putK ps k v) (putD2 qs k d) := by
  unfold putK putD2
  rw [h.any k]
  by_cases z : (qs.any fun kv => decide (kv.1 = k)) = true
  · rw [if_pos z, if_pos z]
    refine KvR.ind (P := fun ps qs => KvR G w (ps.map fun kv => if kv.1 = k then (kv.1, v) else kv) (qs.map fun kv => if kv.1 = k then (kv.1, d) else kv)) .nil (fun k' v' d' ps qs r' t ih => ?_) h
    simp only [List.map_cons]
    by_cases y : k' = k
    · rw [if_pos y, if_pos y]; exact ih.cons r
    · rw [if_neg y, if_neg y]; exact ih.cons r'
  · rw [if_neg z, if_neg z]
    exact h.app (.cons r .nil)
theorem putD2_len (qs : List (κ × Dv)) (k : κ) (d : Dv) : (putD2 qs k d).length ≤ qs.length + 1 := by
  unfold putD2
  split
  · simp
  · simp
end
/-- what is a dict, and what it holds at a key -/
def dLook (o k : Dv) (S : Store) : Option (Option Dv) := match o with
  | .dic kvs => (keyD k).map (valD kvs)
  | .dit kvs => (rowD k).map (valD kvs)
  | .obj n => match S[n]? with
    | some (.dic kvs) => (keyD k).map (valD kvs)
    | some (.dit kvs) => (rowD k).map (valD kvs)
    | _ => none
  | _ => none
theorem dlk_t {a : Addr} {kvs' : List (List Key × V)} {kvs : List (List Key × Dv)} {v : V} {d : Dv} {r : Option Dv} (ha : Rd w.H a (.dT kvs')) (t : KvR G w kvs' kvs) (rk : Rp G w v d) (h : (rowD d).map (valD kvs) = some r) :
    ∃ o, DGet w.H a v o ∧ ((∃ x y, o = some x ∧ r = some y ∧ Rp G w x y) ∨ (o = none ∧ r = none)) := by
  cases e : rowD d with
  | none => rw [e] at h; cases h
  | some k =>
    rw [e] at h
    cases h
    obtain ⟨b, rfl, hb⟩ := rowD_ok rk e
    refine ⟨valV kvs' k, .inr ⟨kvs', k, b, ha, rfl, hb, rfl⟩, ?_⟩
    rcases t.val k with ⟨x, y, h1, h2, h3⟩ | ⟨h1, h2⟩
    · exact .inl ⟨x, y, h1, h2, h3⟩
    · exact .inr ⟨h1, h2⟩
theorem dlk_k {a : Addr} {kvs' : List (Key × V)} {kvs : List (Key × Dv)} {v : V} {d : Dv} {r : Option Dv} (ha : Rd w.H a (.dK kvs')) (t : KvR G w kvs' kvs) (rk : Rp G w v d) (h : (keyD d).map (valD kvs) = some r) :
    ∃ o, DGet w.H a v o ∧ ((∃ x y, o = some x ∧ r = some y ∧ Rp G w x y) ∨ (o = none ∧ r = none)) := by
  cases e : keyD d with
  | none => rw [e] at h; cases h
  | some k =>
    rw [e] at h
    cases h
    refine ⟨valV kvs' k, .inl ⟨kvs', k, ha, keyD_ok rk e, rfl⟩, ?_⟩
    rcases t.val k with ⟨x, y, h1, h2, h3⟩ | ⟨h1, h2⟩
    · exact .inl ⟨x, y, h1, h2, h3⟩
    · exact .inr ⟨h1, h2⟩
theorem dlk_ok {S : Store} {o k : Dv} {x v : V} {r : Option Dv} (s : SOk G w S) (ro : Rp G w x o) (rk : Rp G w v k) (h : dLook o k S = some r) :
    ∃ a u, x = .ref a ∧ DGet w.H a v u ∧ ((∃ y z, u = some y ∧ r = some z ∧ Rp G w y z) ∨ (u = none ∧ r = none)) := by
  cases ro <;> first | (cases h; done) | skip
  · rename_i a n ha
    unfold dLook at h
    cases e : S[n]? with
    | none => simp only [e] at h; cases h
    | some d =>
      simp only [e] at h
      have m := s.cont n a d ha e
      cases d <;> first | (cases h; done) | skip
      · obtain ⟨kvs', h1, h2, h3⟩ := m
        obtain ⟨u, g1, g2⟩ := dlk_k (.inl h1) ⟨h2, h3⟩ rk h
        exact ⟨a, u, rfl, g1, g2⟩
      · obtain ⟨kvs', h1, h2, h3⟩ := m
        obtain ⟨u, g1, g2⟩ := dlk_t (.inl h1) ⟨h2, h3⟩ rk h
        exact ⟨a, u, rfl, g1, g2⟩
  · rename_i a kvs' kvs ha _ hk hr
    obtain ⟨u, g1, g2⟩ := dlk_k ha ⟨hk, hr⟩ rk h
    exact ⟨a, u, rfl, g1, g2⟩
  · rename_i a kvs' kvs ha _ hk hr
    obtain ⟨u, g1, g2⟩ := dlk_t ha ⟨hk, hr⟩ rk h
    exact ⟨a, u, rfl, g1, g2⟩
/-- is it a dict? -/
def isDct (o : Dv) (S : Store) : Bool := match o with
  | .dic _ => true
  | .dit _ => true
  | .obj n => match S[n]? with
    | some (.dic _) => true
    | some (.dit _) => true
    | _ => false
  | _ => false
theorem isDct_ok {S : Store} {o : Dv} {x : V} (s : SOk G w S) (ro : Rp G w x o) (h : isDct o S = true) : ∃ a, x = .ref a ∧ IsD w.H a := by
  cases ro <;> first | (cases h; done) | skip
  · rename_i a n ha
    unfold isDct at h
    cases e : S[n]? with
    | none => simp only [e] at h; cases h
    | some d =>
      simp only [e] at h
      have m := s.cont n a d ha e
      cases d <;> first | (cases h; done) | skip
      · obtain ⟨kvs', h1, _⟩ := m; exact ⟨a, rfl, .inl ⟨kvs', .inl h1⟩⟩
      · obtain ⟨kvs', h1, _⟩ := m; exact ⟨a, rfl, .inr ⟨kvs', .inl h1⟩⟩
  · rename_i a kvs' kvs ha _ hk hr; exact ⟨a, rfl, .inl ⟨kvs', ha⟩⟩
  · rename_i a kvs' kvs ha _ hk hr; exact ⟨a, rfl, .inr ⟨kvs', ha⟩⟩
end
/-! ### d[k], d.get(k), d.get(k, x), k in d -/
@[simp] def oDget : DOp := fun o k S => match dLook o k S with
  | some (some d) => some (.ok d S)
  | _ => none
@[simp] def oDin (neg : Bool) : DOp := fun k o S => match dLook o k S with
  | some r => some (.ok (.bl (if neg = true then !r.isSome else r.isSome)) S)
  | none => none
@[simp] def fDget1 (fo fk : FE) : FE := fun env => bnd (fo env) fun o S => if isDct o S = true then bnd (fk env) (fun k S => match dLook o k S with
  | some r => some (.ok (r.getD .non) S)
  | none => none) S else none
@[simp] def fDget2 (fo fk fx : FE) : FE := fun env => bnd (fo env) fun o S => if isDct o S = true then bnd (fk env) (fun k => bnd (fx env) fun x S => match dLook o k S with
  | some r => some (.ok (r.getD x) S)
  | none => none) S else none
section
variable {X : Cx} {ξ : Iv} {W : WX} {o i e f : Expr} {fo fi fx : FE} {pos apos cpos : Pos}
theorem d_dget (hu : X.A.units + 64 < cLine) (ho : DE X ξ W o fo) (hi : DE X ξ W i fi) (hs : NoSl i := by intro _ _; rfl) : DE X ξ W (.Subscript o i pos) (fOp oDget fo fi) :=
  PE.imp (pe_dget (by omega) ho hi hs) fun σ H Q ⟨w, env, S, res, eH, s, en, h, p⟩ => by
    subst eH
    refine seqR s en h p.px fun x S1 v w1 e1 s1 en1 r1 h1 => seqR s1 en1 h1 (p.px.mono e1 s1) fun k S2 u w2 e2 s2 en2 r2 h2 => ?_
    unfold oDget at h2
    cases hl : dLook x k S2 with
    | none => rw [hl] at h2; cases h2
    | some r =>
      rw [hl] at h2
      cases r with
      | none => cases h2
      | some d =>
        cases h2
        obtain ⟨a, y, ha, g, hy⟩ := dlk_ok s2 (r1.mono e2) r2 hl
        rcases hy with ⟨y', z, rfl, hz, rp⟩ | ⟨_, hz⟩
        · cases hz
          exact ⟨a, y', ha, g, p.ok_ (e1.trans e2) s2 rp⟩
        · cases hz
theorem d_dget1 (hu : X.A.units + 64 < cLine) (ho : DE X ξ W o fo) (hi : DE X ξ W e fi) (m : M1 X o "get" apos e cpos := by exact ⟨by rfl, by rfl, by rfl, by rfl⟩) : DE X ξ W (.Call (.Attribute o "get" apos) [e] [] cpos) (fDget1 fo fi) :=
  PE.imp (pe_dget1 (by omega) ho hi m) fun σ H Q ⟨w, env, S, res, eH, s, en, h, p⟩ => by
    subst eH
    refine seqR s en h p.px fun x S1 v w1 e1 s1 en1 r1 h1 => ?_
    by_cases z : isDct x S1 = true
    · rw [if_pos z] at h1
      obtain ⟨a, rfl, hd⟩ := isDct_ok s1 r1 z
      refine ⟨a, rfl, hd, seqR s1 en1 h1 (p.px.mono e1 s1) fun k S2 u w2 e2 s2 en2 r2 h2 => ?_⟩
      cases hl : dLook x k S2 with
      | none => rw [hl] at h2; cases h2
      | some r =>
        rw [hl] at h2
        cases h2
        obtain ⟨a', y, ha, g, hy⟩ := dlk_ok s2 (r1.mono e2) r2 hl
        cases ha
        refine ⟨y, g, ?_⟩
        rcases hy with ⟨y', z', rfl, rfl, rp⟩ | ⟨rfl, rfl⟩
        · exact p.ok_ (e1.trans e2) s2 rp
        · exact p.ok_ (e1.trans e2) s2 .non
    · rw [if_neg z] at h1; cases h1
theorem d_dget2 (hu : X.A.units + 64 < cLine) (ho : DE X ξ W o fo) (hi : DE X ξ W e fi) (hx : DE X ξ W f fx) (m : M2 X o "get" apos e f cpos := by exact ⟨by rfl, by rfl, by rfl, by rfl⟩) : DE X ξ W (.Call (.Attribute o "get" apos) [e, f] [] cpos) (fDget2 fo fi fx) :=
  PE.imp (pe_dget2 (by omega) ho hi hx m) fun σ H Q ⟨w, env, S, res, eH, s, en, h, p⟩ => by
    subst eH
    refine seqR s en h p.px fun x S1 v w1 e1 s1 en1 r1 h1 => ?_
    by_cases z : isDct x S1 = true
    · rw [if_pos z] at h1
      obtain ⟨a, rfl, hd⟩ := isDct_ok s1 r1 z
      refine ⟨a, rfl, hd, seqR s1 en1 h1 (p.px.mono e1 s1) fun k S2 u w2 e2 s2 en2 r2 h2 => seqR s2 en2 h2 ((p.px.mono e1 s1).mono e2 s2) fun y S3 t w3 e3 s3 en3 r3 h3 => ?_⟩
      cases hl : dLook x k S3 with
      | none => rw [hl] at h3; cases h3
      | some r =>
        rw [hl] at h3
        cases h3
        obtain ⟨a', q, ha, g, hy⟩ := dlk_ok s3 ((r1.mono e2).mono e3) (r2.mono e3) hl
        cases ha
        refine ⟨q, g, ?_⟩
        rcases hy with ⟨y', z', rfl, rfl, rp⟩ | ⟨rfl, rfl⟩
        · exact p.ok_ ((e1.trans e2).trans e3) s3 rp
        · exact p.ok_ ((e1.trans e2).trans e3) s3 r3
    · rw [if_neg z] at h1; cases h1
end
end FC

set_option Elab.async false
set_option linter.all false
set_option maxRecDepth 100000
set_option maxHeartbeats 4000000
namespace FC
open PySem PySem.Spec L2
/-! ### a new dict -/
@[simp] def newD (t m : Bool) : Mm Dv := fun S => match t, m with
  | true, false => some (.ok (.dit []) S)
  | true, true => some (.ok (.obj S.length) (S ++ [.dit []]))
  | false, false => some (.ok (.dic []) S)
  | false, true => some (.ok (.obj S.length) (S ++ [.dic []]))
@[simp] def fDnew (t m : Bool) : FE := fun _ => newD t m
section
variable {X : Cx} {ξ : Iv} {W : WX} {G : Gp} {w : Wd}
theorem Rp.new_dit {S : Store} {p : Addr} (h : SOk G w S) (hp : w.H p = none) {ps : List (List Key × V)} {qs : List (List Key × Dv)} (t : KvR G w ps qs) : Rp G (w.put p (.dT ps)) (.ref p) (.dit qs) :=
  .dit (.inl upd_same) (h.fresh hp) t.1 (t.2.mono (.put hp))
theorem Rp.new_dic {S : Store} {p : Addr} (h : SOk G w S) (hp : w.H p = none) {ps : List (Key × V)} {qs : List (Key × Dv)} (t : KvR G w ps qs) : Rp G (w.put p (.dK ps)) (.ref p) (.dic qs) :=
  .dic (.inl upd_same) (h.fresh hp) t.1 (t.2.mono (.put hp))
theorem d_dnewT (m : Bool) {pos : Pos} : DE X ξ W (.Dict [] [] pos) (fDnew true m) := PE.imp pe_dnewT fun σ H Q ⟨w, env, S, res, eH, s, en, h, p⟩ => fun q hq => by
  subst eH
  cases m with
  | false => cases h; exact p.ok_ (.put hq) (s.put hq) (Rp.new_dit s hq .nil)
  | true => cases h; exact p.ok_ (w' := w.add q (.dT [])) (.add hq) (s.add hq ⟨[], upd_same, rfl, .nil⟩) (Rp.add_obj s)
theorem d_dnewK (m : Bool) {pos : Pos} : DE X ξ W (.Dict [] [] pos) (fDnew false m) := PE.imp pe_dnewK fun σ H Q ⟨w, env, S, res, eH, s, en, h, p⟩ => fun q hq => by
  subst eH
  cases m with
  | false => cases h; exact p.ok_ (.put hq) (s.put hq) (Rp.new_dic s hq .nil)
  | true => cases h; exact p.ok_ (w' := w.add q (.dK [])) (.add hq) (s.add hq ⟨[], upd_same, rfl, .nil⟩) (Rp.add_obj s)
/-! ### d[k] = v -/
@[simp] def setD (o k v : Dv) (S : Store) : Option Store := match o with
  | .obj n => match S[n]? with
    | some (.dit kvs) => (match rowD k with
      | some ks => if kvs.length ≤ big then some (S.set n (.dit (putD2 kvs ks v))) else none
      | none => none)
    | some (.dic kvs) => (match keyD k with
      | some ks => if kvs.length ≤ big then some (S.set n (.dic (putD2 kvs ks v))) else none
      | none => none)
    | _ => none
  | _ => none
def sDput (fo fk fe : FE) : FS := sBnd fe fun v => sBnd fo fun o => sBnd fk fun k => fun env S => match setD o k v S with
  | some S' => some (.nx env S')
  | none => none
theorem s_dput {o i e : Expr} {fo fi fe : FE} {pos pos' : Pos} (hu : X.A.units + 64 < cLine) (he : DE X ξ W e fe) (ho : DE X ξ W o fo) (hi : DE X ξ W i fi) (hs : swapsWith e (some (.Subscript o i pos')) pos.line X.env = pure false := by rfl) :
    DS X ξ W (.Assign [.Subscript o i pos'] e pos) (sDput fo fi fe) := PS.imp (ps_dput (by omega) ho hi he hs) fun D σ H ⟨w, env, S, r, eH, s, en, h, p⟩ => by
  subst eH
  refine seqS s en h p.px fun d S1 v w1 e1 s1 en1 r1 h1 => seqS s1 en1 h1 (p.mono e1).px fun o S2 ov w2 e2 s2 en2 r2 h2 => seqS s2 en2 h2 (p.mono (e1.trans e2)).px fun i S3 iv w3 e3 s3 en3 r3 h3 => ?_
  cases q : setD o i d S3 with
  | none => rw [q] at h3; cases h3
  | some S4 =>
    rw [q] at h3
    cases h3
    cases o <;> first | (cases q; done) | skip
    rename_i n
    cases r2.mono e3 with
    | obj ha =>
      rename_i a
      unfold setD at q
      cases hS : S3[n]? with
      | none => simp only [hS] at q; cases q
      | some dd =>
        simp only [hS] at q
        have m := s3.cont n a _ ha hS
        cases dd <;> first | (cases q; done) | skip
        · rename_i kvs
          simp only at q
          cases ek : keyD i with
          | none => rw [ek] at q; cases q
          | some ks =>
            rw [ek] at q
            simp only at q
            by_cases z : kvs.length ≤ big
            · rw [if_pos z] at q
              cases q
              obtain ⟨kvs', hx, h2, h4⟩ := m
              have t : KvR (gp X) w3 kvs' kvs := ⟨h2, h4⟩
              have e4 : Ext w3 (w3.put a (.dK (putK kvs' ks v))) := .upd ha
              have t4 := (t.mono e4).put ks ((((r1.mono e2).mono e3).mono e4))
              exact ⟨a, upd w3.H a (.dK (putK kvs' ks v)), rfl, .inl ⟨kvs', ks, hx, keyD_ok r3 ek, by rw [t.len]; exact Nat.lt_of_le_of_lt z (by rw [sizeLine_eq]; decide), rfl⟩,
                p σ (w3.put a (.dK (putK kvs' ks v))) (((e1.trans e2).trans e3).trans e4) (s3.upd ha ⟨_, upd_same, t4.1, t4.2⟩) (en3.mono e4)⟩
            · rw [if_neg z] at q; cases q
        · rename_i kvs
          simp only at q
          cases ek : rowD i with
          | none => rw [ek] at q; cases q
          | some ks =>
            rw [ek] at q
            simp only at q
            by_cases z : kvs.length ≤ big
            · rw [if_pos z] at q
              cases q
              obtain ⟨kvs', hx, h2, h4⟩ := m
              have t : KvR (gp X) w3 kvs' kvs := ⟨h2, h4⟩
              have e4 : Ext w3 (w3.put a (.dT (putK kvs' ks v))) := .upd ha
              have t4 := (t.mono e4).put ks ((((r1.mono e2).mono e3).mono e4))
              obtain ⟨b, rfl, hb⟩ := rowD_ok r3 ek
              exact ⟨a, upd w3.H a (.dT (putK kvs' ks v)), rfl, .inr ⟨kvs', ks, b, hx, rfl, hb, by rw [t.len]; exact Nat.lt_of_le_of_lt z (by rw [sizeLine_eq]; decide), rfl⟩,
                p σ (w3.put a (.dT (putK kvs' ks v))) (((e1.trans e2).trans e3).trans e4) (s3.upd ha ⟨_, upd_same, t4.1, t4.2⟩) (en3.mono e4)⟩
            · rw [if_neg z] at q; cases q
/-! ### len(d) -/
@[simp] def oLenD : DCl := fun ds S => match ds with
  | [.dit kvs] => some (.ok (.int (kvs.length : Nat)) S)
  | [.obj n] => match S[n]? with
    | some (.dit kvs) => some (.ok (.int (kvs.length : Nat)) S)
    | _ => none
  | _ => none
def rLenD : List V → Hp → VK → Prop := fun xs H Q => ∃ (p : Addr) (kvs : List (List Key × V)), xs = [.ref p] ∧ Rd H p (.dT kvs) ∧ Q (.int ((kvs.length : Nat) : Int)) H
theorem call_lenD : CallR X (.builtin "len") rLenD := by
  intro pins s σ H xs us Q I r h
  obtain ⟨p, kvs, rfl, hp, q⟩ := h
  obtain ⟨u, rfl, rx⟩ := vals1 r
  obtain rfl : u = .ref p := rx
  obtain ⟨z, hd, ys, rel, dd⟩ := dt_rd I.hok hp
  have hl := Paired.length rel
  refine call_len_dictH hd dd (by rw [← hl]; rw [sizeLine_eq] at z; omega) ⟨.int ((kvs.length : Nat) : Int), H, I.tok _, ⟨_, by rw [hl]⟩, q⟩
theorem cd_lenD : CallD G (fun xs H Q => rLenD xs H Q) oLenD := by
  intro W w σ S xs ds res Q s r h p
  unfold oLenD at h
  split at h
  · cases h
    obtain ⟨v, rfl, hv⟩ := rp1 r
    cases hv with
    | dit ha _ hk hr =>
      rename_i kvs _ _
      refine ⟨_, _, rfl, ha, ?_⟩
      have := KvR.len (G := G) (w := w) ⟨hk, hr⟩
      rw [this]
      exact p.here s (.int _)
  · rename_i n
    obtain ⟨v, rfl, hv⟩ := rp1 r
    cases hv with
    | @obj a _ ha =>
      cases e : S[n]? with
      | none => rw [e] at h; cases h
      | some d =>
        rw [e] at h
        cases d <;> first | (cases h; done) | skip
        cases h
        obtain ⟨kvs', h1, h2, h3⟩ := s.cont n a _ ha e
        refine ⟨a, kvs', rfl, .inl h1, ?_⟩
        have := KvR.len (G := G) (w := w) ⟨h2, h3⟩
        rw [this]
        exact p.here s (.int _)
  · cases h
end
end FC

set_option Elab.async false
set_option linter.all false
set_option maxRecDepth 100000
set_option maxHeartbeats 4000000
namespace FC
open PySem PySem.Spec L2 PyProof.Rows
/-! ### {k: v for ..} whose keys are rows: on the machine -/
/-- what is asked of one more pair -/
def Pair1 (D : Addr) (Nx : Hp → Prop) (y z : V) (H : Hp) : Prop := ∃ (kvs : List (List Key × V)) (k : List Key) (c : Addr), y = .ref c ∧ H c = some (.tup (k.map kV)) ∧ H D = some (.dT kvs) ∧ kvs.length < sizeLine ∧ Nx (upd H D (.dT (putK kvs k z)))
/-- what is asked of one turn -/
def Turn1 (g : TG) (tt : TT) (tk tv : TE) (vs : List Nat) (σ : L2.St) (D : Addr) (Nx : Hp → Prop) (x : V) (H : Hp) : Prop :=
  g x (wipe σ vs) H fun σ' H' => wipe σ' vs = wipe σ vs ∧ tt σ' H' fun b H'' => if b = true then tk σ' H'' fun y Hy => tv σ' Hy fun z Hz => Pair1 D Nx y z Hz else Nx H''
def tDcT (wi : TI) (g : TG) (tt : TT) (tk tv : TE) (vs : List Nat) : TE := fun σ H Q => wi σ H fun J H1 => ∀ D, H1 D = none → ∃ R : Nat → Nat → Hp → Prop, (∃ m, R 0 m (upd H1 D (.dT []))) ∧
  ∀ i m H2, R i m H2 → (J.stop i H2 ∧ Q (.ref D) H2) ∨ (J.go i H2 ∧ ∃ Nx : Hp → Prop, (∀ H3, Nx H3 → ∃ m', m' < m ∧ R (i + 1) m' H3) ∧ ∀ x H3, J.yld i H2 x H3 → Turn1 g tt tk tv vs σ D Nx x H3)
theorem put_row {X : Cx} {pins : List (Addr × Obj)} {σ : L2.St} {H : Hp} {s : Shared} {E : Value → Shared → Prop} {D c : Addr} {kvs : List (List Key × V)} {k : List Key} {v : V} {r : Value} {Q : Unit → Shared → Prop} (hu : X.A.units < cLine) (I : Inv X pins σ H s) (hD : H D = some (.dT kvs)) (hz : kvs.length < sizeLine)
    (hc : H c = some (.tup (k.map kV))) (rv : RelV v r) (h : ∀ s', Inv X pins σ (upd H D (.dT (putK kvs k v))) s' → Q () s') : wpAny (model X.prog X.w) X.A (dictSet D (.ref c) r) Q E s := by
  have ⟨z, hd, xs, rel, dd⟩ := dt_of I.hok hD
  have z1 : xs.length ≤ sizeLine := Paired.length rel ▸ z
  have z2 : (putK kvs k v).length ≤ sizeLine := Nat.le_trans (length_putK kvs k v) hz
  exact wpAny_dictSet_heap (hsz := z1) (show (tupleKind (mixKind X.prog X.w)).room X.A from hu) (key_of I.hok hc) dd fun hp ⟨q, es, ep, y1, y2, y3, y4, _, y5⟩ same => h _
    (d_write I (hD ▸ True.intro) same ⟨q, y1⟩ ⟨z2, hd, storedH xs k c r, (rel.put k hc rv).keeps fun c' ys ec => (upd_ne (ne_of ec hD (fun t => nomatch t))).trans ec, q, es, ep, y1, y2, y3, y4, y5⟩)
section
variable {X : Cx}
theorem pe_dcT {kx vx tg iter : Expr} {ifs : List Expr} {scope : Scope} {own : List (Str × Nat)} {pos : Pos} {wi : TI} {g : TG} {tt : TT} {tk tv : TE} (hu : X.A.units < cLine) (hc : X.calm = true) (hN : X.N.Nodup) (hi : PI X tg iter wi) (ok : BlkOk X.N X.env.scope scope own)
    (hg : ∀ (t : Shared) (K : Hp) (C : Addr) (cl : List (Str × Addr)) (fp : List Addr), PG (X.blk t K scope (compEnvC scope cl C X.env) fp) tg g)
    (ht : ∀ (t : Shared) (K : Hp) (C : Addr) (cl : List (Str × Addr)) (fp : List Addr), PTs (X.blk t K scope (compEnvC scope cl C X.env) fp) ifs tt)
    (hk : ∀ (t : Shared) (K : Hp) (C : Addr) (cl : List (Str × Addr)) (fp : List Addr), PE (X.blk t K scope (compEnvC scope cl C X.env) fp) kx tk)
    (hv : ∀ (t : Shared) (K : Hp) (C : Addr) (cl : List (Str × Addr)) (fp : List Addr), PE (X.blk t K scope (compEnvC scope cl C X.env) fp) vx tv)
    (hs : ∀ x, foldedSetIterable iter X.env x = pure x := by intro _; rfl) : PE X (.DictComp kx vx [⟨tg, iter, ifs, 0⟩] scope pos) (tDcT wi g tt tk tv (own.map (·.2))) := by
  refine ⟨fun pins s0 σ H0 Q I0 h0 => ?_⟩
  rw [arm_eval_DictComp]
  have frees : ∀ y ∈ scope.names, y.2 = .free → ∃ c, X.env.cells.lookup y.1 = some c := fun y hy e => (ok.free y hy e).elim (fun k => I0.ok.has _ (.inl k)) (fun k => I0.ok.has _ (.inr k))
  refine wpAny_comprehension_free (use := none) rfl hs (closure_ok frees) ok.kind (fun y hy e => (ok.uniq y hy).trans (by rw [e]))
    (thn (hi.run pins s0 σ H0 _ I0 h0) fun _ _ hx => thn hx fun _ s2 ⟨it, fp, tn, J, H2, eit, I2, T, t2, f2, rest⟩ => ?_)
  subst eit
  refine wpAny_newObj_type (newEnv_comp ?_)
  generalize eD : s2.heap.objs.size = D
  obtain ⟨R, ⟨m0, r0⟩, turns⟩ := rest D (I2.hok.fresh (Nat.le_of_eq eD))
  generalize e3 : ({ s2 with heap := s2.heap.push { cls := .type "dict", data := .dict #[] } } : Shared) = s3
  have p3 : s3.heap = s2.heap.push { cls := .type "dict", data := .dict #[] } := e3 ▸ rfl
  have I3 : Inv X pins σ (upd H2 D (.dT [])) s3 := by
    subst e3
    exact I2.laid (t' := s2.toks) (fun _ _ e => Heap.get?_push_of_some _ e) (Nat.le_of_eq eD) (eD ▸ dt_empty s2.heap I2.big)
  have lt2 : ∀ b ∈ fp, b < s2.heap.objs.size := fun b hb => (T.obj _ _ t2 b hb).elim fun _ e => Heap.lt_size e.1
  have f3 : ∀ b ∈ fp, FpOk X pins (upd H2 D (.dT [])) b ∧ b < s3.heap.objs.size := fun b hb =>
    ⟨⟨(upd_ne (fun e => Nat.lt_irrefl _ (Nat.lt_of_lt_of_eq (lt2 b hb) (eD.trans e.symm)))).trans (f2 b hb).1, (f2 b hb).2⟩, by rw [p3, Heap.size_push]; exact Nat.lt_succ_of_lt (lt2 b hb)⟩
  have t3 : tn 0 s3.heap := T.keep _ _ _ t2 fun _ _ _ e => p3 ▸ Heap.get?_push_of_some _ e
  have I4 := block_start I3 ok hN f3
  have qg := hg s3 (upd H2 D (.dT [])) s3.heap.objs.size (cellsFrom (s3.heap.objs.size + 1) scope.names (cloFrom X.env.cells scope.names [])) fp
  have qt := ht s3 (upd H2 D (.dT [])) s3.heap.objs.size (cellsFrom (s3.heap.objs.size + 1) scope.names (cloFrom X.env.cells scope.names [])) fp
  have qk := hk s3 (upd H2 D (.dT [])) s3.heap.objs.size (cellsFrom (s3.heap.objs.size + 1) scope.names (cloFrom X.env.cells scope.names [])) fp
  have qv := hv s3 (upd H2 D (.dT [])) s3.heap.objs.size (cellsFrom (s3.heap.objs.size + 1) scope.names (cloFrom X.env.cells scope.names [])) fp
  show codeAny _ _ (.compStart (.DictComp kx vx [⟨tg, iter, ifs, 0⟩] scope pos) 0 (.ref it) (.ref D) (compEnvC scope (cellsFrom (s3.heap.objs.size + 1) scope.names (cloFrom X.env.cells scope.names [])) s3.heap.objs.size X.env))
    (compPost (model X.prog X.w) X.A X.xe none (fun v s => ∃ x H', Inv X pins σ H' s ∧ RelV x v ∧ Q x H') (.ref D) s3.heap.objs.size) { s3 with heap := pushCells (s3.heap.push { cls := .type "dict", data := .dict #[] }) scope.names }
  have nf : ∀ b ∈ fp, (upd H2 D (.dT [])) b = none := fun b hb => (f3 b hb).1.1
  generalize eE : compEnvC scope (cellsFrom (s3.heap.objs.size + 1) scope.names (cloFrom X.env.cells scope.names [])) s3.heap.objs.size X.env = ce at I4 qg qt qk qv ⊢
  have eL : ce.locals = s3.heap.objs.size := eE ▸ rfl
  generalize eH : upd H2 D (.dT []) = H3 at I3 I4 qg qt qk qv r0 nf f3
  generalize e4 : ({ s3 with heap := pushCells (s3.heap.push { cls := .type "dict", data := .dict #[] }) scope.names } : Shared) = s4 at I4 ⊢
  have t4 : tn 0 s4.heap := T.keep _ _ _ t3 fun _ _ _ e => e4 ▸ pushCells_keeps _ _ _ _ (Heap.get?_push_of_some _ e)
  have out : ∀ {σ' : L2.St} {H' : Hp} {s' : Shared}, Inv (X.blk s3 H3 scope ce fp) [] σ' H' s' → (∀ b ∈ fp, H' b = none) → ∀ b ∈ fp, FpOk (X.blk s3 H3 scope ce fp) [] H' b := fun {σ' H' s'} I' no b hb =>
    ⟨no b hb, (I'.ok.exf b hb).1, I'.ok.exfs b hb, .inl hb, fun y d e => (I'.ok.exf b hb).2 y d e, fun q hq => by simp at hq⟩
  let Keep : Nat → Shared → Prop := fun n t => ∃ i H', Inv (X.blk s3 H3 scope ce fp) [] (wipe σ (own.map (·.2))) H' t ∧ tn i t.heap ∧ (∀ b ∈ fp, H' b = none) ∧ R i n H'
  refine codeAny_compStart_dict ?loop (T.self X.A 0 _ _ _ t4 ?loop)
  refine compLoop_anyD Keep (fun n s5 ⟨i, H5, I5, t5, n5, r5⟩ => ?_) m0 ⟨0, H3, I4, t4, nf, r0⟩
  rcases turns i n H5 r5 with ⟨halt, fin⟩ | ⟨go, Nx, later, one⟩
  · refine thnF (T.done (X.blk s3 H3 scope ce fp) rfl rfl rfl hc i [] s5 _ H5 (fun _ _ => False) I5 (out I5 n5) t5 halt) fun _ s6 ⟨er, I6⟩ => ?_
    subst er
    have J6 : Inv X pins σ H5 s6 := I3.call' (ch := fp) I6.os I6.base I6.hok I6.bare fun b hb => ⟨(f3 b hb).1.2.2.2.1, (f3 b hb).1.2.1, (f3 b hb).1.2.2.2.2.1, (f3 b hb).1.2.2.2.2.2⟩
    have vac : H5 s3.heap.objs.size = none := eL ▸ (show H5 ce.locals = none from I6.free)
    obtain ⟨m, hn, _⟩ := I6.loc
    obtain ⟨y0, y1, y2, y3, y4, y5⟩ := I3.fpOk (Nat.le_refl _) vac
    exact ⟨m, eL ▸ (show s6.heap.Ns ce.locals m from hn), fun h'' sb => ⟨.ref D, H5, J6.turned (t' := s6.toks) (fun b o hb e => (sb.2 b hb).trans e) y0 y1 y3 y4 y5, rfl, fin⟩⟩
  · refine thnF (T.item (X.blk s3 H3 scope ce fp) rfl rfl rfl hc i [] s5 _ H5 (fun _ _ => False) I5 (out I5 n5) t5 go) fun _ s6 ⟨_, er, h6⟩ => ?_
    subst er
    refine thnF h6 fun _ s7 ⟨x, H7, I7, r7, y7, t7, n7⟩ => ?_
    have P7 := I7.pinned (out I7 n7) (T.obj _ _ t7)
    refine thnF (qg.run _ s7 _ H7 x _ _ P7 r7 (one x H7 y7)) fun _ s8 ⟨σ8, H8, I8, w8, q8⟩ => thnF (qt.run _ s8 σ8 H8 _ I8 q8) fun b s9 ⟨H9, I9, q9⟩ => ?_
    have next : ∀ {t : Shared} {H' : Hp}, Inv (X.blk s3 H3 scope ce fp) ([] ++ pinsAt fp s7.heap) σ8 H' t → Nx H' → ∃ m, m < n ∧ Keep m t := fun {t H'} I' nx => by
      obtain ⟨m', lt, r'⟩ := later H' nx
      have still : ∀ b ∈ fp, ∀ o, s7.heap.get? b = some o → t.heap.get? b = some o ∧ H' b = none := fun b hb o e =>
        have z := I'.pin (b, o) (List.mem_append_right _ (List.mem_append_right _ (mem_pinsAt hb e)))
        ⟨z.1, z.2.1⟩
      refine ⟨m', lt, i + 1, H', (I'.unpinned (pins := [])).weak (by rw [← w8, wipe_length]) (fun j v e => (wipe_some (w8 ▸ e)).1), T.keep _ _ _ t7 fun b hb o e => (still b hb o e).1, fun b hb => ?_, r'⟩
      obtain ⟨o, e, _⟩ := T.obj _ _ t7 b hb
      exact (still b hb o e).2
    cases b with
    | false => exact next I9 q9
    | true =>
      refine thnF (qk.run _ s9 σ8 H9 _ I9 q9) fun _ s10 ⟨yk, Ha, Ia, ra, qa⟩ => thnF (qv.run _ s10 σ8 Ha _ Ia qa) fun _ s11 ⟨yv, Hb, Ib, rb, kvs, k, c, ek, hkc, hD, hz, nx⟩ => ?_
      subst ek
      cases ra
      exact put_row (X := X.blk s3 H3 scope ce fp) hu Ib hD hz hkc rb fun s12 I12 => next I12 nx
end
end FC

set_option Elab.async false
set_option linter.all false
set_option maxRecDepth 100000
set_option maxHeartbeats 4000000
namespace FC
open PySem PySem.Spec L2
/-! ### {k: v for ..} whose keys are rows: as data -/
def compD (b : Bd) (ft : FT) (fk fv : FE) (env0 : DEnv) : List Dv → List (List Key × Dv) → Mm (List (List Key × Dv))
  | [], acc => ret acc
  | d :: r, acc => fun S => match b d env0 with
    | none => none
    | some env1 => match ft env1 S with
      | some (.ok false S1) => compD b ft fk fv env0 r acc S1
      | some (.ok true S1) => match fk env1 S1 with
        | some (.ok k S2) => match rowD k, fv env1 S2 with
          | some ks, some (.ok y S3) => if acc.length ≤ big then compD b ft fk fv env0 r (putD2 acc ks y) S3 else none
          | _, _ => none
        | _ => none
      | _ => none
@[simp] def fDcT (fi : FI) (own : List Nat) (b : Bd) (ft : FT) (fk fv : FE) : FE := fun env => bnd (fi env) fun items => bnd (compD b ft fk fv (wipeD env own) items []) fun kvs => ret (.dit kvs)
theorem compD_cons {b : Bd} {ft : FT} {fk fv : FE} {env0 : DEnv} {d : Dv} {r : List Dv} {acc : List (List Key × Dv)} {S : Store} {res : Rs (List (List Key × Dv))} (h : compD b ft fk fv env0 (d :: r) acc S = some res) :
    ∃ env1, b d env0 = some env1 ∧ ((∃ S1, ft env1 S = some (.ok false S1) ∧ compD b ft fk fv env0 r acc S1 = some res) ∨
      ∃ S1 k S2 ks y S3, ft env1 S = some (.ok true S1) ∧ fk env1 S1 = some (.ok k S2) ∧ rowD k = some ks ∧ fv env1 S2 = some (.ok y S3) ∧ acc.length ≤ big ∧ compD b ft fk fv env0 r (putD2 acc ks y) S3 = some res) := by
  unfold compD at h
  split at h
  · cases h
  · rename_i env1 e1
    refine ⟨env1, e1, ?_⟩
    split at h
    · rename_i S1 e2
      exact .inl ⟨S1, e2, h⟩
    · rename_i S1 e2
      split at h
      · rename_i k S2 e3
        split at h
        · rename_i ks y S3 e4 e5
          by_cases z : acc.length ≤ big
          · rw [if_pos z] at h
            exact .inr ⟨S1, k, S2, ks, y, S3, e2, e3, e4, e5, z, h⟩
          · rw [if_neg z] at h; cases h
        · cases h
      · cases h
    · cases h
theorem compD_ok {b : Bd} {ft : FT} {fk fv : FE} {env0 : DEnv} : ∀ {items : List Dv} {acc : List (List Key × Dv)} {S : Store} {res : Rs (List (List Key × Dv))}, compD b ft fk fv env0 items acc S = some res → ∃ ys S2, res = .ok ys S2
  | [], acc, S, res, h => by cases h; exact ⟨acc, S, rfl⟩
  | d :: r, acc, S, res, h => by
    obtain ⟨env1, _, ⟨S1, _, h2⟩ | ⟨S1, k, S2, ks, y, S3, _, _, _, _, _, h2⟩⟩ := compD_cons h
    · exact compD_ok h2
    · exact compD_ok h2
section
variable {X : Cx} {ξ : Iv} {W : WX} {G : Gp}
theorem KvR.wk {κ : Type} {w w' : Wd} (e : Wk w w') {ps : List (κ × V)} {qs : List (κ × Dv)} (h : KvR G w ps qs) : KvR G w' ps qs := ⟨h.1, h.2.wk e⟩
theorem KvR.less {κ : Type} {w w' : Wd} (e : Less w w') {ps : List (κ × V)} {qs : List (κ × Dv)} (h : KvR G w ps qs) : KvR G w' ps qs := ⟨h.1, h.2.less e⟩
/-- the state within: what is made so far stands at D -/
structure Dcs (G : Gp) (w1 : Wd) (D : Addr) (w2 : Wd) (S2 : Store) (ps : List (List Key × V)) (acc : List (List Key × Dv)) : Prop where
  e : Ext w1 w2
  s : SOk G w2 S2
  m : D ∈ w2.M0
  n : D ∉ w2.as
  h : w2.H D = some (.dT ps)
  r : KvR G w2 ps acc
theorem Dcs.go {w1 w2 w3 : Wd} {D : Addr} {S2 S3 : Store} {ps : List (List Key × V)} {acc : List (List Key × Dv)} (c : Dcs G w1 D w2 S2 ps acc) (e : Ext w2 w3) (s : SOk G w3 S3) : Dcs G w1 D w3 S3 ps acc :=
  ⟨c.e.trans e, s, e.m0 D c.m, e.na D _ c.h c.n, e.keep D _ c.n c.h, c.r.mono e⟩
theorem Dcs.app {w1 w2 : Wd} {D : Addr} {S2 : Store} {ps : List (List Key × V)} {acc : List (List Key × Dv)} (c : Dcs G w1 D w2 S2 ps acc) (hD : w1.H D = none) {v : V} {y : Dv} (k : List Key) (ry : Rp G w2 v y) :
    Dcs G w1 D (w2.put D (.dT (putK ps k v))) S2 (putK ps k v) (putD2 acc k y) := by
  have wk : Wk w2 (w2.put D (.dT (putK ps k v))) := ⟨fun _ _ h => h, fun _ _ _ n => n, fun a o n h => (upd_ne (fun z => n (by rw [z]; exact .inl c.m))).trans h⟩
  refine ⟨⟨c.e.as, c.e.m0, c.e.na, c.e.nM, fun a o n h => (upd_ne (ne_of_none h hD)).trans (c.e.keep a o n h)⟩, ⟨c.s.nd, c.s.len, fun a ha => ?_, c.s.dj, fun i a d h1 h2 => ?_⟩, c.m, c.n, upd_same, (c.r.wk wk).put k (ry.wk wk)⟩
  · by_cases z : a = D
    · subst z; exact ⟨_, upd_same⟩
    · obtain ⟨o, ho⟩ := c.s.dom a ha
      exact ⟨o, (upd_ne z).trans ho⟩
  · have z : a ≠ D := fun q => c.n (by rw [← q]; exact List.mem_of_getElem? h1)
    exact (c.s.cont i a d h1 h2).wk wk (upd_ne z)
theorem Dcs.out {w1 w2 : Wd} {σ : L2.St} {D : Addr} {S1 S2 : Store} {ps : List (List Key × V)} {acc : List (List Key × Dv)} {Q : VK} (c : Dcs G w1 D w2 S2 ps acc) (s1 : SOk G w1 S1) (hD : w1.H D = none) (p : PR G W (Rp G) w1 σ (.ok (.dit acc) S2) Q) : Q (.ref D) w2.H := by
  have nD : ∀ a ∈ w1.M0, a ≠ D := fun a ha z => by
    obtain ⟨o, ho⟩ := s1.dom a ha
    rw [z, hD] at ho
    cases ho
  have L : Less w2 ⟨w2.H, w2.as, w2.M0.filter (fun a => decide (a ≠ D))⟩ := ⟨rfl, fun a h => h.elim (fun h => .inl (List.mem_filter.mp h).1) .inr, fun _ _ h => h⟩
  refine p.ok_ (w' := ⟨w2.H, w2.as, w2.M0.filter (fun a => decide (a ≠ D))⟩) ⟨c.e.as, fun a ha => List.mem_filter.mpr ⟨c.e.m0 a ha, decide_eq_true (nD a ha)⟩, c.e.na, fun a o h n z => c.e.nM a o h n (L.M a z), c.e.keep⟩ ?_ ?_
  · exact ⟨c.s.nd, c.s.len, fun a ha => c.s.dom a (List.mem_filter.mp ha).1, fun a ha z => c.s.dj a ha (List.mem_filter.mp z).1, fun i a d h1 h2 => (c.s.cont i a d h1 h2).less L⟩
  · refine .dit (.inl c.h) ?_ c.r.1 (c.r.2.less L)
    rintro (z | z)
    · exact of_decide_eq_true (List.mem_filter.mp z).2 rfl
    · exact c.n z
section
variable {tg iter kx vx : Expr} {ifs : List Expr} {scope : Scope} {own : List (Str × Nat)} {pos : Pos} {fi : FI} {sl : List Nat} {b : Bd} {ft : FT} {fk fv : FE}
theorem dc_body (hsl : ∀ i ∈ sl, i ∈ own.map (·.2)) (hok : ∀ v ∈ own.map (·.2), ξ.ok v) : ∀ σ H Q, tD G ξ W (fDcT fi (own.map (·.2)) b ft fk fv) σ H Q → tDcT (tI G ξ W fi) (gD G ξ sl b) (tDT G ξ W0 ft) (tD G ξ W0 fk) (tD G ξ W0 fv) (own.map (·.2)) σ H Q := fun σ H Q ⟨w, env, S, res, eH, s, en, h, p⟩ => by
  subst eH
  refine seqR s en h p.px fun items S1 J w1 e1 s1 en1 ok h1 => fun D hD => ?_
  have p1 := p.mono e1 s1
  unfold bnd at h1
  cases hc : compD b ft fk fv (wipeD env (own.map (·.2))) items [] S1 with
  | none => rw [hc] at h1; cases h1
  | some r1 =>
    rw [hc] at h1
    obtain ⟨ys, Sf, rfl⟩ := compD_ok hc
    cases h1
    have start : Dcs G w1 D ⟨upd w1.H D (.dT []), w1.as, D :: w1.M0⟩ S1 [] [] := by
      have ex : Ext w1 ⟨upd w1.H D (.dT []), w1.as, D :: w1.M0⟩ := ⟨⟨[], by simp⟩, fun a ha => List.mem_cons_of_mem _ ha, fun _ _ _ n => n, fun a o ho n z => by
        rcases z with z | z
        · exact (List.mem_cons.mp z).elim (ne_of_none ho hD) fun z => n (.inl z)
        · exact n (.inr z), fun a o _ ho => (upd_ne (ne_of_none ho hD)).trans ho⟩
      refine ⟨ex, ⟨s1.nd, s1.len, fun a ha => ?_, fun a ha z => ?_, fun i a d q1 q2 => ?_⟩, List.mem_cons_self, fun z => s1.fresh hD (.inr z), upd_same, .nil⟩
      · rcases List.mem_cons.mp ha with z | z
        · subst z; exact ⟨_, upd_same⟩
        · obtain ⟨o, ho⟩ := s1.dom a z
          exact ⟨o, (upd_ne (ne_of_none ho hD)).trans ho⟩
      · rcases List.mem_cons.mp z with z | z
        · subst z; exact s1.fresh hD (.inr ha)
        · exact s1.dj a ha z
      · have q := s1.cont i a d q1 q2
        obtain ⟨o, ho⟩ := q.there
        exact q.mono ex (upd_ne (ne_of_none ho hD))
    let Mid : Nat → Hp → Prop := fun i H => i ≤ items.length ∧ ∃ w2 S2 ps acc, w2.H = H ∧ Dcs G w1 D w2 S2 ps acc ∧ compD b ft fk fv (wipeD env (own.map (·.2))) (items.drop i) acc S2 = some (.ok ys Sf)
    refine ⟨fun i k H => k = items.length - i ∧ Mid i H, ⟨items.length, rfl, Nat.zero_le _, ⟨upd w1.H D (.dT []), w1.as, D :: w1.M0⟩, S1, [], [], rfl, start, hc⟩, ?_⟩
    rintro i k H' ⟨rfl, hi, w2, S2, ps, acc, rfl, c, hcm⟩
    obtain ⟨go, stop, yld⟩ := ok w2 S2 c.e c.s
    by_cases hlt : i < items.length
    · refine .inr ⟨go i hlt, Mid (i + 1), fun H' hN => ⟨items.length - (i + 1), by omega, rfl, hN⟩, fun x H' hy => ?_⟩
      obtain ⟨w3, rfl, e3, s3, rx⟩ := yld i _ x H' (List.getElem?_eq_getElem hlt) hy
      rw [List.drop_eq_getElem_cons hlt] at hcm
      obtain ⟨env1, hb, hcases⟩ := compD_cons hcm
      have c3 := c.go e3 s3
      refine ⟨w3, S2, wipeD env (own.map (·.2)), items[i], env1, rfl, s3, ((en1.mono c.e).mono e3).wipe _ hok, rx, hb, fun σ' en' hw => ⟨?_, ?_⟩⟩
      · rw [hw _ hsl]
        exact wipe_wipe σ _ _ fun _ z => z
      · rcases hcases with ⟨S4, hft, hr⟩ | ⟨S4, kd, S5, ks, y, S6, hft, hfk, hks, hfv, hl, hr⟩
        · refine ⟨w3, env1, S2, _, rfl, s3, en', hft, fun bv w4 e4 s4 hbv => ?_⟩
          cases hbv
          exact ⟨hlt, w4, S4, ps, acc, rfl, c3.go e4 s4, hr⟩
        · refine ⟨w3, env1, S2, _, rfl, s3, en', hft, fun bv w4 e4 s4 hbv => ?_⟩
          cases hbv
          refine ⟨w4, env1, S4, _, rfl, s4, en'.mono e4, hfk, fun u w5 e5 s5 ru => ?_⟩
          refine ⟨w5, env1, S5, _, rfl, s5, (en'.mono e4).mono e5, hfv, fun v w6 e6 s6 rv => ?_⟩
          have c6 := ((c3.go e4 s4).go e5 s5).go e6 s6
          obtain ⟨q, rfl, hq⟩ := rowD_ok (ru.mono e6) hks
          exact ⟨ps, ks, q, rfl, hq, c6.h, by rw [c6.r.len]; exact big_lt hl, hlt, _, S6, _, _, rfl, c6.app hD ks rv, hr⟩
    · have e0 : i = items.length := by omega
      subst e0
      rw [List.drop_length] at hcm
      cases hcm
      exact .inl ⟨stop, c.out s1 hD p1⟩
theorem d_dcT {vs : List Nat} (hu : X.A.units + 64 < cLine) (hc : X.calm = true) (hN : X.N.Nodup) (hi : DI X ξ W tg iter fi) (ok : BlkOk X.N X.env.scope scope own)
    (hg : ∀ (s : Shared) (H : Hp) (C : Addr) (cl : List (Str × Addr)) (fp : List Addr), DG (X.blk s H scope (compEnvC scope cl C X.env) fp) ξ tg sl b)
    (ht : ∀ (s : Shared) (H : Hp) (C : Addr) (cl : List (Str × Addr)) (fp : List Addr), DTs (X.blk s H scope (compEnvC scope cl C X.env) fp) ξ W0 ifs ft)
    (hk : ∀ (s : Shared) (H : Hp) (C : Addr) (cl : List (Str × Addr)) (fp : List Addr), DE (X.blk s H scope (compEnvC scope cl C X.env) fp) ξ W0 kx fk)
    (hx : ∀ (s : Shared) (H : Hp) (C : Addr) (cl : List (Str × Addr)) (fp : List Addr), DE (X.blk s H scope (compEnvC scope cl C X.env) fp) ξ W0 vx fv)
    (hv : own.map (·.2) = vs := by rfl) (hsl : ∀ i ∈ sl, i ∈ own.map (·.2) := by decide) (hok : ∀ v ∈ own.map (·.2), ξ.ok v := by first | exact (fun _ _ => trivial) | decide) (hs : ∀ x, foldedSetIterable iter X.env x = pure x := by intro _; rfl) :
    DE X ξ W (.DictComp kx vx [⟨tg, iter, ifs, 0⟩] scope pos) (fDcT fi vs b ft fk fv) := by
  subst hv
  exact PE.imp (pe_dcT (g := gD (gp X) ξ sl b) (tt := tDT (gp X) ξ W0 ft) (tk := tD (gp X) ξ W0 fk) (tv := tD (gp X) ξ W0 fv) (by omega) hc hN hi ok hg ht hk hx hs) (dc_body hsl hok)
end
end
end FC

set_option Elab.async false
set_option linter.all false
set_option maxRecDepth 100000
set_option maxHeartbeats 4000000
namespace FC
open PySem PySem.Spec L2
section
variable {X : Cx} {ξ : Iv} {W : WX} {G : Gp}
/-! ### more that changes a list -/
theorem RpAll.eraseIdx {w : Wd} : ∀ {vs : List V} {ds : List Dv} (k : Nat), RpAll G w vs ds → RpAll G w (vs.eraseIdx k) (ds.eraseIdx k)
  | _, _, _, .nil => .nil
  | _, _, 0, .cons _ r => r
  | _, _, k + 1, .cons h r => .cons h (RpAll.eraseIdx k r)
theorem RpAll.rev' {w : Wd} {vs : List V} {ds : List Dv} (r : RpAll G w vs ds) : RpAll G w vs.reverse ds.reverse := by
  induction vs generalizing ds with
  | nil => cases r; exact .nil
  | cons v vs ih =>
    cases r with
    | cons h t =>
      rw [List.reverse_cons, List.reverse_cons]
      exact (ih t).append (.cons h .nil)
@[simp] def popAtK (n : Nat) (ds : List Dv) : Mm Dv := fun S => match ds, S[n]? with
  | [.int i], some (.lst xs) => if i.natAbs ≤ 1000000000000000000 then (match seqIndex? i xs.length with
    | some k => (match xs[k]? with
      | some d => some (.ok d (S.set n (.lst (xs.eraseIdx k))))
      | none => none)
    | none => none) else none
  | _, _ => none
theorem md_popAt : MethD G rPopAt popAtK := by
  intro W w σ S a n xs ds res Q s ha r h p
  unfold popAtK at h
  split at h
  · rename_i i zs hS
    by_cases z : i.natAbs ≤ 1000000000000000000
    · rw [if_pos z] at h
      cases hk : seqIndex? i zs.length with
      | none => rw [hk] at h; cases h
      | some k =>
        rw [hk] at h
        simp only at h
        cases hd : zs[k]? with
        | none => rw [hd] at h; cases h
        | some d =>
          rw [hd] at h
          cases h
          obtain ⟨v, rfl, hv⟩ := rp1 r
          cases hv
          obtain ⟨us, hx, rx⟩ := s.cont n a _ ha hS
          obtain ⟨y, hy, ry⟩ := rx.get hd
          have e4 : Ext w (w.put a (.lst (us.eraseIdx k))) := .upd ha
          exact ⟨a, us, i, k, y, rfl, rfl, hx, by omega, by omega, by rw [rx.length]; exact hk, hy, p.ok_ (w' := w.put a (.lst (us.eraseIdx k))) e4 (s.upd ha ⟨_, upd_same, (rx.mono e4).eraseIdx k⟩) (ry.mono e4)⟩
    · rw [if_neg z] at h; cases h
  · cases h
@[simp] def insK (n : Nat) (ds : List Dv) : Mm Dv := fun S => match ds, S[n]? with
  | [.int i, y], some (.lst xs) => if xs.length ≤ big ∧ 0 ≤ i ∧ i ≤ 1000000000000000000 then some (.ok .non (S.set n (.lst (xs.take i.toNat ++ [y] ++ xs.drop i.toNat)))) else none
  | _, _ => none
def rInsert : V → List V → Hp → VK → Prop := fun x vs H Q => ∃ (l : Addr) (xs : List V) (i : Int) (y : V), x = .ref l ∧ vs = [.int i, y] ∧ H l = some (.lst xs) ∧ xs.length < sizeLine ∧ 0 ≤ i ∧ i < 2 ^ 63 ∧
    Q .non (upd H l (.lst (xs.take i.toNat ++ [y] ++ xs.drop i.toNat)))
theorem md_ins : MethD G rInsert insK := by
  intro W w σ S a n xs ds res Q s ha r h p
  unfold insK at h
  split at h
  · rename_i i y zs hS
    by_cases z : zs.length ≤ big ∧ 0 ≤ i ∧ i ≤ 1000000000000000000
    · rw [if_pos z] at h
      cases h
      obtain ⟨v, u, rfl, hv, hu⟩ := rp2 r
      cases hv
      obtain ⟨us, hx, rx⟩ := s.cont n a _ ha hS
      have e4 : Ext w (w.put a (.lst (us.take i.toNat ++ [u] ++ us.drop i.toNat))) := .upd ha
      exact ⟨a, us, i, u, rfl, rfl, hx, by rw [rx.length]; exact big_lt z.1, z.2.1, by omega, p.ok_ (w' := w.put a (.lst (us.take i.toNat ++ [u] ++ us.drop i.toNat))) e4
        (s.upd ha ⟨_, upd_same, (((rx.mono e4).take _).append (.cons (hu.mono e4) .nil)).append ((rx.mono e4).drop _)⟩) .non⟩
    · rw [if_neg z] at h; cases h
  · cases h
section
variable {o a a2 : Expr} {fo : FE} {fa : FA} {apos cpos : Pos}
theorem d_popAt (ho : DE X ξ W o fo) (ha : DA X ξ W [a] fa)
    (hbase : attributeBase o "pop" X.env (eval o X.env) = eval o X.env := by rfl)
    (hfew : ((backTo cpos (starEach [a] X.env)).all (fun x => !x.1) && (backToKw cpos (keywordEach [] X.env)).all (fun x => x.1.isSome)
      && decide ([a].length + ([] : List Keyword).length + (if ([] : List Keyword).isEmpty then 0 else 1) < 30)) = true := by rfl)
    (hline : (apos.endLine == cpos.line) = true := by rfl) (hs : starEach [a] X.env = (false, eval a X.env) :: starEach [] X.env := by rfl) (hplain : (backTo cpos (starEach [] X.env)).any (·.1) = false := by rfl) :
    DE X ξ W (.Call (.Attribute o "pop" apos) [a] [] cpos) (fMeth1 popAtK fo fa) :=
  PE.imp (pe_bm PySem.F.plainAttrs_list PySem.F.slot_list_pop PySem.F.type_list_pop mt_popAt ho ha hbase hfew hline hs hplain) (meth1_body md_popAt)
theorem d_insert (ho : DE X ξ W o fo) (ha : DA X ξ W [a, a2] fa)
    (hbase : attributeBase o "insert" X.env (eval o X.env) = eval o X.env := by rfl)
    (hfew : ((backTo cpos (starEach [a, a2] X.env)).all (fun x => !x.1) && (backToKw cpos (keywordEach [] X.env)).all (fun x => x.1.isSome)
      && decide ([a, a2].length + ([] : List Keyword).length + (if ([] : List Keyword).isEmpty then 0 else 1) < 30)) = true := by rfl)
    (hline : (apos.endLine == cpos.line) = true := by rfl) (hs : starEach [a, a2] X.env = (false, eval a X.env) :: starEach [a2] X.env := by rfl) (hplain : (backTo cpos (starEach [a2] X.env)).any (·.1) = false := by rfl) :
    DE X ξ W (.Call (.Attribute o "insert" apos) [a, a2] [] cpos) (fMeth1 insK fo fa) :=
  PE.imp (pe_bm PySem.F.plainAttrs_list PySem.F.slot_list_insert PySem.F.type_list_insert mt_insert ho ha hbase hfew hline hs hplain) (meth1_body md_ins)
end
/-! ### methods without arguments -/
@[simp] def fMeth0 (k : Nat → Mm Dv) (fo : FE) : FE := fun env => bnd (fo env) fun o S => match isL o S with
  | some n => k n S
  | none => none
theorem meth0_body {r : V → List V → Hp → VK → Prop} {k : Nat → Mm Dv} {fo : FE} (hd : MethD G r fun n ds => if ds = [] then k n else stuck) : ∀ σ H Q, tD G ξ W (fMeth0 k fo) σ H Q → tBM0 G.K "list" r (tD G ξ W fo) σ H Q := fun σ H Q ⟨w, env, S, res, eH, s, en, h, p⟩ => by
  subst eH
  refine seqR s en h p.px fun x S1 v w1 e1 s1 en1 r1 h1 => ?_
  cases q : isL x S1 with
  | none => rw [q] at h1; cases h1
  | some n =>
    rw [q] at h1
    obtain ⟨rfl, a, xs, ds, rfl, ha, hS, hx, rx⟩ := isL_ok s1 r1 q
    exact ⟨.inl ⟨rfl, xs, SqL.of hx⟩, hd W w1 σ S1 a n [] [] res Q s1 ha .nil (show (if ([] : List Dv) = [] then k n else stuck) S1 = some res by rw [if_pos rfl]; exact h1) (p.mono e1 s1)⟩
@[simp] def revK (n : Nat) : Mm Dv := fun S => match S[n]? with
  | some (.lst xs) => some (.ok .non (S.set n (.lst xs.reverse)))
  | _ => none
@[simp] def popK (n : Nat) : Mm Dv := fun S => match S[n]? with
  | some (.lst xs) => (match xs[xs.length - 1]? with
    | some d => some (.ok d (S.set n (.lst xs.dropLast)))
    | none => none)
  | _ => none
theorem md_rev : MethD G rReverse fun n ds => if ds = [] then revK n else stuck := by
  intro W w σ S a n xs ds res Q s ha r h p
  by_cases z : ds = []
  · subst z
    cases r
    simp only [if_pos] at h
    unfold revK at h
    split at h
    · rename_i zs hS
      cases h
      obtain ⟨us, hx, rx⟩ := s.cont n a _ ha hS
      have e4 : Ext w (w.put a (.lst us.reverse)) := .upd ha
      exact ⟨a, us, rfl, rfl, hx, p.ok_ (w' := w.put a (.lst us.reverse)) e4 (s.upd ha ⟨_, upd_same, (rx.mono e4).rev'⟩) .non⟩
    · cases h
  · simp only [if_neg z] at h; cases h
theorem RpAll.dropLast' {w : Wd} {vs : List V} {ds : List Dv} (r : RpAll G w vs ds) : RpAll G w vs.dropLast ds.dropLast := by
  rw [List.dropLast_eq_take, List.dropLast_eq_take, r.length]
  exact r.take _
theorem md_pop : MethD G rPop fun n ds => if ds = [] then popK n else stuck := by
  intro W w σ S a n xs ds res Q s ha r h p
  by_cases z : ds = []
  · subst z
    cases r
    simp only [if_pos] at h
    unfold popK at h
    split at h
    · rename_i zs hS
      cases hd : zs[zs.length - 1]? with
      | none => rw [hd] at h; cases h
      | some d =>
        rw [hd] at h
        cases h
        obtain ⟨us, hx, rx⟩ := s.cont n a _ ha hS
        obtain ⟨y, hy, ry⟩ := rx.get hd
        have e4 : Ext w (w.put a (.lst us.dropLast)) := .upd ha
        exact ⟨a, us, y, rfl, rfl, hx, by rw [rx.length]; exact hy, p.ok_ (w' := w.put a (.lst us.dropLast)) e4 (s.upd ha ⟨_, upd_same, (rx.mono e4).dropLast'⟩) (ry.mono e4)⟩
    · cases h
  · simp only [if_neg z] at h; cases h
section
variable {o : Expr} {fo : FE} {apos cpos : Pos}
theorem d_reverse (ho : DE X ξ W o fo) (hbase : attributeBase o "reverse" X.env (eval o X.env) = eval o X.env := by rfl) (hline : (apos.endLine == cpos.line) = true := by rfl) : DE X ξ W (.Call (.Attribute o "reverse" apos) [] [] cpos) (fMeth0 revK fo) :=
  PE.imp (pe_bm0 PySem.F.plainAttrs_list PySem.F.slot_list_reverse PySem.F.type_list_reverse mt_reverse ho hbase hline) (meth0_body md_rev)
theorem d_pop (ho : DE X ξ W o fo) (hbase : attributeBase o "pop" X.env (eval o X.env) = eval o X.env := by rfl) (hline : (apos.endLine == cpos.line) = true := by rfl) : DE X ξ W (.Call (.Attribute o "pop" apos) [] [] cpos) (fMeth0 popK fo) :=
  PE.imp (pe_bm0 PySem.F.plainAttrs_list PySem.F.slot_list_pop PySem.F.type_list_pop mt_pop ho hbase hline) (meth0_body md_pop)
end
/-! ### divmod; the greatest, the least of a list, of three -/
@[simp] def oDivmod : DCl := fun ds S => match ds with
  | [.int i, .int j] => if 0 < j ∧ j < 1073741824 then some (.ok (.tup [.int (i / j), .int (i % j)]) S) else none
  | _ => none
theorem cd_divmod : CallD G (fun xs H Q => ∃ i j, xs = [.int i, .int j] ∧ CDiv i j ∧ ∀ p, H p = none → Q (.ref p) (upd H p (.tup [.int (i / j), .int (i % j)]))) oDivmod := by
  intro W w σ S xs ds res Q s r h p
  unfold oDivmod at h
  split at h
  · rename_i i j
    obtain ⟨v, u, rfl, h1, h2⟩ := rp2 r
    cases h1; cases h2
    by_cases z : 0 < j ∧ j < 1073741824
    · rw [if_pos z] at h
      cases h
      exact ⟨i, j, rfl, z, fun q hq => p.ok_ (.put hq) (s.put hq) (Rp.new_tup s hq (.cons (.int _) (.cons (.int _) .nil)))⟩
    · rw [if_neg z] at h; cases h
  · cases h
def topI : List Int → Int
  | [] => 0
  | x :: xs => xs.foldl max x
def botI : List Int → Int
  | [] => 0
  | x :: xs => xs.foldl min x
theorem foldl_max : ∀ (xs : List Int) (x : Int), x ≤ xs.foldl max x ∧ (∀ y ∈ xs, y ≤ xs.foldl max x) ∧ (xs.foldl max x = x ∨ xs.foldl max x ∈ xs)
  | [], x => ⟨Int.le_refl _, fun _ h => (by cases h), .inl rfl⟩
  | z :: xs, x => by
    obtain ⟨h1, h2, h3⟩ := foldl_max xs (max x z)
    rw [List.foldl_cons]
    refine ⟨by omega, fun y hy => ?_, ?_⟩
    · rcases List.mem_cons.1 hy with rfl | hy
      · omega
      · exact h2 y hy
    · rcases h3 with h3 | h3
      · rw [h3]
        by_cases q : x ≤ z
        · right; rw [show max x z = z by omega]; exact List.mem_cons_self
        · left; omega
      · exact .inr (List.mem_cons_of_mem _ h3)
theorem foldl_min : ∀ (xs : List Int) (x : Int), xs.foldl min x ≤ x ∧ (∀ y ∈ xs, xs.foldl min x ≤ y) ∧ (xs.foldl min x = x ∨ xs.foldl min x ∈ xs)
  | [], x => ⟨Int.le_refl _, fun _ h => (by cases h), .inl rfl⟩
  | z :: xs, x => by
    obtain ⟨h1, h2, h3⟩ := foldl_min xs (min x z)
    rw [List.foldl_cons]
    refine ⟨by omega, fun y hy => ?_, ?_⟩
    · rcases List.mem_cons.1 hy with rfl | hy
      · omega
      · exact h2 y hy
    · rcases h3 with h3 | h3
      · rw [h3]
        by_cases q : z ≤ x
        · right; rw [show min x z = z by omega]; exact List.mem_cons_self
        · left; omega
      · exact .inr (List.mem_cons_of_mem _ h3)
@[simp] def oMaxL : DCl := fun ds S => match ds with
  | [d] => (match (listOf d S).bind asInts with
    | some (n :: ns) => some (.ok (.int (topI (n :: ns))) S)
    | _ => none)
  | _ => none
@[simp] def oMinL : DCl := fun ds S => match ds with
  | [d] => (match (listOf d S).bind asInts with
    | some (n :: ns) => some (.ok (.int (botI (n :: ns))) S)
    | _ => none)
  | _ => none
@[simp] def oMax3 : DCl := fun ds => match ds with
  | [.int i, .int j, .int k] => ret (.int (max (max i j) k))
  | _ => stuck
@[simp] def oMin3 : DCl := fun ds => match ds with
  | [.int i, .int j, .int k] => ret (.int (min (min i j) k))
  | _ => stuck
theorem cd_maxL : CallD G (rMax G.K) oMaxL := by
  intro W w σ S xs ds res Q s r h p
  match ds, r, h with
  | [d], r, h =>
    obtain ⟨v, rfl, hv⟩ := rp1 r
    unfold oMaxL at h
    dsimp only at h
    cases hl : listOf d S with
    | none => rw [hl] at h; cases h
    | some es =>
      cases hi : asInts es with
      | none => rw [hl] at h; simp only [Option.bind, hi] at h; cases h
      | some ns =>
        rw [hl] at h; simp only [Option.bind, hi] at h
        cases ns with
        | nil => cases h
        | cons n ns =>
          cases h
          obtain ⟨a, zs, rfl, hs, hr⟩ := listOf_ok s hv hl
          have e := ints_vs hr hi
          subst e
          refine ⟨a, n :: ns, rfl, hs, by simp, fun m hm hy => ?_⟩
          obtain ⟨h1, h2, h3⟩ := foldl_max ns n
          have e : m = topI (n :: ns) := by
            have u1 : topI (n :: ns) ≤ m := h3.elim (fun q => by show ns.foldl max n ≤ m; rw [q]; exact hy n List.mem_cons_self) fun q => hy _ (List.mem_cons_of_mem _ q)
            have u2 : m ≤ topI (n :: ns) := (List.mem_cons.1 hm).elim (fun q => by subst q; exact h1) fun q => h2 m q
            omega
          rw [e]
          exact p.here s (.int _)
theorem cd_minL : CallD G (rMin G.K) oMinL := by
  intro W w σ S xs ds res Q s r h p
  match ds, r, h with
  | [d], r, h =>
    obtain ⟨v, rfl, hv⟩ := rp1 r
    unfold oMinL at h
    dsimp only at h
    cases hl : listOf d S with
    | none => rw [hl] at h; cases h
    | some es =>
      cases hi : asInts es with
      | none => rw [hl] at h; simp only [Option.bind, hi] at h; cases h
      | some ns =>
        rw [hl] at h; simp only [Option.bind, hi] at h
        cases ns with
        | nil => cases h
        | cons n ns =>
          cases h
          obtain ⟨a, zs, rfl, hs, hr⟩ := listOf_ok s hv hl
          have e := ints_vs hr hi
          subst e
          refine ⟨a, n :: ns, rfl, hs, by simp, fun m hm hy => ?_⟩
          obtain ⟨h1, h2, h3⟩ := foldl_min ns n
          have e : m = botI (n :: ns) := by
            have u1 : m ≤ botI (n :: ns) := h3.elim (fun q => by show m ≤ ns.foldl min n; rw [q]; exact hy n List.mem_cons_self) fun q => hy _ (List.mem_cons_of_mem _ q)
            have u2 : botI (n :: ns) ≤ m := (List.mem_cons.1 hm).elim (fun q => by subst q; exact h1) fun q => h2 m q
            omega
          rw [e]
          exact p.here s (.int _)
theorem nu_max2 (i j : Int) : nuMax2 (.int i) (.int j) = some (.int (max i j)) := by
  have e : nuLt (.int i) (.int j) = some (decide (i < j)) := rfl
  unfold nuMax2
  rw [e]
  by_cases z : i < j
  · simp [z]; omega
  · simp [z]; omega
theorem nu_max3 (i j k : Int) : nuMax3 (.int i) (.int j) (.int k) = some (.int (max (max i j) k)) := by
  unfold nuMax3
  rw [nu_max2]
  exact nu_max2 _ _
theorem cd_max3 : CallD G (rNuC3 nuMax3) oMax3 := by
  intro W w σ S xs ds res Q s r h p
  unfold oMax3 at h
  split at h
  · rename_i i j k
    cases h
    cases r with
    | cons h1 r =>
      cases r with
      | cons h2 r =>
        cases r with
        | cons h3 r =>
          cases r
          cases h1; cases h2; cases h3
          exact ⟨_, _, _, _, rfl, nu_max3 i j k, p.here s (.int _)⟩
  · cases h
end
/-! ### a, b = a tuple or a list -/
@[simp] def bSeq (n : Nat) (r : List Dv → DEnv → Option DEnv) : Bd := fun d env => match d with
  | .tup ds => if ds.length = n then r ds env else none
  | .lst ds => if ds.length = n then r ds env else none
  | _ => none
section
variable {X : Cx} {ξ : Iv} {sl : List Nat} {r : List Dv → DEnv → Option DEnv} {es : List Expr} {pos : Pos}
theorem pg_or {e : Expr} {t1 t2 : TG} (h1 : PG X e t1) (h2 : PG X e t2) : PG X e (fun v σ H Q => t1 v σ H Q ∨ t2 v σ H Q) := ⟨fun pins s σ H v u Q I r hw => hw.elim (fun hw => h1.run pins s σ H v u Q I r hw) fun hw => h2.run pins s σ H v u Q I r hw⟩
theorem g_seq {k n : Nat} (hc : X.calm = true) (h : DGs X ξ es sl r) (hn : (assignEach es X.env).length = n := by rfl) (hst : (assignEach es X.env).findIdx? (·.1) = none := by rfl) : DG X ξ (.Tuple es k pos) sl (bSeq n r) :=
  PG.imp (pg_or (pg_tup hc h hn hst) (pg_lst hc h hn hst)) fun v σ H Q ⟨w, S, env, d, env', eH, s, en, rv, hb, q⟩ => by
    subst eH
    cases rv with
    | @tup a xs ds ha ra =>
      have hb' : (if ds.length = n then r ds env else none) = some env' := hb
      by_cases z : ds.length = n
      · rw [if_pos z] at hb'
        exact .inl ⟨a, xs, rfl, ha.to, by rw [ra.length]; exact z, w, S, env, ds, env', rfl, s, en, ra, hb', q⟩
      · rw [if_neg z] at hb'; cases hb'
    | @lst a xs ds ha ra =>
      have hb' : (if ds.length = n then r ds env else none) = some env' := hb
      by_cases z : ds.length = n
      · rw [if_pos z] at hb'
        exact .inr ⟨a, xs, rfl, ha.to, by rw [ra.length]; exact z, w, S, env, ds, env', rfl, s, en, ra, hb', q⟩
      · rw [if_neg z] at hb'; cases hb'
    | _ => cases hb
end
/-! ### == of a list that may change -/
def lookO (x : Dv) (S : Store) : Dv := match x with
  | .obj n => match S[n]? with
    | some (.lst xs) => .lst xs
    | _ => x
  | _ => x
def oEqO : DOp := fun x y S => ofO ((eqD (lookO x S) (lookO y S)).map .bl) S
def oNeO : DOp := fun x y S => ofO ((eqD (lookO x S) (lookO y S)).map fun b => .bl (!b)) S
section
variable {G : Gp}
theorem dp_look {w : Wd} {S : Store} {v : V} {d : Dv} {p : PyData} (s : SOk G w S) (r : Rp G w v d) (h : toPy (lookO d S) = some p) : Dp G.K w.H v p := by
  cases r with
  | @obj a n ha =>
    unfold lookO at h
    cases e : S[n]? with
    | none => simp only [e] at h; cases h
    | some dd =>
      simp only [e] at h
      cases dd <;> first | (cases h; done) | skip
      rename_i xs
      obtain ⟨vs, hx, rx⟩ := s.cont n a _ ha e
      have h' : toPy (.lst xs) = some p := h
      unfold toPy at h'
      cases q : toPys xs with
      | none => rw [q] at h'; cases h'
      | some ps =>
        rw [q] at h'
        cases h'
        exact .lst (SqL.of hx) (dps_of xs vs ps rx q)
  | non => exact dp_of _ _ _ .non h
  | bl b => exact dp_of _ _ _ (.bl b) h
  | int i => exact dp_of _ _ _ (.int i) h
  | str x => exact dp_of _ _ _ (.str x) h
  | cls c => cases h
  | tup hs ra => exact dp_of _ _ _ (.tup hs ra) h
  | lst hs ra => exact dp_of _ _ _ (.lst hs ra) h
  | ins _ _ _ _ => cases h
  | dic _ _ _ _ => cases h
  | dit _ _ _ _ => cases h
theorem eqO_ok {w : Wd} {S : Store} {x y : V} {dx dy : Dv} {b : Bool} (s : SOk G w S) (rx : Rp G w x dx) (ry : Rp G w y dy) (h : eqD (lookO dx S) (lookO dy S) = some b) :
    (eqS dx dy = some b) ∨ ∃ p q, Dp G.K w.H x p ∧ Dp G.K w.H y q ∧ SeqAt.shaped p = true ∧ SeqAt.shaped q = true ∧ b = PyData.eqv p q := by
  rcases eqD_some h with h | ⟨p, q, h1, h2, h3, h4, h5⟩
  · refine .inl ?_
    have e : ∀ d : Dv, lookO d S = d ∨ ∃ xs, lookO d S = .lst xs := fun d => by
      unfold lookO
      cases d <;> first | exact .inl rfl | skip
      rename_i n
      simp only
      split
      · exact .inr ⟨_, rfl⟩
      · exact .inl rfl
    rcases e dx with e1 | ⟨xs, e1⟩
    · rcases e dy with e2 | ⟨ys, e2⟩
      · rwa [e1, e2] at h
      · rw [e1, e2] at h
        cases dx <;> cases h
    · rw [e1] at h
      cases hq : lookO dy S <;> rw [hq] at h <;> cases h
  · exact .inr ⟨p, q, dp_look s rx h1, dp_look s ry h2, h3, h4, h5⟩
theorem od_eqO : OpD G (rEqA G.K) oEqO := by
  intro W w σ S x y dx dy res Q s rx ry h p
  obtain ⟨d, hd, rfl⟩ := ofO_some h
  cases e : eqD (lookO dx S) (lookO dy S) with
  | none => rw [e] at hd; cases hd
  | some b =>
    rw [e] at hd
    cases hd
    rcases eqO_ok s rx ry e with e | ⟨p1, q1, h1, h2, h3, h4, rfl⟩
    · obtain ⟨a1, a2⟩ := eqS_ok rx ry e
      exact .inl ⟨a1, by rw [a2]; exact p.here s (.bl b)⟩
    · exact .inr ⟨p1, q1, h1, h2, h3, h4, p.here s (.bl _)⟩
theorem od_neO : OpD G (rNeA G.K) oNeO := by
  intro W w σ S x y dx dy res Q s rx ry h p
  obtain ⟨d, hd, rfl⟩ := ofO_some h
  cases e : eqD (lookO dx S) (lookO dy S) with
  | none => rw [e] at hd; cases hd
  | some b =>
    rw [e] at hd
    cases hd
    rcases eqO_ok s rx ry e with e | ⟨p1, q1, h1, h2, h3, h4, rfl⟩
    · obtain ⟨a1, a2⟩ := eqS_ok rx ry e
      exact .inl ⟨a1, by rw [a2]; exact p.here s (.bl _)⟩
    · exact .inr ⟨p1, q1, h1, h2, h3, h4, p.here s (.bl _)⟩
end
section
variable {X : Cx} {ξ : Iv} {W : WX} {a b : Expr} {fa fb : FE} {pos : Pos}
theorem d_eqO (hu : X.A.units + 64 < cLine) (ha : DE X ξ W a fa) (hb : DE X ξ W b fb) : DE X ξ W (.Compare a [.Eq] [b] pos) (fOp oEqO fa fb) := d_cmp (OpR.or op_eq (op_eqD hu)) od_eqO ha hb (nomark _)
theorem d_neO (hu : X.A.units + 64 < cLine) (ha : DE X ξ W a fa) (hb : DE X ξ W b fb) : DE X ξ W (.Compare a [.NotEq] [b] pos) (fOp oNeO fa fb) := d_cmp (OpR.or op_ne (op_neD hu)) od_neO ha hb (nomark _)
theorem t_eqO (hu : X.A.units + 64 < cLine) (ha : DE X ξ W a fa) (hb : DE X ξ W b fb) : DT X ξ W (.Compare a [.Eq] [b] pos) (fTest (fOp oEqO fa fb)) := t_cmp (OpR.or op_eq (op_eqD hu)) od_eqO ha hb (nomark _)
theorem t_neO (hu : X.A.units + 64 < cLine) (ha : DE X ξ W a fa) (hb : DE X ξ W b fb) : DT X ξ W (.Compare a [.NotEq] [b] pos) (fTest (fOp oNeO fa fb)) := t_cmp (OpR.or op_ne (op_neD hu)) od_neO ha hb (nomark _)
end
end FC

set_option Elab.async false
set_option linter.all false
set_option maxRecDepth 100000
set_option maxHeartbeats 4000000
namespace FC
open PySem PySem.Spec PyProof.Rows L2
/-! ### several except clauses, each with a name -/
abbrev ClA := Value × Nat × (Addr → Value → Option Addr → TS)
def wManyA (K : PySem.W.Frag) (Wout : WX) (D : Ends) : List ClA → WX
  | [] => Wout
  | (c, i, ts) :: r => fun cls d σ H => ∃ b, PySem.W.exmOne K cls c = some b ∧ (b = true → ∀ a, H a = none → ts a cls d { nx := fun σ' H' => D.nx (σ'.set i none) H', rt := D.rt, bk := fun σ' H' => D.bk (σ'.set i none) H', ct := fun σ' H' => D.ct (σ'.set i none) H' } (σ.set i (some (.ref a))) H) ∧
    (b = false → wManyA K Wout D r cls d σ H)
inductive HdsA (X : Cx) : List ExceptHandler → List ClA → Prop
  | nil : HdsA X [] []
  | cons {x n : Str} {c : Value} {i : Nat} {ts : Addr → Value → Option Addr → TS} {b₀ : Stmt} {suite : List Stmt} {np pos' : Pos} {hds : List ExceptHandler} {l : List ClA} (hc : Names X x c) (hi : X.N[i]? = some n) (hln : X.env.kindOf n = some .local)
      (hsu : ∀ (a : Addr) (oe : Obj) (cls : Value) (d : Option Addr) (pn : List (Addr × Obj)), Zc cls d oe → (∃ vs, oe.data = .fields vs) → PSs (X.suite a ((a, oe) :: pn)) (b₀ :: suite) (ts a cls d)) (r : HdsA X hds l) :
      HdsA X (.ExceptHandler (some (.Name x np)) (some n) (b₀ :: suite) pos' :: hds) ((c, i, ts) :: l)
section
variable {X : Cx} {body : List Stmt} {h₀ : ExceptHandler} {hds : List ExceptHandler} {l : List ClA} {pos : Pos} {tb : WX → TS} {Wout : WX}
theorem ps_try_manyA (hs : X.stack = X.env :: X.outer) (hf : X.env.frame = some X.env.locals) (hN : X.N.Nodup) (tk : Takes X Wout)
    (hb : ∀ (W : WX) (pn : List (Addr × Obj)) (xe : Value → Shared → Prop), Takes (X.tr pn xe) W → PassesOwn (model X.prog X.w) X.A X.env xe → PSs (X.tr pn xe) body (tb W))
    (hh : HdsA X (h₀ :: hds) l) : PS X (.Try body (h₀ :: hds) [] [] pos) (fun D σ H => tb (wManyA X.K Wout D l) D σ H) := by
  refine ⟨fun pins s σ H D I h => ?_⟩
  have ok := I.ok
  have hfr : X.A.frames = some (X.env :: X.outer) := by rw [ok.frames, hs]
  refine wpAny_Try_except ?_
  refine wpAny_mono ((hb (wManyA X.K Wout D l) (X.pn ++ pins) (fun e s₁ => wpAny (model X.prog X.w) X.A (noteFrame e X.env) (fun _ s₂ => wpAny (model X.prog X.w) X.A (setFlight e none) (fun _ s₃ =>
    wpAny (model X.prog X.w) X.A (handleBy e X.env (h₀ :: hds)) (SP X pins D) X.xe s₃) X.xe s₂) X.xe s₁) (fun u s' xx => ?_) PassesOwn.looking).run [] s σ H D (I.toTry _) h) (fun f s1 hsp => ?_) (fun e s1 he => he)
  · obtain ⟨a, B, sI, pins', σ', H', cls, d, rfl, J', nb, up, sky, na, os, ag, w⟩ := xx
    have J : Inv X pins σ' H' sI := J'.ofTry ok
    have sky' : Sky B (X.env :: X.outer) a (Zc cls d) X.env.locals s'.heap := by rw [← hs]; exact sky
    show wpAny (model X.prog X.w) X.A (noteFrame (.ref a) X.env) _ _ _
    refine Sky.land Zc.steady hfr hf sky' fun h3 fl3 up3 => ?_
    have J3 : Inv X pins σ' H' { s' with heap := h3 } := J.landed nb fl3.1 (up.trans up3) os ag
    obtain ⟨oe3, vs3, he3, hz3, hd3⟩ := fl3.there
    have notFr : ∀ {h : Heap} {o : Obj} {vs : Array Value}, h.FunFrames B (X.env :: X.outer) → h.get? a = some o → o.data = .fields vs → a ∉ frs (X.env :: X.outer) := fun {h o vs} ff e dd hm => by
      obtain ⟨_, o', e', hnf⟩ := ff.mem hm
      rw [e] at e'; cases e'
      exact hnf _ dd
    have nfr := notFr fl3.2.2.1 he3 hd3
    have nL : a ≠ X.env.locals := fun z => nfr (List.mem_filterMap.mpr ⟨X.env, List.mem_cons_self, by rw [hf, z]⟩)
    have nF : a ∉ X.fs := fun hm => by
      obtain ⟨e, he, q⟩ := List.mem_filterMap.mp hm
      exact nfr (List.mem_filterMap.mpr ⟨e, List.mem_cons_of_mem _ he, q⟩)
    have S3 := J3.suite he3 hd3 na nL nF
    have go : ∀ {hds' : List ExceptHandler} {l' : List ClA}, HdsA X hds' l' → wManyA X.K Wout D l' cls d σ' H' →
        wpAny (model X.prog X.w) X.A (handleBy (.ref a) X.env hds') (SP X pins D) X.xe { s' with heap := h3 } := by
      intro hds' l' hk
      induction hk with
      | nil =>
        intro w
        refine wpAny_handleBy_nil ?_
        obtain ⟨k1, k2, k3, oe, vs, T, oT, ts', he, hz, hd, h1, hr⟩ := id fl3
        unfold PySem.passOn
        refine wpAny_bind (wpAny_field he hd h1 ?_)
        rw [if_neg (show ¬ ((Value.ref T == Value.none) = true) from by simp)]
        have fin : wpAny (model X.prog X.w) X.A (setFlight (.ref a) X.env.frame) (fun _ s4 => wpAny (model X.prog X.w) X.A (throw (.ref a) : Sem Flow) (SP X pins D) X.xe s4) X.xe { s' with heap := h3 } := by
          rw [hf]
          refine HandSPX.setFlight_upZ fl3 fun h4 hh4 up4 => wpAny_throw (tk _ _ ?_)
          exact ⟨a, B, sI, pins, σ', H', cls, d, rfl, J, nb, (up.trans up3).trans up4, .inr (.inr (by rw [hs]; exact hh4)), na, os, ag, w⟩
        first
          | exact wpAny_bind (wpAny_pure (wpAny_bind fin))
          | exact wpAny_bind fin
      | @cons x n c i ts b₀ suite np pos' hds2 l2 hc hi hln hsu r ih =>
        intro w
        obtain ⟨b, hb1, hyes, hno⟩ := w
        refine wpAny_handleBy_cons (codeAny_handlers_test ?_) (by intro q; cases q)
        have LT : PySem.W.Looks (model X.prog X.w) h3 (typeOf (.ref a)) cls := fun A Q E s k q => wpAny_typeOf_ref (k _ _ he3) (by rw [hz3.1]; exact q)
        have LM := PySem.W.exm_one (M := model X.prog X.w) (J3.kIn) LT hb1
        have test : ∀ {Q : Value → Shared → Prop} {E : Value → Shared → Prop}, Q c { s' with heap := h3 } → wpAny (model X.prog X.w) (X.A.mark (some (.ref a))) (eval (.Name x np) X.env) Q E { s' with heap := h3 } := fun {Q E} q => by
          obtain ⟨hg, hdbg, hm | ⟨hm, hv, hnn⟩⟩ := hc
          · exact ld_glob (X := X.suite a ((a, oe3) :: (X.pn ++ pins))) S3 hg hm q hdbg
          · exact ld_blt (X := X.suite a ((a, oe3) :: (X.pn ++ pins))) S3 hg hm hv q hnn hdbg
        refine test (LM.here ?_)
        cases b with
        | true =>
          refine codeAny_handlers_suite_as ?_
          refine HandSPX.lands_againZ fl3 fun h4 fl4 up4 => ?_
          have J4 : Inv X pins σ' H' { s' with heap := h4 } := J.landed nb fl4.1 ((up.trans up3).trans up4) os ag
          obtain ⟨oe4, vs4, he4, hz4, hd4⟩ := fl4.there
          have S4 := J4.suite he4 hd4 na nL nF
          refine store_ok (X := X.suite a ((a, oe4) :: (X.pn ++ pins))) (v := .ref a) S4 hN hi (.inl hln) rfl (fun s5 S5 => ?_) (.inr hln)
          refine wpAny_mono ((hsu a oe4 cls d (X.pn ++ pins) hz4 ⟨_, hd4⟩).run [] s5 _ H' _ S5 (hyes rfl a na)) (fun f s6 hsp => ?_) (fun _ _ z => False.elim z)
          have end_ : ∀ {σ6 : L2.St} {H6 : Hp} {Q : Shared → Prop}, Inv (X.suite a ((a, oe4) :: (X.pn ++ pins))) [] σ6 H6 s6 → (∀ s7, Inv X pins (σ6.set i none) H6 s7 → Q s7) →
              wpAny (model X.prog X.w) X.A (do bindName X.env n .none; unbindBehindTheSuite X.env n pos') (fun _ s7 => Q s7) X.xe s6 := fun {σ6 H6 Q} S6 hq => gone_ok (S6.unsuite ok) hN hi hln hq
          cases f with
          | next =>
            obtain ⟨σ6, H6, S6, q6⟩ := hsp
            exact end_ S6 fun s7 J7 => ⟨_, _, J7, q6⟩
          | brk =>
            obtain ⟨σ6, H6, S6, q6⟩ := hsp
            exact end_ S6 fun s7 J7 => ⟨_, _, J7, q6⟩
          | cont =>
            obtain ⟨σ6, H6, S6, q6⟩ := hsp
            exact end_ S6 fun s7 J7 => ⟨_, _, J7, q6⟩
          | ret u =>
            obtain ⟨v6, σ6, H6, S6, r6, q6⟩ := hsp
            exact end_ S6 fun s7 J7 => ⟨_, _, _, J7, r6, q6⟩
        | false =>
          show wpAny _ X.A (handleBy (.ref a) X.env hds2) _ _ _
          exact ih (hno rfl)
    exact go hh w
  · cases f with
    | next =>
      obtain ⟨σ', H', J', q⟩ := hsp
      exact wpAny_execs_nil ⟨σ', H', J'.ofTry ok, q⟩
    | brk =>
      obtain ⟨σ', H', J', q⟩ := hsp
      exact ⟨σ', H', J'.ofTry ok, q⟩
    | cont =>
      obtain ⟨σ', H', J', q⟩ := hsp
      exact ⟨σ', H', J'.ofTry ok, q⟩
    | ret u =>
      obtain ⟨v, σ', H', J', r, q⟩ := hsp
      exact ⟨v, σ', H', J'.ofTry ok, r, q⟩
end
/-! as data: two clauses -/
@[simp] def clsA (c : Str) (flds : List (Str × Dv)) (env1 : DEnv) (S1 : Store) : List ((Str → Option Bool) × Nat × (Str → List (Str × Dv) → FS)) → Option Rf
  | [] => some (.exc c flds env1 S1)
  | (cn, i, fsu) :: r => match cn c with
    | some true => if i < env1.length then erase i (fsu c flds (env1.set i none) S1) else none
    | some false => clsA c flds env1 S1 r
    | none => none
@[simp] def sTryM (fb : FS) (l : List ((Str → Option Bool) × Nat × (Str → List (Str × Dv) → FS))) : FS := fun env S => match fb env S with
  | some (.exc c flds env1 S1) => clsA c flds env1 S1 l
  | r => r
section
variable {X : Cx} {W : WX}
/-- the clauses: text, data, and that they agree -/
inductive ClsA (X : Cx) : List ExceptHandler → List ((Str → Option Bool) × Nat × (Str → List (Str × Dv) → FS)) → List ClA → Prop
  | nil : ClsA X [] [] []
  | cons {x n : Str} {c : Value} {i : Nat} {cn : Str → Option Bool} {fsu : Str → List (Str × Dv) → FS} {b₀ : Stmt} {suite : List Stmt} {np pos' : Pos} {hds : List ExceptHandler} {r : List ((Str → Option Bool) × Nat × (Str → List (Str × Dv) → FS))} {l : List ClA}
      (hc : Names X x c) (hi : X.N[i]? = some n) (hln : X.env.kindOf n = some .local)
      (hcn : ∀ c' b, cn c' = some b → PySem.W.exmOne X.K (.ref (cOf X.mg c')) c = some b)
      (hsu : ∀ (a : Addr) (oe : Obj) (dd : Addr) (c' : Str) (flds : List (Str × Dv)) (pn : List (Addr × Obj)), cn c' = some true → Zc (.ref (cOf X.mg c')) (some dd) oe → (∃ vs, oe.data = .fields vs) → DSs (X.suite a ((a, oe) :: pn)) (Ix (gp X) i a dd flds) W0 (b₀ :: suite) (fsu c' flds))
      (h : ClsA X hds r l) :
      ClsA X (.ExceptHandler (some (.Name x np)) (some n) (b₀ :: suite) pos' :: hds) ((cn, i, fsu) :: r) ((c, i, fun a cls d D σ H => ∃ (c' : Str) (flds : List (Str × Dv)) (dd : Addr), cls = .ref (cOf X.mg c') ∧ d = some dd ∧ cn c' = some true ∧ tF (gp X) (Ix (gp X) i a dd flds) W0 (fsu c' flds) D σ H) :: l)
theorem ClsA.hds {hds : List ExceptHandler} {r : List ((Str → Option Bool) × Nat × (Str → List (Str × Dv) → FS))} {l : List ClA} (h : ClsA X hds r l) : HdsA X hds l := by
  induction h with
  | nil => exact .nil
  | cons hc hi hln hcn hsu _ ih =>
    refine .cons hc hi hln (fun a oe cls d pn hz hv => ⟨fun pins s σ H D I h => ?_⟩) ih
    obtain ⟨c', flds, dd, rfl, rfl, hct, h⟩ := h
    exact (hsu a oe dd c' flds pn hct hz hv).run pins s σ H D I h
theorem s_try_m {body : List Stmt} {h₀ : ExceptHandler} {hds : List ExceptHandler} {r : List ((Str → Option Bool) × Nat × (Str → List (Str × Dv) → FS))} {l : List ClA} {pos : Pos} {fb : FS}
    (hN : X.N.Nodup) (tk : Takes X W)
    (hb : ∀ (W' : WX) (pn : List (Addr × Obj)) (xe : Value → Shared → Prop), Takes (X.tr pn xe) W' → PassesOwn (model X.prog X.w) X.A X.env xe → DSs (X.tr pn xe) Iv.no W' body fb)
    (hh : ClsA X (h₀ :: hds) r l) (hs : X.stack = X.env :: X.outer := by rfl) (hf : X.env.frame = some X.env.locals := by rfl) :
    DS X Iv.no W (.Try body (h₀ :: hds) [] [] pos) (sTryM fb r) := by
  refine PS.imp (ps_try_manyA (Wout := W) (tb := fun W' => tF (gp X) Iv.no W' fb) hs hf hN tk hb hh.hds) fun D σ H hyp => ?_
  obtain ⟨w, env, S, r', eH, s, en, h, p⟩ := hyp
  subst eH
  unfold sTryM at h
  cases h1 : fb env S with
  | none => rw [h1] at h; cases h
  | some r1 =>
    rw [h1] at h
    refine ⟨w, env, S, r1, rfl, s, en, h1, ?_⟩
    cases r1 with
    | nx env1 S1 => cases h; exact p
    | rt d S1 => cases h; exact p
    | bk env1 S1 => cases h; exact p
    | ct env1 S1 => cases h; exact p
    | exc c' flds env1 S1 =>
      intro σ' dd fs' w' e' s' en' hd hm hn hr
      have h2 : clsA c' flds env1 S1 r = some r' := h
      clear h hb
      revert h2
      generalize h₀ :: hds = hh0 at hh
      intro h2
      induction hh with
      | nil =>
        cases h2
        exact p σ' dd fs' w' e' s' en' hd hm hn hr
      | @cons x n c i cn fsu b₀ suite np pos' hds' r l hc hi hln hcn hsu _ ih =>
        unfold clsA at h2
        cases hb' : cn c' with
        | none => rw [hb'] at h2; cases h2
        | some b =>
          rw [hb'] at h2
          refine ⟨b, hcn c' b hb', fun hbt a ha => ?_, fun hbf => ?_⟩
          · subst hbt
            have h3 : (if i < env1.length then erase i (fsu c' flds (env1.set i none) S1) else none) = some r' := h2
            by_cases hil : i < env1.length
            · rw [if_pos hil] at h3
              refine ⟨c', flds, dd, rfl, rfl, hb', ?_⟩
              cases h4 : fsu c' flds (env1.set i none) S1 with
              | none => rw [h4] at h3; cases h3
              | some r4 =>
                rw [h4] at h3
                have q := en'.unset (i := i) (o := some (.ref a))
                refine ⟨w', env1.set i none, S1, r4, rfl, s', ⟨q.len, q.get, ?_, fs', hd, hm, hn, hr⟩, h4, ?_⟩
                · rw [List.getElem?_set_self (by rw [en'.len]; exact hil)]
                · cases r4 with
                  | nx env5 S5 =>
                    cases h3
                    exact fun σ5 w5 e5 s5 en5 => p _ w5 (e'.trans e5) s5 en5.unset
                  | rt d5 S5 =>
                    cases h3
                    exact fun v w5 e5 s5 r5 => p v w5 (e'.trans e5) s5 r5
                  | bk env5 S5 =>
                    cases h3
                    exact fun σ5 w5 e5 s5 en5 => p _ w5 (e'.trans e5) s5 en5.unset
                  | ct env5 S5 =>
                    cases h3
                    exact fun σ5 w5 e5 s5 en5 => p _ w5 (e'.trans e5) s5 en5.unset
                  | exc _ _ _ _ => cases h3
            · rw [if_neg hil] at h3; cases h3
          · subst hbf
            exact ih h2
end
end FC

set_option Elab.async false
set_option linter.all false
set_option maxRecDepth 100000
set_option maxHeartbeats 4000000
namespace FC
open PySem PySem.Spec L2
/-! ### {k: v for ..} whose keys are ints or texts: as data -/
def compDK (b : Bd) (ft : FT) (fk fv : FE) (env0 : DEnv) : List Dv → List (Key × Dv) → Mm (List (Key × Dv))
  | [], acc => ret acc
  | d :: r, acc => fun S => match b d env0 with
    | none => none
    | some env1 => match ft env1 S with
      | some (.ok false S1) => compDK b ft fk fv env0 r acc S1
      | some (.ok true S1) => match fk env1 S1 with
        | some (.ok k S2) => match keyD k, fv env1 S2 with
          | some ks, some (.ok y S3) => if acc.length ≤ big then compDK b ft fk fv env0 r (putD2 acc ks y) S3 else none
          | _, _ => none
        | _ => none
      | _ => none
@[simp] def fDcK (fi : FI) (own : List Nat) (b : Bd) (ft : FT) (fk fv : FE) : FE := fun env => bnd (fi env) fun items => bnd (compDK b ft fk fv (wipeD env own) items []) fun kvs => ret (.dic kvs)
theorem compDK_cons {b : Bd} {ft : FT} {fk fv : FE} {env0 : DEnv} {d : Dv} {r : List Dv} {acc : List (Key × Dv)} {S : Store} {res : Rs (List (Key × Dv))} (h : compDK b ft fk fv env0 (d :: r) acc S = some res) :
    ∃ env1, b d env0 = some env1 ∧ ((∃ S1, ft env1 S = some (.ok false S1) ∧ compDK b ft fk fv env0 r acc S1 = some res) ∨
      ∃ S1 k S2 ks y S3, ft env1 S = some (.ok true S1) ∧ fk env1 S1 = some (.ok k S2) ∧ keyD k = some ks ∧ fv env1 S2 = some (.ok y S3) ∧ acc.length ≤ big ∧ compDK b ft fk fv env0 r (putD2 acc ks y) S3 = some res) := by
  unfold compDK at h
  split at h
  · cases h
  · rename_i env1 e1
    refine ⟨env1, e1, ?_⟩
    split at h
    · rename_i S1 e2
      exact .inl ⟨S1, e2, h⟩
    · rename_i S1 e2
      split at h
      · rename_i k S2 e3
        split at h
        · rename_i ks y S3 e4 e5
          by_cases z : acc.length ≤ big
          · rw [if_pos z] at h
            exact .inr ⟨S1, k, S2, ks, y, S3, e2, e3, e4, e5, z, h⟩
          · rw [if_neg z] at h; cases h
        · cases h
      · cases h
    · cases h
theorem compDK_ok {b : Bd} {ft : FT} {fk fv : FE} {env0 : DEnv} : ∀ {items : List Dv} {acc : List (Key × Dv)} {S : Store} {res : Rs (List (Key × Dv))}, compDK b ft fk fv env0 items acc S = some res → ∃ ys S2, res = .ok ys S2
  | [], acc, S, res, h => by cases h; exact ⟨acc, S, rfl⟩
  | d :: r, acc, S, res, h => by
    obtain ⟨env1, _, ⟨S1, _, h2⟩ | ⟨S1, k, S2, ks, y, S3, _, _, _, _, _, h2⟩⟩ := compDK_cons h
    · exact compDK_ok h2
    · exact compDK_ok h2
section
variable {X : Cx} {ξ : Iv} {W : WX} {G : Gp}
/-- the state within: what is made so far stands at D -/
structure DcsK (G : Gp) (w1 : Wd) (D : Addr) (w2 : Wd) (S2 : Store) (ps : List (Key × V)) (acc : List (Key × Dv)) : Prop where
  e : Ext w1 w2
  s : SOk G w2 S2
  m : D ∈ w2.M0
  n : D ∉ w2.as
  h : w2.H D = some (.dK ps)
  r : KvR G w2 ps acc
theorem DcsK.go {w1 w2 w3 : Wd} {D : Addr} {S2 S3 : Store} {ps : List (Key × V)} {acc : List (Key × Dv)} (c : DcsK G w1 D w2 S2 ps acc) (e : Ext w2 w3) (s : SOk G w3 S3) : DcsK G w1 D w3 S3 ps acc :=
  ⟨c.e.trans e, s, e.m0 D c.m, e.na D _ c.h c.n, e.keep D _ c.n c.h, c.r.mono e⟩
theorem DcsK.app {w1 w2 : Wd} {D : Addr} {S2 : Store} {ps : List (Key × V)} {acc : List (Key × Dv)} (c : DcsK G w1 D w2 S2 ps acc) (hD : w1.H D = none) {v : V} {y : Dv} (k : Key) (ry : Rp G w2 v y) :
    DcsK G w1 D (w2.put D (.dK (putK ps k v))) S2 (putK ps k v) (putD2 acc k y) := by
  have wk : Wk w2 (w2.put D (.dK (putK ps k v))) := ⟨fun _ _ h => h, fun _ _ _ n => n, fun a o n h => (upd_ne (fun z => n (by rw [z]; exact .inl c.m))).trans h⟩
  refine ⟨⟨c.e.as, c.e.m0, c.e.na, c.e.nM, fun a o n h => (upd_ne (ne_of_none h hD)).trans (c.e.keep a o n h)⟩, ⟨c.s.nd, c.s.len, fun a ha => ?_, c.s.dj, fun i a d h1 h2 => ?_⟩, c.m, c.n, upd_same, (c.r.wk wk).put k (ry.wk wk)⟩
  · by_cases z : a = D
    · subst z; exact ⟨_, upd_same⟩
    · obtain ⟨o, ho⟩ := c.s.dom a ha
      exact ⟨o, (upd_ne z).trans ho⟩
  · have z : a ≠ D := fun q => c.n (by rw [← q]; exact List.mem_of_getElem? h1)
    exact (c.s.cont i a d h1 h2).wk wk (upd_ne z)
theorem DcsK.out {w1 w2 : Wd} {σ : L2.St} {D : Addr} {S1 S2 : Store} {ps : List (Key × V)} {acc : List (Key × Dv)} {Q : VK} (c : DcsK G w1 D w2 S2 ps acc) (s1 : SOk G w1 S1) (hD : w1.H D = none) (p : PR G W (Rp G) w1 σ (.ok (.dic acc) S2) Q) : Q (.ref D) w2.H := by
  have nD : ∀ a ∈ w1.M0, a ≠ D := fun a ha z => by
    obtain ⟨o, ho⟩ := s1.dom a ha
    rw [z, hD] at ho
    cases ho
  have L : Less w2 ⟨w2.H, w2.as, w2.M0.filter (fun a => decide (a ≠ D))⟩ := ⟨rfl, fun a h => h.elim (fun h => .inl (List.mem_filter.mp h).1) .inr, fun _ _ h => h⟩
  refine p.ok_ (w' := ⟨w2.H, w2.as, w2.M0.filter (fun a => decide (a ≠ D))⟩) ⟨c.e.as, fun a ha => List.mem_filter.mpr ⟨c.e.m0 a ha, decide_eq_true (nD a ha)⟩, c.e.na, fun a o h n z => c.e.nM a o h n (L.M a z), c.e.keep⟩ ?_ ?_
  · exact ⟨c.s.nd, c.s.len, fun a ha => c.s.dom a (List.mem_filter.mp ha).1, fun a ha z => c.s.dj a ha (List.mem_filter.mp z).1, fun i a d h1 h2 => (c.s.cont i a d h1 h2).less L⟩
  · refine .dic (.inl c.h) ?_ c.r.1 (c.r.2.less L)
    rintro (z | z)
    · exact of_decide_eq_true (List.mem_filter.mp z).2 rfl
    · exact c.n z
section
variable {tg iter kx vx : Expr} {ifs : List Expr} {scope : Scope} {own : List (Str × Nat)} {pos : Pos} {fi : FI} {sl : List Nat} {b : Bd} {ft : FT} {fk fv : FE}
theorem dcK_body (hsl : ∀ i ∈ sl, i ∈ own.map (·.2)) (hok : ∀ v ∈ own.map (·.2), ξ.ok v) : ∀ σ H Q, tD G ξ W (fDcK fi (own.map (·.2)) b ft fk fv) σ H Q → L2.tDc (tI G ξ W fi) (gD G ξ sl b) (tDT G ξ W0 ft) (tD G ξ W0 fk) (tD G ξ W0 fv) (own.map (·.2)) σ H Q := fun σ H Q ⟨w, env, S, res, eH, s, en, h, p⟩ => by
  subst eH
  refine seqR s en h p.px fun items S1 J w1 e1 s1 en1 ok h1 => fun D hD => ?_
  have p1 := p.mono e1 s1
  unfold bnd at h1
  cases hc : compDK b ft fk fv (wipeD env (own.map (·.2))) items [] S1 with
  | none => rw [hc] at h1; cases h1
  | some r1 =>
    rw [hc] at h1
    obtain ⟨ys, Sf, rfl⟩ := compDK_ok hc
    cases h1
    have start : DcsK G w1 D ⟨upd w1.H D (.dK []), w1.as, D :: w1.M0⟩ S1 [] [] := by
      have ex : Ext w1 ⟨upd w1.H D (.dK []), w1.as, D :: w1.M0⟩ := ⟨⟨[], by simp⟩, fun a ha => List.mem_cons_of_mem _ ha, fun _ _ _ n => n, fun a o ho n z => by
        rcases z with z | z
        · exact (List.mem_cons.mp z).elim (ne_of_none ho hD) fun z => n (.inl z)
        · exact n (.inr z), fun a o _ ho => (upd_ne (ne_of_none ho hD)).trans ho⟩
      refine ⟨ex, ⟨s1.nd, s1.len, fun a ha => ?_, fun a ha z => ?_, fun i a d q1 q2 => ?_⟩, List.mem_cons_self, fun z => s1.fresh hD (.inr z), upd_same, .nil⟩
      · rcases List.mem_cons.mp ha with z | z
        · subst z; exact ⟨_, upd_same⟩
        · obtain ⟨o, ho⟩ := s1.dom a z
          exact ⟨o, (upd_ne (ne_of_none ho hD)).trans ho⟩
      · rcases List.mem_cons.mp z with z | z
        · subst z; exact s1.fresh hD (.inr ha)
        · exact s1.dj a ha z
      · have q := s1.cont i a d q1 q2
        obtain ⟨o, ho⟩ := q.there
        exact q.mono ex (upd_ne (ne_of_none ho hD))
    let Mid : Nat → Hp → Prop := fun i H => i ≤ items.length ∧ ∃ w2 S2 ps acc, w2.H = H ∧ DcsK G w1 D w2 S2 ps acc ∧ compDK b ft fk fv (wipeD env (own.map (·.2))) (items.drop i) acc S2 = some (.ok ys Sf)
    refine ⟨fun i k H => k = items.length - i ∧ Mid i H, ⟨items.length, rfl, Nat.zero_le _, ⟨upd w1.H D (.dK []), w1.as, D :: w1.M0⟩, S1, [], [], rfl, start, hc⟩, ?_⟩
    rintro i k H' ⟨rfl, hi, w2, S2, ps, acc, rfl, c, hcm⟩
    obtain ⟨go, stop, yld⟩ := ok w2 S2 c.e c.s
    by_cases hlt : i < items.length
    · refine .inr ⟨go i hlt, Mid (i + 1), fun H' hN => ⟨items.length - (i + 1), by omega, rfl, hN⟩, fun x H' hy => ?_⟩
      obtain ⟨w3, rfl, e3, s3, rx⟩ := yld i _ x H' (List.getElem?_eq_getElem hlt) hy
      rw [List.drop_eq_getElem_cons hlt] at hcm
      obtain ⟨env1, hb, hcases⟩ := compDK_cons hcm
      have c3 := c.go e3 s3
      refine ⟨w3, S2, wipeD env (own.map (·.2)), items[i], env1, rfl, s3, ((en1.mono c.e).mono e3).wipe _ hok, rx, hb, fun σ' en' hw => ⟨?_, ?_⟩⟩
      · rw [hw _ hsl]
        exact wipe_wipe σ _ _ fun _ z => z
      · rcases hcases with ⟨S4, hft, hr⟩ | ⟨S4, kd, S5, ks, y, S6, hft, hfk, hks, hfv, hl, hr⟩
        · refine ⟨w3, env1, S2, _, rfl, s3, en', hft, fun bv w4 e4 s4 hbv => ?_⟩
          cases hbv
          exact ⟨hlt, w4, S4, ps, acc, rfl, c3.go e4 s4, hr⟩
        · refine ⟨w3, env1, S2, _, rfl, s3, en', hft, fun bv w4 e4 s4 hbv => ?_⟩
          cases hbv
          refine ⟨w4, env1, S4, _, rfl, s4, en'.mono e4, hfk, fun u w5 e5 s5 ru => ?_⟩
          refine ⟨w5, env1, S5, _, rfl, s5, (en'.mono e4).mono e5, hfv, fun v w6 e6 s6 rv => ?_⟩
          have c6 := ((c3.go e4 s4).go e5 s5).go e6 s6
          have hq := keyD_ok ru hks
          exact ⟨ps, ks, hq, c6.h, by rw [c6.r.len]; exact big_lt hl, hlt, _, S6, _, _, rfl, c6.app hD ks rv, hr⟩
    · have e0 : i = items.length := by omega
      subst e0
      rw [List.drop_length] at hcm
      cases hcm
      exact .inl ⟨stop, c.out s1 hD p1⟩
theorem d_dcK {vs : List Nat} (hu : X.A.units + 64 < cLine) (hc : X.calm = true) (hN : X.N.Nodup) (hi : DI X ξ W tg iter fi) (ok : BlkOk X.N X.env.scope scope own)
    (hg : ∀ (s : Shared) (H : Hp) (C : Addr) (cl : List (Str × Addr)) (fp : List Addr), DG (X.blk s H scope (compEnvC scope cl C X.env) fp) ξ tg sl b)
    (ht : ∀ (s : Shared) (H : Hp) (C : Addr) (cl : List (Str × Addr)) (fp : List Addr), DTs (X.blk s H scope (compEnvC scope cl C X.env) fp) ξ W0 ifs ft)
    (hk : ∀ (s : Shared) (H : Hp) (C : Addr) (cl : List (Str × Addr)) (fp : List Addr), DE (X.blk s H scope (compEnvC scope cl C X.env) fp) ξ W0 kx fk)
    (hx : ∀ (s : Shared) (H : Hp) (C : Addr) (cl : List (Str × Addr)) (fp : List Addr), DE (X.blk s H scope (compEnvC scope cl C X.env) fp) ξ W0 vx fv)
    (hv : own.map (·.2) = vs := by rfl) (hsl : ∀ i ∈ sl, i ∈ own.map (·.2) := by decide) (hok : ∀ v ∈ own.map (·.2), ξ.ok v := by first | exact (fun _ _ => trivial) | decide) (hs : ∀ x, foldedSetIterable iter X.env x = pure x := by intro _; rfl) :
    DE X ξ W (.DictComp kx vx [⟨tg, iter, ifs, 0⟩] scope pos) (fDcK fi vs b ft fk fv) := by
  subst hv
  exact PE.imp (L2.pe_dc (g := gD (gp X) ξ sl b) (tt := tDT (gp X) ξ W0 ft) (tk := tD (gp X) ξ W0 fk) (tv := tD (gp X) ξ W0 fv) hc hN hi ok hg ht hk hx hs) (dcK_body hsl hok)
end
end
end FC

set_option Elab.async false
set_option linter.all false
set_option maxRecDepth 100000
set_option maxHeartbeats 4000000
namespace FC
open PySem PySem.Spec L2
section
variable {X : Cx} {ξ : Iv} {W : WX} {G : Gp}
/-! ### xs.extend(ys), ys a list that may change -/
@[simp] def extK (n : Nat) (ds : List Dv) : Mm Dv := fun S => match ds, S[n]? with
  | [.obj m], some (.lst xs) => (match S[m]? with
    | some (.lst ys) => if xs.length + ys.length ≤ big then some (.ok .non (S.set n (.lst (xs ++ ys)))) else none
    | _ => none)
  | _, _ => none
theorem md_ext : MethD G rExtend extK := by
  intro W w σ S a n xs ds res Q s ha r h p
  unfold extK at h
  split at h
  · rename_i m zs hS
    split at h
    · rename_i ys hM
      by_cases z : zs.length + ys.length ≤ big
      · rw [if_pos z] at h
        cases h
        obtain ⟨v, rfl, hv⟩ := rp1 r
        obtain ⟨us, hx, rx⟩ := s.cont n a _ ha hS
        cases hv with
        | @obj b m hb =>
          obtain ⟨us2, hx2, rx2⟩ := s.cont m b _ hb hM
          have e4 : Ext w (w.put a (.lst (us ++ us2))) := .upd ha
          exact ⟨a, b, us, us2, rfl, rfl, hx, hx2, by rw [rx.length, rx2.length]; exact big_le z, p.ok_ (w' := w.put a (.lst (us ++ us2))) e4 (s.upd ha ⟨_, upd_same, (rx.mono e4).append (rx2.mono e4)⟩) .non⟩
      · rw [if_neg z] at h; cases h
    · cases h
  · cases h
theorem d_extend {o a : Expr} {fo : FE} {fa : FA} {apos cpos : Pos} (ho : DE X ξ W o fo) (ha : DA X ξ W [a] fa)
    (hbase : attributeBase o "extend" X.env (eval o X.env) = eval o X.env := by rfl)
    (hfew : ((backTo cpos (starEach [a] X.env)).all (fun x => !x.1) && (backToKw cpos (keywordEach [] X.env)).all (fun x => x.1.isSome)
      && decide ([a].length + ([] : List Keyword).length + (if ([] : List Keyword).isEmpty then 0 else 1) < 30)) = true := by rfl)
    (hline : (apos.endLine == cpos.line) = true := by rfl) (hs : starEach [a] X.env = (false, eval a X.env) :: starEach [] X.env := by rfl) (hplain : (backTo cpos (starEach [] X.env)).any (·.1) = false := by rfl) :
    DE X ξ W (.Call (.Attribute o "extend" apos) [a] [] cpos) (fMeth1 extK fo fa) :=
  PE.imp (pe_bm PySem.F.plainAttrs_list PySem.F.slot_list_extend PySem.F.type_list_extend mt_extend ho ha hbase hfew hline hs hplain) (meth1_body md_ext)
/-! ### [a, *xs] -/
@[simp] def fStar (fa : FE) (fr : FA) : FA := fun env => bnd (fa env) fun x S => match seqOf x S with
  | some xs => bnd (fr env) (fun ys => ret (xs ++ ys)) S
  | none => none
theorem a_star {e : Expr} {es : List Expr} {p : Pos} {fa : FE} {fr : FA} (ha : DE X ξ W e fa) (hr : DA X ξ W es fr) (hs : starEach (.Starred e p :: es) X.env = (true, eval e X.env) :: starEach es X.env := by rfl) : DA X ξ W (.Starred e p :: es) (fStar fa fr) :=
  PA.imp (StX.pa_star ha hr hs) fun σ H Q ⟨w, env, S, res, eH, s, en, h, p⟩ => by
    subst eH
    refine seqR s en h p.px fun x S1 v w1 e1 s1 en1 r1 h1 => ?_
    cases q : seqOf x S1 with
    | none => rw [q] at h1; cases h1
    | some xs =>
      rw [q] at h1
      obtain ⟨a, zs, rfl, hz, hr⟩ := seqOf_ok s1 r1 q
      refine ⟨a, zs, rfl, hz.symm, ?_⟩
      exact seqR s1 en1 h1 (p.px.mono e1 s1) fun ys S2 vs w2 e2 s2 en2 r2 h2 => by
        cases h2
        exact p.ok_ (e1.trans e2) s2 ((hr.mono e2).append r2)
end
end FC
namespace FC
open PySem PySem.Spec L2
theorem cnL_oneM {n c : Str} {r : List (Str × Bool)} (hr : r.all (fun p => !p.2) = true) (h : cnL ((n, true) :: r) c = some true) : c = n := by
  unfold cnL at h
  rw [List.lookup_cons] at h
  cases q : (c == n) with
  | true => simpa using q
  | false =>
    rw [q] at h
    exfalso
    clear q
    induction r with
    | nil => cases h
    | cons p r ih =>
      obtain ⟨m, v⟩ := p
      rw [List.all_cons, Bool.and_eq_true] at hr
      simp only at h
      rw [List.lookup_cons] at h
      cases q2 : (c == m) with
      | true =>
        rw [q2] at h
        simp only [Option.some.injEq] at h
        rw [h] at hr
        simp at hr
      | false =>
        rw [q2] at h
        exact ih hr.2 h
end FC

set_option Elab.async false
set_option linter.all false
set_option maxRecDepth 100000
set_option maxHeartbeats 4000000
namespace FCL
open PySem PySem.Spec L2 FC
open PySem.SupX (SupTxt)
noncomputable section
def fsM__law_pool : FS := (sSeq (sAsg (fC (.int 0)) (bName 2))
    (sSeq (sIf (fTest (fOp oLt (fVar 1) (fCall oLen (fCons (fVar 0) fNil)))) (sAsg (fCall oAbs (fCons (fCall oInt1 (fCons (fOp oIx (fVar 0) (fVar 1)) fNil)) fNil)) (bName 2)) sNext)
    (sSeq (sIf (fTest (fOp oGe (fVar 2) (fOp oPow (fC (.int 10)) (fC (.int 18))))) (sRet (fLst true (fCons (fOp oSub (fVar 2) (fOp oPow (fC (.int 10)) (fC (.int 18)))) (fCons (fC (.int 0)) (fCons (fOp oMod (fCall oInt1 (fCons (fVar 2) fNil)) (fC (.int 999999937))) fNil))))) sNext)
    (sRet (fLst true (fCons (fC (.int 0)) (fCons (fC (.int 0)) (fCons (fOp oMod (fCall oInt1 (fCons (fVar 2) fNil)) (fC (.int 999999937))) fNil))))))))
def M__law_pool : DFn := gcM (bodyF 3 fsM__law_pool)
def fsF__law_draw : FS := (sSeq (sSetIx (fVar 0) (fC (.int 1)) (fOp oAdd (fOp oIx (fVar 0) (fC (.int 1))) (fC (.int 1))))
    (sSeq (sIf (fTest (fOp oGt (fOp oIx (fVar 0) (fC (.int 0))) (fC (.int 0)))) (sSeq (sAsg (fOp oMod (fCall oInt1 (fCons (fOp oIx (fVar 0) (fC (.int 0))) fNil)) (fVar 1)) (bName 2))
    (sSeq (sSetIx (fVar 0) (fC (.int 0)) (fOp oDiv (fOp oIx (fVar 0) (fC (.int 0))) (fVar 1)))
    (sRet (fVar 2)))) sNext)
    (sSeq (sAsg (fOp oMod (fCall oInt1 (fCons (fOp oAdd (fOp oAdd (fOp oMul (fOp oIx (fVar 0) (fC (.int 2))) (fC (.int 7919))) (fOp oMul (fOp oIx (fVar 0) (fC (.int 1))) (fC (.int 104729)))) (fC (.int 12345))) fNil)) (fC (.int 1000003))) (bName 3))
    (sSeq (sAsg (fOp oMod (fCall oInt1 (fCons (fOp oAdd (fOp oAdd (fOp oAdd (fOp oMul (fVar 3) (fVar 3)) (fOp oMul (fOp oIx (fVar 0) (fC (.int 1))) (fC (.int 31)))) (fOp oDiv (fOp oIx (fVar 0) (fC (.int 2))) (fC (.int 1000)))) (fC (.int 7))) fNil)) (fC (.int 998244353))) (bName 4))
    (sSeq (sAsg (fOp oMod (fCall oInt1 (fCons (fOp oAdd (fOp oAdd (fOp oMul (fVar 4) (fC (.int 48271))) (fOp oDiv (fVar 4) (fC (.int 1009)))) (fOp oMul (fOp oIx (fVar 0) (fC (.int 1))) (fOp oIx (fVar 0) (fC (.int 1))))) fNil)) (fC (.int 2147483647))) (bName 5))
    (sRet (fOp oMod (fCall oInt1 (fCons (fOp oDiv (fVar 5) (fC (.int 7))) fNil)) (fVar 1))))))))
def F__law_draw : DFn := gcD (bodyF 6 fsF__law_draw)
def fsF__law_great : FS := (sRet (fOp oAdd (fOp oMul (fCall (clF 2 F__law_draw) (fCons (fVar 0) (fCons (fOp oPow (fC (.int 10)) (fC (.int 10))) fNil))) (fOp oPow (fC (.int 10)) (fC (.int 10)))) (fCall (clF 2 F__law_draw) (fCons (fVar 0) (fCons (fOp oPow (fC (.int 10)) (fC (.int 10))) fNil)))))
def F__law_great : DFn := gcD (bodyF 1 fsF__law_great)
def LF__law_drawn_word_1 : FS := (sCl [9, 10] (sSeq (sAsg (fOp oAdd (fC (.int 1)) (fCall (clF 2 F__law_draw) (fCons (fVar 0) (fCons (fC (.int 4)) fNil)))) (bName 10))
    (sSeq (sIf (fAnd (fNot (fTru (fVar 3))) (fTest (fOp oEq (fCall (clF 2 F__law_draw) (fCons (fVar 0) (fCons (fC (.int 3)) fNil))) (fC (.int 0))))) (sSeq (sAsg (fOp oAdd (fC (.int 1)) (fOp oMod (fCall oInt1 (fCons (fCall (clF 1 F__law_great) (fCons (fVar 0) fNil)) fNil)) (fOp oPow (fC (.int 10)) (fC (.int 15))))) (bName 10))
    (sIf (fTest (fOp oEq (fCall (clF 2 F__law_draw) (fCons (fVar 0) (fCons (fC (.int 4)) fNil))) (fC (.int 0)))) (sAsg (fOp oAdd (fC (.int 1)) (fOp oMod (fCall oInt1 (fCons (fCall (clF 1 F__law_great) (fCons (fVar 0) fNil)) fNil)) (fOp oPow (fC (.int 10)) (fC (.int 18))))) (bName 10)) sNext)) sNext)
    (sIf (fTest (fOp oGt (fVar 8) (fC (.int 0)))) (sSeq (sExpr (fMeth1 appK (fVar 7) (fCons (fTup (fCons (fOp oIx (fVar 4) (fOp oMod (fCall oInt1 (fCons (fOp oAdd (fVar 6) (fVar 9)) fNil)) (fC (.int 2)))) (fCons (fCall oMin2 (fCons (fVar 10) (fCons (fVar 8) fNil))) fNil))) fNil)))
    (sAsg (fOp oSub (fVar 8) (fCall oMin2 (fCons (fVar 10) (fCons (fVar 8) fNil)))) (bName 8))) sNext))))
def fsF__law_drawn_word : FS := (sSeq (sAsg (fLc false (fRng1 (fCons (fC (.int 3)) fNil)) [11] (bName 11) (fTest (fOp oNe (fVar 11) (fVar 1))) (fVar 11)) (bName 4))
    (sSeq (sAsg (fCall (clF 2 F__law_draw) (fCons (fVar 0) (fCons (fC (.int 6)) fNil))) (bName 5))
    (sSeq (sIf (fTest (fOp oEq (fCall (clF 2 F__law_draw) (fCons (fVar 0) (fCons (fC (.int 8)) fNil))) (fC (.int 0)))) (sAsg (fCall (clF 2 F__law_draw) (fCons (fVar 0) (fCons (fC (.int 199)) fNil))) (bName 5)) sNext)
    (sSeq (sAsg (fCall (clF 2 F__law_draw) (fCons (fVar 0) (fCons (fC (.int 2)) fNil))) (bName 6))
    (sSeq (sAsg (fLst true fNil) (bName 7))
    (sSeq (sAsg (fVar 2) (bName 8))
    (sSeq (sFor (fRng1 (fCons (fVar 5) fNil)) (bName 9) LF__law_drawn_word_1)
    (sRet (fCall oTuple (fCons (fVar 7) fNil))))))))))
def F__law_drawn_word : DFn := gcD (bodyF 12 fsF__law_drawn_word)
def fsF__law_long : FS := (sRet (fCall oSum (fCons (fLc false (fIt (fVar 0)) [1] (bName 1) fYes (fOp oIx (fVar 1) (fC (.int 1)))) fNil)))
def F__law_long : DFn := gcD (bodyF 2 fsF__law_long)
def LF__law_words_1 : FS := (sCl [4] (sSeq (sExpr (fMeth1 appK (fVar 2) (fCons (fCall (clF 4 F__law_drawn_word) (fCons (fVar 0) (fCons (fVar 4) (fCons (fVar 3) (fCons (fVar 1) fNil))))) fNil)))
    (sAsg (fOp oSub (fVar 3) (fCall (clF 1 F__law_long) (fCons (fOp oIx (fVar 2) (fVar 4)) fNil))) (bName 3))))
def fsF__law_words : FS := (sSeq (sAsg (fOp oEq (fCall (clF 2 F__law_draw) (fCons (fVar 0) (fCons (fC (.int 2)) fNil))) (fC (.int 0))) (bName 1))
    (sSeq (sAsg (fLst true fNil) (bName 2))
    (sSeq (sAsg (fOp oPow (fC (.int 10)) (fC (.int 18))) (bName 3))
    (sSeq (sFor (fRng1 (fCons (fC (.int 3)) fNil)) (bName 4) LF__law_words_1)
    (sSeq (sIf (fTest (fOp oEq (fVar 3) (fOp oPow (fC (.int 10)) (fC (.int 18))))) (sSetIx (fVar 2) (fC (.int 0)) (fTup (fCons (fTup (fCons (fC (.int 1)) (fCons (fC (.int 1)) fNil))) fNil))) sNext)
    (sRet (fCall oTuple (fCons (fVar 2) fNil))))))))
def F__law_words : DFn := gcD (bodyF 5 fsF__law_words)
def fsF__law_lack : FS := (sSeq (sAsg (fCall (clF 1 F__law_long) (fCons (fVar 1) fNil)) (bName 2))
    (sSeq (sAsg (fCall (clF 2 F__law_draw) (fCons (fVar 0) (fCons (fC (.int 3)) fNil))) (bName 3))
    (sSeq (sIf (fTest (fOp oEq (fVar 3) (fC (.int 0)))) (sRet (fOp oAdd (fC (.int 1)) (fOp oMod (fCall oInt1 (fCons (fCall (clF 1 F__law_great) (fCons (fVar 0) fNil)) fNil)) (fVar 2)))) sNext)
    (sSeq (sIf (fTest (fOp oEq (fVar 3) (fC (.int 1)))) (sRet (fCall oMin2 (fCons (fVar 2) (fCons (fOp oAdd (fC (.int 1)) (fCall (clF 2 F__law_draw) (fCons (fVar 0) (fCons (fC (.int 6)) fNil)))) fNil)))) sNext)
    (sSeq (sAsg (fCall (clF 1 F__law_long) (fCons (fSl false (fVar 1) fNo (fSo (fOp oAdd (fC (.int 1)) (fCall (clF 2 F__law_draw) (fCons (fVar 0) (fCons (fCall oLen (fCons (fVar 1) fNil)) fNil)))))) fNil)) (bName 4))
    (sRet (fCall oMax2 (fCons (fC (.int 1)) (fCons (fCall oMin2 (fCons (fVar 2) (fCons (fOp oSub (fOp oAdd (fVar 4) (fCall (clF 2 F__law_draw) (fCons (fVar 0) (fCons (fC (.int 3)) fNil)))) (fC (.int 1))) fNil))) fNil)))))))))
def F__law_lack : DFn := gcD (bodyF 5 fsF__law_lack)
def LF__law_letters_of_1 : FS := (sCl [5, 6] (sSeq (sIf (fTest (fOp oEq (fVar 5) (fVar 2))) (sAsg (fOp oAdd (fVar 4) (fCall oMax2 (fCons (fC (.int 0)) (fCons (fCall oMin2 (fCons (fVar 6) (fCons (fOp oSub (fVar 1) (fVar 3)) fNil))) fNil)))) (bName 4)) sNext)
    (sAsg (fOp oAdd (fVar 3) (fVar 6)) (bName 3))))
def fsF__law_letters_of : FS := (sSeq (sAsg (fC (.int 0)) (bName 3))
    (sSeq (sAsg (fC (.int 0)) (bName 4))
    (sSeq (sFor (fIt (fVar 0)) (bTup 2 (bCons (bName 5) (bCons (bName 6) bNil))) LF__law_letters_of_1)
    (sRet (fVar 4)))))
def F__law_letters_of : DFn := gcD (bodyF 7 fsF__law_letters_of)
def fsF__law_near : FS := (sSeq (sAsg (fCall (clF 2 F__law_draw) (fCons (fVar 0) (fCons (fC (.int 3)) fNil))) (bName 4))
    (sSeq (sAsg (fC (.int 0)) (bName 5))
    (sSeq (sIf (fTest (fOp oGt (fOp oIx (fVar 1) (fVar 4)) (fC (.int 0)))) (sAsg (fCall (clF 2 F__law_lack) (fCons (fVar 0) (fCons (fOp oIx (fVar 2) (fVar 4)) fNil))) (bName 5)) sNext)
    (sSeq (sAsg (fOp oMod (fCall oInt1 (fCons (fOp oAdd (fOp oAdd (fVar 4) (fC (.int 1))) (fCall (clF 2 F__law_draw) (fCons (fVar 0) (fCons (fC (.int 2)) fNil)))) fNil)) (fC (.int 3))) (bName 6))
    (sSeq (sAsg (fOp oSub (fOp oSub (fC (.int 3)) (fVar 4)) (fVar 6)) (bName 7))
    (sSeq (sAsg (fLst true (fCons (fC (.int 0)) (fCons (fC (.int 0)) (fCons (fC (.int 0)) fNil)))) (bName 8))
    (sSeq (sSetIx (fVar 8) (fVar 4) (fOp oSub (fOp oIx (fVar 1) (fVar 4)) (fVar 5)))
    (sSeq (sSetIx (fVar 8) (fVar 6) (fCall oMax2 (fCons (fC (.int 0)) (fCons (fOp oSub (fOp oAdd (fOp oAdd (fOp oIx (fVar 1) (fVar 6)) (fCall (clF 3 F__law_letters_of) (fCons (fOp oIx (fVar 2) (fVar 4)) (fCons (fVar 5) (fCons (fVar 6) fNil))))) (fCall (clF 2 F__law_draw) (fCons (fVar 0) (fCons (fC (.int 7)) fNil)))) (fC (.int 3))) fNil))))
    (sSeq (sSetIx (fVar 8) (fVar 7) (fCall oMax2 (fCons (fC (.int 0)) (fCons (fOp oSub (fOp oAdd (fOp oAdd (fOp oIx (fVar 1) (fVar 7)) (fCall (clF 3 F__law_letters_of) (fCons (fOp oIx (fVar 2) (fVar 4)) (fCons (fVar 5) (fCons (fVar 7) fNil))))) (fCall (clF 2 F__law_draw) (fCons (fVar 0) (fCons (fC (.int 7)) fNil)))) (fC (.int 3))) fNil))))
    (sSeq (sIf (fTru (fVar 3)) (sSeq (sSetIx (fVar 8) (fVar 6) (fCall oMin2 (fCons (fOp oIx (fVar 8) (fVar 6)) (fCons (fOp oSub (fOp oAdd (fCall oSum (fCons (fVar 1) fNil)) (fC (.int 1))) (fOp oIx (fVar 8) (fVar 4))) fNil))))
    (sSetIx (fVar 8) (fVar 7) (fOp oSub (fOp oSub (fOp oAdd (fCall oSum (fCons (fVar 1) fNil)) (fC (.int 1))) (fOp oIx (fVar 8) (fVar 4))) (fOp oIx (fVar 8) (fVar 6))))) sNext)
    (sRet (fCall oTuple (fCons (fVar 8) fNil)))))))))))))
def F__law_near : DFn := gcD (bodyF 9 fsF__law_near)
def LF__law_any_1 : FS := (sCl [3, 4] (sSeq (sAsg (fCall (clF 2 F__law_draw) (fCons (fVar 0) (fCons (fC (.int 4)) fNil))) (bName 4))
    (sIf (fTest (fOp oEq (fVar 4) (fC (.int 0)))) (sExpr (fMeth1 appK (fVar 2) (fCons (fCall (clF 1 F__law_great) (fCons (fVar 0) fNil)) fNil))) (sIf (fTest (fOp oEq (fVar 4) (fC (.int 1)))) (sExpr (fMeth1 appK (fVar 2) (fCons (fOp oMod (fCall oInt1 (fCons (fCall (clF 1 F__law_great) (fCons (fVar 0) fNil)) fNil)) (fOp oAdd (fOp oIx (fVar 1) (fVar 3)) (fC (.int 1)))) fNil))) (sIf (fTest (fOp oEq (fVar 4) (fC (.int 2)))) (sExpr (fMeth1 appK (fVar 2) (fCons (fOp oAdd (fOp oIx (fVar 1) (fVar 3)) (fCall (clF 2 F__law_draw) (fCons (fVar 0) (fCons (fC (.int 6)) fNil)))) fNil))) (sExpr (fMeth1 appK (fVar 2) (fCons (fCall (clF 2 F__law_draw) (fCons (fVar 0) (fCons (fC (.int 6)) fNil))) fNil))))))))
def fsF__law_any : FS := (sSeq (sAsg (fLst true fNil) (bName 2))
    (sSeq (sFor (fRng1 (fCons (fC (.int 3)) fNil)) (bName 3) LF__law_any_1)
    (sRet (fCall oTuple (fCons (fVar 2) fNil)))))
def F__law_any : DFn := gcD (bodyF 5 fsF__law_any)
def fsF__law_any_meeting : FS := (sSeq (sAsg (fOp oMod (fCall oInt1 (fCons (fCall (clF 1 F__law_great) (fCons (fVar 0) fNil)) fNil)) (fOp oAdd (fVar 1) (fC (.int 2)))) (bName 2))
    (sSeq (sAsg (fOp oMod (fCall oInt1 (fCons (fCall (clF 1 F__law_great) (fCons (fVar 0) fNil)) fNil)) (fOp oSub (fOp oAdd (fVar 1) (fC (.int 2))) (fVar 2))) (bName 3))
    (sSeq (sAsg (fLst false (fCons (fVar 2) (fCons (fVar 3) (fCons (fOp oSub (fOp oSub (fOp oAdd (fVar 1) (fC (.int 1))) (fVar 2)) (fVar 3)) fNil)))) (bName 4))
    (sSeq (sAsg (fCall (clF 2 F__law_draw) (fCons (fVar 0) (fCons (fC (.int 3)) fNil))) (bName 5))
    (sRet (fCall oTuple (fCons (fLc false (fRng1 (fCons (fC (.int 3)) fNil)) [6] (bName 6) fYes (fOp oIx (fVar 4) (fOp oMod (fCall oInt1 (fCons (fOp oAdd (fVar 5) (fVar 6)) fNil)) (fC (.int 3))))) fNil)))))))
def F__law_any_meeting : DFn := gcD (bodyF 7 fsF__law_any_meeting)
def LF__law_turned_1 : FS := (sCl [5, 6] (sSeq (sIf (fAnd (fTest (fOp oLe (fVar 4) (fVar 2))) (fTest (fOp oLt (fVar 2) (fOp oAdd (fVar 4) (fVar 6))))) (sSeq (sExpr (fMeth1 appK (fVar 3) (fCons (fTup (fCons (fVar 5) (fCons (fOp oSub (fVar 2) (fVar 4)) fNil))) fNil)))
    (sSeq (sExpr (fMeth1 appK (fVar 3) (fCons (fTup (fCons (fOp oSub (fOp oSub (fC (.int 3)) (fVar 1)) (fVar 5)) (fCons (fC (.int 1)) fNil))) fNil)))
    (sExpr (fMeth1 appK (fVar 3) (fCons (fTup (fCons (fVar 5) (fCons (fOp oSub (fOp oSub (fOp oAdd (fVar 4) (fVar 6)) (fVar 2)) (fC (.int 1))) fNil))) fNil))))) (sExpr (fMeth1 appK (fVar 3) (fCons (fTup (fCons (fVar 5) (fCons (fVar 6) fNil))) fNil))))
    (sAsg (fOp oAdd (fVar 4) (fVar 6)) (bName 4))))
def LF__law_turned_2 : FS := (sCl [5, 6] (sIf (fAnd (fTest (fOp oGt (fVar 6) (fC (.int 0)))) (fAnd (fTest (fOp oGt (fCall oLen (fCons (fVar 7) fNil)) (fC (.int 0)))) (fTest (fOp oEq (fOp oIx (fOp oIx (fVar 7) (fUn oNeg (fC (.int 1)))) (fC (.int 0))) (fVar 5))))) (sSetIx (fVar 7) (fUn oNeg (fC (.int 1))) (fTup (fCons (fVar 5) (fCons (fOp oAdd (fOp oIx (fOp oIx (fVar 7) (fUn oNeg (fC (.int 1)))) (fC (.int 1))) (fVar 6)) fNil)))) (sIf (fTest (fOp oGt (fVar 6) (fC (.int 0)))) (sExpr (fMeth1 appK (fVar 7) (fCons (fTup (fCons (fVar 5) (fCons (fVar 6) fNil))) fNil))) sNext)))
def fsF__law_turned : FS := (sSeq (sGc [4, 5, 6] (sSeq (sAsg (fLst true fNil) (bName 3))
    (sSeq (sAsg (fC (.int 0)) (bName 4))
    (sFor (fIt (fVar 0)) (bTup 2 (bCons (bName 5) (bCons (bName 6) bNil))) LF__law_turned_1))))
    (sSeq (sAsg (fLst true fNil) (bName 7))
    (sSeq (sFor (fIt (fVar 3)) (bTup 2 (bCons (bName 5) (bCons (bName 6) bNil))) LF__law_turned_2)
    (sRet (fCall oTuple (fCons (fVar 7) fNil))))))
def F__law_turned : DFn := gcD (bodyF 8 fsF__law_turned)
def fsF__is_word : FS := (sSeq (sIf (fOr (fTest (fOp oGt (fCall oLen (fCons (fVar 0) fNil)) (fC (.int 200)))) (fNot (fTru (fCall oAllL (fCons (fLc false (fIt (fVar 0)) [9] (bName 9) fYes (fOp oEq (fCall oLen (fCons (fVar 9) fNil)) (fC (.int 2)))) fNil))))) (sRet (fC (.bl false))) sNext)
    (sSeq (sAsg (fLc false (fIt (fVar 0)) [5, 6] (bTup 2 (bCons (bName 5) (bCons (bName 6) bNil))) fYes (fVar 5)) (bName 3))
    (sSeq (sAsg (fLc false (fIt (fVar 0)) [6, 7] (bTup 2 (bCons (bName 6) (bCons (bName 7) bNil))) fYes (fVar 7)) (bName 4))
    (sRet (fAndV (fCall oAllL (fCons (fLc false (fIt (fVar 3)) [5] (bName 5) fYes (fAndV (fChain oLe oLt (fC (.int 0)) (fVar 5) (fC (.int 3))) (fOp oNe (fVar 5) (fVar 1)))) fNil)) (fAndV (fCall oAllL (fCons (fLc false (fIt (fVar 4)) [7] (bName 7) fYes (fOp oGe (fVar 7) (fC (.int 1)))) fNil)) (fAndV (fOp oEq (fCall oSum (fCons (fVar 4) fNil)) (fVar 2)) (fCall oAllL (fCons (fLc false (fRng2 (fCons (fC (.int 1)) (fCons (fCall oLen (fCons (fVar 3) fNil)) fNil))) [8] (bName 8) fYes (fOp oNe (fOp oIx (fVar 3) (fVar 8)) (fOp oIx (fVar 3) (fOp oSub (fVar 8) (fC (.int 1)))))) fNil)))))))))
def F__is_word : DFn := gcD (bodyF 10 fsF__is_word)
def fsF_Shares___init__ : FS := (sSeq (sIf (fOr (fTest (fOp oNe (fCall oLen (fCons (fVar 1) fNil)) (fC (.int 3)))) (fOr (fNot (fTru (fCall oAllL (fCons (fLc false (fIt (fVar 1)) [3] (bName 3) fYes (fOp oGe (fVar 3) (fC (.int 0)))) fNil)))) (fNot (fTest (fChain oLe oLe (fC (.int 1)) (fCall oSum (fCons (fVar 1) fNil)) (fC (.int 1000000000000000000))))))) (sRaise "BadShares" ["what"] (fCons (fC (.str "keep")) fNil)) sNext)
    (sSeq (sIf (fOr (fTest (fOp oNe (fCall oLen (fCons (fVar 2) fNil)) (fC (.int 3)))) (fNot (fTru (fCall oAllL (fCons (fLc false (fRng1 (fCons (fC (.int 3)) fNil)) [4] (bName 4) fYes (fCall (clF 3 F__is_word) (fCons (fOp oIx (fVar 2) (fVar 4)) (fCons (fVar 4) (fCons (fOp oIx (fVar 1) (fVar 4)) fNil))))) fNil))))) (sRaise "BadShares" ["what"] (fCons (fC (.str "words")) fNil)) sNext)
    (sSeq (sSetFld "Shares" "keep" (fVar 0) (fVar 1))
    (sSeq (sSetFld "Shares" "words" (fVar 0) (fVar 2))
    (sSetFld "Shares" "chairs" (fVar 0) (fCall oSum (fCons (fVar 1) fNil)))))))
def F_Shares___init__ : DFn := gcD (bodyF 5 fsF_Shares___init__)
def fsF_Shares___eq__ : FS := (sRet (fAndV (fIsc [("Shares", true)] (fVar 1)) (fAndV (fOp oEq (fFld "Shares" "keep" (fVar 0)) (fFld "Shares" "keep" (fVar 1))) (fOp oEq (fFld "Shares" "words" (fVar 0)) (fFld "Shares" "words" (fVar 1))))))
def F_Shares___eq__ : DFn := gcD (bodyF 2 fsF_Shares___eq__)
def LF__law_same_1 (F : DFn) : FS := (sCl [2] (sIf (fNot (fTru (fCall (clF 2 F) (fCons (fOp oIx (fVar 0) (fVar 2)) (fCons (fOp oIx (fVar 1) (fVar 2)) fNil))))) (sRet (fC (.bl false))) sNext))
def fsF__law_same (F : DFn) : FS := (sSeq (sIf (fTest (fOp oIs (fVar 1) (fC .non))) (sRet (fOp oIs (fVar 0) (fC .non))) sNext)
    (sSeq (sIf (fTru (fIsi "bool" (fVar 1))) (sRet (fAndV (fIsi "bool" (fVar 0)) (fOp oEq (fVar 0) (fVar 1)))) sNext)
    (sSeq (sIf (fTru (fIsi "int" (fVar 1))) (sRet (fAndV (fIsi "int" (fVar 0)) (fAndV (fNotV (fIsi "bool" (fVar 0))) (fOp oEq (fVar 0) (fVar 1))))) sNext)
    (sSeq (sIf (fTru (fIsi "str" (fVar 1))) (sRet (fAndV (fIsi "str" (fVar 0)) (fOp oEq (fVar 0) (fVar 1)))) sNext)
    (sSeq (sIf (fTru (fIsi "tuple" (fVar 1))) (sIf (fOr (fNot (fTru (fIsi "tuple" (fVar 0)))) (fTest (fOp oNe (fCall oLen (fCons (fVar 0) fNil)) (fCall oLen (fCons (fVar 1) fNil))))) (sRet (fC (.bl false))) sNext) (sIf (fOr (fNot (fTru (fIsi "list" (fVar 0)))) (fTest (fOp oNe (fCall oLen (fCons (fVar 0) fNil)) (fCall oLen (fCons (fVar 1) fNil))))) (sRet (fC (.bl false))) sNext))
    (sSeq (sFor (fRng1 (fCons (fCall oLen (fCons (fVar 1) fNil)) fNil)) (bName 2) (LF__law_same_1 F))
    (sRet (fC (.bl true)))))))))
def itF__law_same : Nat → DFn
  | 0 => fun _ _ => none
  | n + 1 => gcD (bodyF 3 (fsF__law_same (itF__law_same n)))
def F__law_same : DFn := itF__law_same 5
def fsF__law_fields_right : FS := (sSeq (sIf (fOr (fNot (fTru (fCall (clF 2 F__law_same) (fCons (fFld "Shares" "keep" (fVar 0)) (fCons (fVar 1) fNil))))) (fNot (fTru (fCall (clF 2 F__law_same) (fCons (fFld "Shares" "words" (fVar 0)) (fCons (fVar 2) fNil)))))) (sRet (fC (.bl false))) sNext)
    (sRet (fCall (clF 2 F__law_same) (fCons (fFld "Shares" "chairs" (fVar 0)) (fCons (fCall oSum (fCons (fVar 1) fNil)) fNil)))))
def F__law_fields_right : DFn := gcD (bodyF 3 fsF__law_fields_right)
def fsF_check_counts : FS := (sIf (fOr (fTest (fOp oNe (fCall oLen (fCons (fVar 1) fNil)) (fVar 0))) (fNot (fTru (fCall oAllL (fCons (fLc false (fIt (fVar 1)) [2] (bName 2) fYes (fOp oGe (fVar 2) (fC (.int 0)))) fNil))))) (sRaise "BadCrowd" ["crowd"] (fCons (fVar 1) fNil)) sNext)
def F_check_counts : DFn := gcD (bodyF 3 fsF_check_counts)
def fsF_size : FS := (sRet (fCall oSum (fCons (fVar 0) fNil)))
def F_size : DFn := gcD (bodyF 1 fsF_size)
def fsF_others : FS := (sRet (fLc false (fRng1 (fCons (fC (.int 3)) fNil)) [1] (bName 1) (fTest (fOp oNe (fVar 1) (fVar 0))) (fVar 1)))
def F_others : DFn := gcD (bodyF 2 fsF_others)
def fsF_check_kind_of : FS := (sIf (fNot (fTest (fChain oLe oLt (fC (.int 0)) (fVar 1) (fVar 0)))) (sRaise "BadKind" ["kind"] (fCons (fVar 1) fNil)) sNext)
def F_check_kind_of : DFn := gcD (bodyF 2 fsF_check_kind_of)
def LF_Shares_gains_1 : FS := (sCl [5, 6] (sSeq (sSetIx (fVar 3) (fVar 5) (fOp oAdd (fOp oIx (fVar 3) (fVar 5)) (fCall oMin2 (fCons (fVar 6) (fCons (fVar 4) fNil)))))
    (sAsg (fOp oSub (fVar 4) (fCall oMin2 (fCons (fVar 6) (fCons (fVar 4) fNil)))) (bName 4))))
def fsF_Shares_gains : FS := (sSeq (sExpr (fCall (clF 2 F_check_kind_of) (fCons (fC (.int 3)) (fCons (fVar 1) fNil))))
    (sSeq (sIf (fNot (fTest (fChain oLe oLe (fC (.int 0)) (fVar 2) (fOp oIx (fFld "Shares" "keep" (fVar 0)) (fVar 1))))) (sRaise "BadNumber" ["number"] (fCons (fVar 2) fNil)) sNext)
    (sSeq (sAsg (fLst true (fCons (fC (.int 0)) (fCons (fC (.int 0)) (fCons (fC (.int 0)) fNil)))) (bName 3))
    (sSeq (sAsg (fVar 2) (bName 4))
    (sSeq (sFor (fIt (fOp oIx (fFld "Shares" "words" (fVar 0)) (fVar 1))) (bTup 2 (bCons (bName 5) (bCons (bName 6) bNil))) LF_Shares_gains_1)
    (sRet (fCall oTuple (fCons (fVar 3) fNil))))))))
def F_Shares_gains : DFn := gcD (bodyF 7 fsF_Shares_gains)
def fsF_with_count : FS := (sRet (fOp (oAddX false) (fOp (oAddX false) (fSl false (fVar 0) fNo (fSo (fVar 1))) (fTup (fCons (fVar 2) fNil))) (fSl false (fVar 0) (fSo (fOp oAdd (fVar 1) (fC (.int 1)))) fNo)))
def F_with_count : DFn := gcD (bodyF 3 fsF_with_count)
def fsF_Shares__end_beside : FS := (sSeq (sAsg (fCall (clF 1 F_others) (fCons (fVar 2) fNil)) (bSeq 2 (bCons (bName 3) (bCons (bName 4) bNil))))
    (sSeq (sAsg (fOp oIx (fMt "Shares" "gains" 2 F_Shares_gains (fVar 0) (fCons (fVar 2) (fCons (fOp oSub (fOp oIx (fFld "Shares" "keep" (fVar 0)) (fVar 2)) (fOp oIx (fVar 1) (fVar 2))) fNil))) (fVar 3)) (bName 5))
    (sSeq (sAsg (fOp oSub (fFld "Shares" "chairs" (fVar 0)) (fOp oIx (fVar 1) (fVar 2))) (bName 6))
    (sSeq (sAsg (fCall oMin2 (fCons (fCall oMax2 (fCons (fOp oAdd (fOp oIx (fFld "Shares" "keep" (fVar 0)) (fVar 3)) (fVar 5)) (fCons (fOp oSub (fVar 6) (fOp oIx (fVar 1) (fVar 4))) fNil))) (fCons (fOp oIx (fVar 1) (fVar 3)) fNil))) (bName 7))
    (sRet (fCall (clF 3 F_with_count) (fCons (fCall (clF 3 F_with_count) (fCons (fVar 1) (fCons (fVar 3) (fCons (fVar 7) fNil)))) (fCons (fVar 4) (fCons (fOp oSub (fVar 6) (fVar 7)) fNil)))))))))
def F_Shares__end_beside : DFn := gcD (bodyF 8 fsF_Shares__end_beside)
def fsF_Shares_end : FS := (sSeq (sExpr (fCall (clF 2 F_check_counts) (fCons (fC (.int 3)) (fCons (fVar 1) fNil))))
    (sSeq (sIf (fTest (fOp oLt (fCall (clF 1 F_size) (fCons (fVar 1) fNil)) (fFld "Shares" "chairs" (fVar 0)))) (sRet (fVar 1)) sNext)
    (sSeq (sAsg (fLc false (fRng1 (fCons (fC (.int 3)) fNil)) [3] (bName 3) (fTest (fOp oLt (fOp oIx (fVar 1) (fVar 3)) (fOp oIx (fFld "Shares" "keep" (fVar 0)) (fVar 3)))) (fVar 3)) (bName 2))
    (sSeq (sIf (fNot (fTru (fVar 2))) (sRet (fFld "Shares" "keep" (fVar 0))) sNext)
    (sRet (fMt "Shares" "_end_beside" 2 F_Shares__end_beside (fVar 0) (fCons (fVar 1) (fCons (fOp oIx (fVar 2) (fC (.int 0))) fNil))))))))
def F_Shares_end : DFn := gcD (bodyF 4 fsF_Shares_end)
def LF__law_due_end_1 : FS := (sCl [6] (sSetIx (fVar 5) (fVar 6) (fOp oIx (fVar 2) (fVar 6))))
def LF__law_due_end_2 : FS := (sCl [9] (sSetIx (fVar 5) (fVar 9) (fOp oAdd (fOp oIx (fVar 0) (fVar 9)) (fCall (clF 3 F__law_letters_of) (fCons (fOp oIx (fVar 1) (fVar 6)) (fCons (fOp oSub (fOp oIx (fVar 0) (fVar 6)) (fOp oIx (fVar 2) (fVar 6))) (fCons (fVar 9) fNil)))))))
def LF__law_due_end_3 : FS := (sCl [7, 9] (sCl [7] (sIf (fTest (fOp oLt (fOp oIx (fVar 2) (fVar 9)) (fOp oIx (fVar 5) (fVar 9)))) (sSeq (sAsg (fOp oSub (fOp oSub (fC (.int 3)) (fVar 6)) (fVar 9)) (bName 7))
    (sSeq (sSetIx (fVar 5) (fVar 7) (fOp oSub (fOp oAdd (fOp oIx (fVar 5) (fVar 7)) (fOp oIx (fVar 5) (fVar 9))) (fOp oIx (fVar 2) (fVar 9))))
    (sSetIx (fVar 5) (fVar 9) (fOp oIx (fVar 2) (fVar 9))))) sNext)))
def fsF__law_due_end : FS := (sSeq (sAsg (fCall oSum (fCons (fVar 0) fNil)) (bName 3))
    (sSeq (sIf (fTest (fOp oLt (fCall oSum (fCons (fVar 2) fNil)) (fVar 3))) (sRet (fVar 2)) sNext)
    (sSeq (sAsg (fLc false (fRng1 (fCons (fC (.int 3)) fNil)) [6] (bName 6) (fTest (fOp oLt (fOp oIx (fVar 2) (fVar 6)) (fOp oIx (fVar 0) (fVar 6)))) (fVar 6)) (bName 4))
    (sSeq (sAsg (fCall (oList true) (fCons (fVar 0) fNil)) (bName 5))
    (sSeq (sFor (fIt (fVar 4)) (bName 6) LF__law_due_end_1)
    (sSeq (sCl [7] (sIf (fTest (fOp oEq (fCall oLen (fCons (fVar 4) fNil)) (fC (.int 2)))) (sSeq (sAsg (fOp oSub (fOp oSub (fC (.int 3)) (fOp oIx (fVar 4) (fC (.int 0)))) (fOp oIx (fVar 4) (fC (.int 1)))) (bName 7))
    (sSetIx (fVar 5) (fVar 7) (fOp oSub (fOp oSub (fVar 3) (fOp oIx (fVar 2) (fOp oIx (fVar 4) (fC (.int 0))))) (fOp oIx (fVar 2) (fOp oIx (fVar 4) (fC (.int 1))))))) sNext))
    (sSeq (sCl [6, 7, 8, 9] (sIf (fTest (fOp oEq (fCall oLen (fCons (fVar 4) fNil)) (fC (.int 1)))) (sSeq (sAsg (fOp oIx (fVar 4) (fC (.int 0))) (bName 6))
    (sSeq (sAsg (fLc false (fRng1 (fCons (fC (.int 3)) fNil)) [9] (bName 9) (fTest (fOp oNe (fVar 9) (fVar 6))) (fVar 9)) (bName 8))
    (sSeq (sFor (fIt (fVar 8)) (bName 9) LF__law_due_end_2)
    (sFor (fIt (fVar 8)) (bName 9) LF__law_due_end_3)))) sNext))
    (sRet (fCall oTuple (fCons (fVar 5) fNil))))))))))
def F__law_due_end : DFn := gcD (bodyF 10 fsF__law_due_end)
def LF__law_ends_right_1 : FS := (sCl [4] (sIf (fNot (fTru (fCall (clF 2 F__law_same) (fCons (fMt "Shares" "end" 1 F_Shares_end (fVar 0) (fCons (fVar 4) fNil)) (fCons (fCall (clF 3 F__law_due_end) (fCons (fVar 1) (fCons (fVar 2) (fCons (fVar 4) fNil)))) fNil))))) (sRet (fC (.bl false))) sNext))
def fsF__law_ends_right : FS := (sSeq (sFor (fIt (fVar 3)) (bName 4) LF__law_ends_right_1)
    (sRet (fC (.bl true))))
def F__law_ends_right : DFn := gcD (bodyF 5 fsF__law_ends_right)
def fsF_Shares_goes : FS := (sSeq (sIf (fTest (fOp oNe (fCall (clF 1 F_size) (fCons (fVar 1) fNil)) (fOp oAdd (fFld "Shares" "chairs" (fVar 0)) (fC (.int 1))))) (sRaise "BadCrowd" ["crowd"] (fCons (fVar 1) fNil)) sNext)
    (sSeq (sAsg (fMt "Shares" "end" 1 F_Shares_end (fVar 0) (fCons (fVar 1) fNil)) (bName 2))
    (sRet (fOp oIx (fLc false (fRng1 (fCons (fC (.int 3)) fNil)) [3] (bName 3) (fTest (fOp oGt (fOp oIx (fVar 1) (fVar 3)) (fOp oIx (fVar 2) (fVar 3)))) (fVar 3)) (fC (.int 0))))))
def F_Shares_goes : DFn := gcD (bodyF 4 fsF_Shares_goes)
def LF__law_goes_right_1 : FS := (sCl [4, 5, 6] (sSeq (sAsg (fCall (clF 3 F__law_due_end) (fCons (fVar 1) (fCons (fVar 2) (fCons (fVar 4) fNil)))) (bName 5))
    (sSeq (sAsg (fLc false (fRng1 (fCons (fC (.int 3)) fNil)) [7] (bName 7) (fTest (fOp oGt (fOp oIx (fVar 4) (fVar 7)) (fOp oIx (fVar 5) (fVar 7)))) (fVar 7)) (bName 6))
    (sIf (fNot (fTru (fCall (clF 2 F__law_same) (fCons (fMt "Shares" "goes" 1 F_Shares_goes (fVar 0) (fCons (fVar 4) fNil)) (fCons (fOp oIx (fVar 6) (fC (.int 0))) fNil))))) (sRet (fC (.bl false))) sNext))))
def fsF__law_goes_right : FS := (sSeq (sFor (fIt (fVar 3)) (bName 4) LF__law_goes_right_1)
    (sRet (fC (.bl true))))
def F__law_goes_right : DFn := gcD (bodyF 8 fsF__law_goes_right)
def fsF_Shares_letters : FS := (sSeq (sExpr (fCall (clF 2 F_check_kind_of) (fCons (fC (.int 3)) (fCons (fVar 1) fNil))))
    (sSeq (sIf (fTest (fOp oGt (fOp oIx (fFld "Shares" "keep" (fVar 0)) (fVar 1)) (fC (.int 1000)))) (sRaise "TooLarge" ["size"] (fCons (fOp oIx (fFld "Shares" "keep" (fVar 0)) (fVar 1)) fNil)) sNext)
    (sRet (fLc2 false (fIt (fOp oIx (fFld "Shares" "words" (fVar 0)) (fVar 1))) [2, 3, 4] (bTup 2 (bCons (bName 2) (bCons (bName 3) bNil))) fYes (fRng1 (fCons (fVar 3) fNil)) [4] (bName 4) fYes (fVar 2)))))
def F_Shares_letters : DFn := gcD (bodyF 5 fsF_Shares_letters)
def fsF__law_refused_letters : FS := (sSeq (sTryM (sExpr (fMt "Shares" "letters" 1 F_Shares_letters (fVar 0) (fCons (fVar 1) fNil))) [(cnL [("BadKind", true), ("TooLarge", false)], 2, fun _ flds => (sRet (fTup (fCons (fC (.str "kind")) (fCons (fXf flds "kind") (fCons (fC (.bl true)) (fCons (fC (.bl true)) (fCons (fC (.bl false)) fNil)))))))), (cnL [("TooLarge", true)], 3, fun _ flds => (sRet (fTup (fCons (fC (.str "size")) (fCons (fXf flds "size") (fCons (fC (.bl true)) (fCons (fC (.bl true)) (fCons (fC (.bl false)) fNil))))))))])
    (sRet (fC .non)))
def F__law_refused_letters : DFn := gcD (bodyF 4 fsF__law_refused_letters)
def LF__law_spelled_1 : FS := (sGc [2, 3] (sExpr (fMeth1 extK (fVar 1) (fCons (fRep true (fVar 2) (fVar 3)) fNil))))
def fsF__law_spelled : FS := (sSeq (sAsg (fLst true fNil) (bName 1))
    (sSeq (sFor (fIt (fVar 0)) (bTup 2 (bCons (bName 2) (bCons (bName 3) bNil))) LF__law_spelled_1)
    (sRet (fVar 1))))
def F__law_spelled : DFn := gcD (bodyF 4 fsF__law_spelled)
def fsM_Shares_letters : FS := (sSeq (sExpr (fCall (clF 2 F_check_kind_of) (fCons (fC (.int 3)) (fCons (fVar 1) fNil))))
    (sSeq (sIf (fTest (fOp oGt (fOp oIx (fFld "Shares" "keep" (fVar 0)) (fVar 1)) (fC (.int 1000)))) (sRaise "TooLarge" ["size"] (fCons (fOp oIx (fFld "Shares" "keep" (fVar 0)) (fVar 1)) fNil)) sNext)
    (sRet (fLc2 true (fIt (fOp oIx (fFld "Shares" "words" (fVar 0)) (fVar 1))) [2, 3, 4] (bTup 2 (bCons (bName 2) (bCons (bName 3) bNil))) fYes (fRng1 (fCons (fVar 3) fNil)) [4] (bName 4) fYes (fVar 2)))))
def M_Shares_letters : DFn := gcM (bodyF 5 fsM_Shares_letters)
def LF__law_letters_right_1 : FS := (sCl [5, 6] (sSeq (sAsg (fCall oTuple (fCons (fLc false (fRng1 (fCons (fC (.int 3)) fNil)) [9] (bName 9) fYes (fCall (clF 3 F__law_letters_of) (fCons (fOp oIx (fVar 1) (fVar 3)) (fCons (fVar 5) (fCons (fVar 9) fNil))))) fNil)) (bName 6))
    (sIf (fNot (fTru (fCall (clF 2 F__law_same) (fCons (fMt "Shares" "gains" 2 F_Shares_gains (fVar 0) (fCons (fVar 3) (fCons (fVar 5) fNil))) (fCons (fVar 6) fNil))))) (sRet (fC (.bl false))) sNext)))
def LF__law_letters_right_2 : FS := (sGc [3, 4, 5, 6, 7, 8] (sSeq (sAsg (fCall (clF 1 F__law_long) (fCons (fOp oIx (fVar 1) (fVar 3)) fNil)) (bName 4))
    (sSeq (sFor (fIt (fLst false (fCons (fC (.int 0)) (fCons (fVar 4) (fCons (fOp oMod (fCall oInt1 (fCons (fCall (clF 1 F__law_great) (fCons (fVar 2) fNil)) fNil)) (fOp oAdd (fVar 4) (fC (.int 1)))) fNil))))) (bName 5) LF__law_letters_right_1)
    (sCl [7, 8] (sIf (fTest (fOp oGt (fVar 4) (fC (.int 1000)))) (sIf (fNot (fTru (fCall (clF 2 F__law_same) (fCons (fCall (clF 2 F__law_refused_letters) (fCons (fVar 0) (fCons (fVar 3) fNil))) (fCons (fTup (fCons (fC (.str "size")) (fCons (fVar 4) (fCons (fC (.bl true)) (fCons (fC (.bl true)) (fCons (fC (.bl false)) fNil)))))) fNil))))) (sRet (fC (.bl false))) sNext) (sSeq (sAsg (fCall (clF 1 F__law_spelled) (fCons (fOp oIx (fVar 1) (fVar 3)) fNil)) (bName 7))
    (sSeq (sAsg (fMt "Shares" "letters" 1 M_Shares_letters (fVar 0) (fCons (fVar 3) fNil)) (bName 8))
    (sSeq (sIf (fNot (fTru (fCall (clF 2 F__law_same) (fCons (fVar 8) (fCons (fVar 7) fNil))))) (sRet (fC (.bl false))) sNext)
    (sSeq (sExpr (fMeth1 appK (fVar 8) (fCons (fVar 3) fNil)))
    (sSeq (sSetIx (fVar 8) (fC (.int 0)) (fVar 3))
    (sIf (fNot (fTru (fCall (clF 2 F__law_same) (fCons (fMt "Shares" "letters" 1 F_Shares_letters (fVar 0) (fCons (fVar 3) fNil)) (fCons (fVar 7) fNil))))) (sRet (fC (.bl false))) sNext)))))))))))
def fsF__law_letters_right : FS := (sSeq (sFor (fRng1 (fCons (fC (.int 3)) fNil)) (bName 3) LF__law_letters_right_2)
    (sRet (fC (.bl true))))
def F__law_letters_right : DFn := gcD (bodyF 10 fsF__law_letters_right)
def fsF__law_refused_end : FS := (sSeq (sTryAs (sExpr (fMt "Shares" "end" 1 F_Shares_end (fVar 0) (fCons (fVar 1) fNil))) (cnL [("BadCrowd", true)]) 2 (fun _ flds => (sRet (fTup (fCons (fXf flds "crowd") (fCons (fC (.bl true)) (fCons (fC (.bl true)) (fCons (fC (.bl false)) fNil))))))))
    (sRet (fC .non)))
def F__law_refused_end : DFn := gcD (bodyF 3 fsF__law_refused_end)
def fsF__law_refused_goes : FS := (sSeq (sTryAs (sExpr (fMt "Shares" "goes" 1 F_Shares_goes (fVar 0) (fCons (fVar 1) fNil))) (cnL [("BadCrowd", true)]) 2 (fun _ flds => (sRet (fTup (fCons (fXf flds "crowd") (fCons (fC (.bl true)) (fCons (fC (.bl true)) (fCons (fC (.bl false)) fNil))))))))
    (sRet (fC .non)))
def F__law_refused_goes : DFn := gcD (bodyF 3 fsF__law_refused_goes)
def fsF__law_refused_gains : FS := (sSeq (sTryM (sExpr (fMt "Shares" "gains" 2 F_Shares_gains (fVar 0) (fCons (fVar 1) (fCons (fVar 2) fNil)))) [(cnL [("BadKind", true), ("BadNumber", false)], 3, fun _ flds => (sRet (fTup (fCons (fC (.str "kind")) (fCons (fXf flds "kind") (fCons (fC (.bl true)) (fCons (fC (.bl true)) (fCons (fC (.bl false)) fNil)))))))), (cnL [("BadNumber", true)], 4, fun _ flds => (sRet (fTup (fCons (fC (.str "number")) (fCons (fXf flds "number") (fCons (fC (.bl true)) (fCons (fC (.bl true)) (fCons (fC (.bl false)) fNil))))))))])
    (sRet (fC .non)))
def F__law_refused_gains : DFn := gcD (bodyF 5 fsF__law_refused_gains)
def LF__law_refusals_right_1 : FS := (sCl [8] (sIf (fNot (fTru (fCall (clF 2 F__law_same) (fCons (fCall (clF 2 F__law_refused_end) (fCons (fVar 0) (fCons (fVar 8) fNil))) (fCons (fTup (fCons (fVar 8) (fCons (fC (.bl true)) (fCons (fC (.bl true)) (fCons (fC (.bl false)) fNil))))) fNil))))) (sRet (fC (.bl false))) sNext))
def LF__law_refusals_right_2 : FS := (sCl [8] (sIf (fNot (fTru (fCall (clF 2 F__law_same) (fCons (fCall (clF 2 F__law_refused_goes) (fCons (fVar 0) (fCons (fVar 8) fNil))) (fCons (fTup (fCons (fVar 8) (fCons (fC (.bl true)) (fCons (fC (.bl true)) (fCons (fC (.bl false)) fNil))))) fNil))))) (sRet (fC (.bl false))) sNext))
def LF__law_refusals_right_3 : FS := (sCl [13, 14] (sSeq (sAsg (fTup (fCons (fC (.str "kind")) (fCons (fVar 13) (fCons (fC (.bl true)) (fCons (fC (.bl true)) (fCons (fC (.bl false)) fNil)))))) (bName 14))
    (sSeq (sIf (fNot (fTru (fCall (clF 2 F__law_same) (fCons (fCall (clF 2 F__law_refused_letters) (fCons (fVar 0) (fCons (fVar 13) fNil))) (fCons (fVar 14) fNil))))) (sRet (fC (.bl false))) sNext)
    (sSeq (sIf (fNot (fTru (fCall (clF 2 F__law_same) (fCons (fCall (clF 3 F__law_refused_gains) (fCons (fVar 0) (fCons (fVar 13) (fCons (fC (.int 0)) fNil)))) (fCons (fVar 14) fNil))))) (sRet (fC (.bl false))) sNext)
    (sIf (fNot (fTru (fCall (clF 2 F__law_same) (fCons (fCall (clF 3 F__law_refused_gains) (fCons (fVar 0) (fCons (fVar 13) (fCons (fUn oNeg (fC (.int 1))) fNil)))) (fCons (fVar 14) fNil))))) (sRet (fC (.bl false))) sNext)))))
def LF__law_refusals_right_4 : FS := (sCl [16] (sIf (fNot (fTru (fCall (clF 2 F__law_same) (fCons (fCall (clF 3 F__law_refused_gains) (fCons (fVar 0) (fCons (fVar 15) (fCons (fVar 16) fNil)))) (fCons (fTup (fCons (fC (.str "number")) (fCons (fVar 16) (fCons (fC (.bl true)) (fCons (fC (.bl true)) (fCons (fC (.bl false)) fNil)))))) fNil))))) (sRet (fC (.bl false))) sNext))
def LF__law_refusals_right_5 : FS := (sCl [15, 16] (sFor (fIt (fLst false (fCons (fOp oSub (fUn oNeg (fC (.int 1))) (fCall (clF 2 F__law_draw) (fCons (fVar 4) (fCons (fC (.int 3)) fNil)))) (fCons (fOp oAdd (fOp oIx (fVar 1) (fVar 15)) (fC (.int 1))) (fCons (fOp oAdd (fOp oAdd (fOp oIx (fVar 1) (fVar 15)) (fC (.int 1))) (fCall (clF 1 F__law_great) (fCons (fVar 4) fNil))) fNil))))) (bName 16) LF__law_refusals_right_4))
def fsF__law_refusals_right : FS := (sSeq (sAsg (fCall (clF 2 F__law_draw) (fCons (fVar 4) (fCons (fC (.int 3)) fNil))) (bName 5))
    (sSeq (sAsg (fOp oMod (fCall oInt1 (fCons (fOp oAdd (fVar 5) (fC (.int 1))) fNil)) (fC (.int 3))) (bName 6))
    (sSeq (sAsg (fOp oSub (fUn oNeg (fC (.int 1))) (fCall (clF 2 F__law_draw) (fCons (fVar 4) (fCons (fC (.int 5)) fNil)))) (bName 7))
    (sSeq (sFor (fIt (fLst false (fCons (fSl false (fVar 2) fNo (fSo (fC (.int 2)))) (fCons (fOp (oAddX false) (fVar 2) (fTup (fCons (fC (.int 0)) fNil))) (fCons (fOp (oAddX false) (fOp (oAddX false) (fSl false (fVar 2) fNo (fSo (fVar 5))) (fTup (fCons (fVar 7) fNil))) (fSl false (fVar 2) (fSo (fOp oAdd (fVar 5) (fC (.int 1)))) fNo)) fNil))))) (bName 8) LF__law_refusals_right_1)
    (sSeq (sGc [] (sSeq (sAsg (fCall (oList true) (fCons (fVar 3) fNil)) (bName 9))
    (sSeq (sSetIx (fVar 9) (fVar 6) (fOp oSub (fOp oAdd (fOp oIx (fVar 3) (fVar 6)) (fOp oIx (fVar 3) (fVar 5))) (fVar 7)))
    (sSetIx (fVar 9) (fVar 5) (fVar 7)))))
    (sSeq (sAsg (fOp (oAddX false) (fOp (oAddX false) (fSl false (fVar 3) fNo (fSo (fVar 5))) (fTup (fCons (fOp oAdd (fOp oIx (fVar 3) (fVar 5)) (fC (.int 1))) fNil))) (fSl false (fVar 3) (fSo (fOp oAdd (fVar 5) (fC (.int 1)))) fNo)) (bName 10))
    (sSeq (sAsg (fOp oIx (fLc false (fRng1 (fCons (fC (.int 3)) fNil)) [15] (bName 15) (fTest (fOp oGt (fOp oIx (fVar 3) (fVar 15)) (fC (.int 0)))) (fVar 15)) (fC (.int 0))) (bName 11))
    (sSeq (sAsg (fOp (oAddX false) (fOp (oAddX false) (fSl false (fVar 3) fNo (fSo (fVar 11))) (fTup (fCons (fOp oSub (fOp oIx (fVar 3) (fVar 11)) (fC (.int 1))) fNil))) (fSl false (fVar 3) (fSo (fOp oAdd (fVar 11) (fC (.int 1)))) fNo)) (bName 12))
    (sSeq (sFor (fIt (fLst false (fCons (fSl false (fVar 3) fNo (fSo (fC (.int 2)))) (fCons (fOp (oAddX false) (fVar 3) (fTup (fCons (fC (.int 0)) fNil))) (fCons (fCall oTuple (fCons (fVar 9) fNil)) (fCons (fVar 10) (fCons (fVar 12) fNil))))))) (bName 8) LF__law_refusals_right_2)
    (sSeq (sFor (fIt (fLst false (fCons (fOp oSub (fUn oNeg (fC (.int 1))) (fCall (clF 2 F__law_draw) (fCons (fVar 4) (fCons (fC (.int 3)) fNil)))) (fCons (fOp oAdd (fC (.int 3)) (fCall (clF 2 F__law_draw) (fCons (fVar 4) (fCons (fC (.int 3)) fNil)))) fNil)))) (bName 13) LF__law_refusals_right_3)
    (sSeq (sFor (fRng1 (fCons (fC (.int 3)) fNil)) (bName 15) LF__law_refusals_right_5)
    (sRet (fC (.bl true))))))))))))))
def F__law_refusals_right : DFn := gcD (bodyF 17 fsF__law_refusals_right)
def fsF__law_limit_right : FS := (sSeq (sAsg (fOp oAdd (fC (.int 999)) (fCall (clF 2 F__law_draw) (fCons (fVar 0) (fCons (fC (.int 3)) fNil)))) (bName 1))
    (sSeq (sAsg (fCall (clF 2 F__law_draw) (fCons (fVar 0) (fCons (fC (.int 3)) fNil))) (bName 2))
    (sSeq (sAsg (fOp oMod (fCall oInt1 (fCons (fOp oAdd (fOp oAdd (fVar 2) (fC (.int 1))) (fCall (clF 2 F__law_draw) (fCons (fVar 0) (fCons (fC (.int 2)) fNil)))) fNil)) (fC (.int 3))) (bName 3))
    (sSeq (sAsg (fLst true (fCons (fC (.int 0)) (fCons (fC (.int 0)) (fCons (fC (.int 0)) fNil)))) (bName 4))
    (sSeq (sSetIx (fVar 4) (fVar 2) (fVar 1))
    (sSeq (sAsg (fLst true (fCons (fTup fNil) (fCons (fTup fNil) (fCons (fTup fNil) fNil)))) (bName 5))
    (sSeq (sSetIx (fVar 5) (fVar 2) (fTup (fCons (fTup (fCons (fVar 3) (fCons (fVar 1) fNil))) fNil)))
    (sRet (fCall (clF 3 F__law_letters_right) (fCons (fGc (fMk "Shares" 2 [] F_Shares___init__ (fCons (fCall oTuple (fCons (fVar 4) fNil)) (fCons (fCall oTuple (fCons (fVar 5) fNil)) fNil)))) (fCons (fVar 5) (fCons (fVar 0) fNil))))))))))))
def F__law_limit_right : DFn := gcD (bodyF 6 fsF__law_limit_right)
def fsF_law : FS := (sSeq (sAsg (fCall (clF 2 M__law_pool) (fCons (fVar 0) (fCons (fC (.int 0)) fNil))) (bName 1))
    (sSeq (sAsg (fCall (clF 1 F__law_words) (fCons (fVar 1) fNil)) (bName 2))
    (sSeq (sAsg (fCall oTuple (fCons (fLc false (fIt (fVar 2)) [11] (bName 11) fYes (fCall (clF 1 F__law_long) (fCons (fVar 11) fNil))) fNil)) (bName 3))
    (sSeq (sAsg (fCall (clF 2 M__law_pool) (fCons (fVar 0) (fCons (fC (.int 1)) fNil))) (bName 1))
    (sSeq (sAsg (fLst false (fCons (fCall (clF 4 F__law_near) (fCons (fVar 1) (fCons (fVar 3) (fCons (fVar 2) (fCons (fC (.bl false)) fNil))))) (fCons (fCall (clF 2 F__law_any) (fCons (fVar 1) (fCons (fVar 3) fNil))) fNil))) (bName 4))
    (sSeq (sAsg (fCall (clF 2 M__law_pool) (fCons (fVar 0) (fCons (fC (.int 2)) fNil))) (bName 1))
    (sSeq (sAsg (fLst false (fCons (fCall (clF 4 F__law_near) (fCons (fVar 1) (fCons (fVar 3) (fCons (fVar 2) (fCons (fC (.bl true)) fNil))))) (fCons (fCall (clF 2 F__law_any_meeting) (fCons (fVar 1) (fCons (fCall oSum (fCons (fVar 3) fNil)) fNil))) fNil))) (bName 5))
    (sSeq (sAsg (fCall (clF 2 M__law_pool) (fCons (fVar 0) (fCons (fC (.int 3)) fNil))) (bName 1))
    (sSeq (sAsg (fLc false (fRng1 (fCons (fC (.int 3)) fNil)) [7] (bName 7) (fTest (fOp oGt (fOp oIx (fVar 3) (fVar 7)) (fC (.int 0)))) (fVar 7)) (bName 6))
    (sSeq (sAsg (fOp oIx (fVar 6) (fCall (clF 2 F__law_draw) (fCons (fVar 1) (fCons (fCall oLen (fCons (fVar 6) fNil)) fNil)))) (bName 7))
    (sSeq (sAsg (fCall (oList true) (fCons (fVar 2) fNil)) (bName 8))
    (sSeq (sSetIx (fVar 8) (fVar 7) (fCall (clF 3 F__law_turned) (fCons (fOp oIx (fVar 2) (fVar 7)) (fCons (fVar 7) (fCons (fOp oMod (fCall oInt1 (fCons (fCall (clF 1 F__law_great) (fCons (fVar 1) fNil)) fNil)) (fOp oIx (fVar 3) (fVar 7))) fNil)))))
    (sSeq (sAsg (fCall oTuple (fCons (fVar 8) fNil)) (bName 8))
    (sSeq (sAsg (fGc (fMk "Shares" 2 [] F_Shares___init__ (fCons (fVar 3) (fCons (fVar 2) fNil)))) (bName 9))
    (sSeq (sAsg (fGc (fMk "Shares" 2 [] F_Shares___init__ (fCons (fVar 3) (fCons (fVar 8) fNil)))) (bName 10))
    (sSeq (sIf (fOr (fTest (fOp (oOwn "Shares" F_Shares___eq__) (fVar 9) (fVar 10))) (fNot (fTest (fOp (oOwn "Shares" F_Shares___eq__) (fVar 9) (fGc (fMk "Shares" 2 [] F_Shares___init__ (fCons (fVar 3) (fCons (fVar 2) fNil)))))))) (sRet (fC (.bl false))) sNext)
    (sSeq (sIf (fOr (fNot (fTru (fCall (clF 3 F__law_fields_right) (fCons (fVar 9) (fCons (fVar 3) (fCons (fVar 2) fNil)))))) (fNot (fTru (fCall (clF 3 F__law_fields_right) (fCons (fVar 10) (fCons (fVar 3) (fCons (fVar 8) fNil))))))) (sRet (fC (.bl false))) sNext)
    (sSeq (sIf (fNot (fTru (fCall (clF 4 F__law_ends_right) (fCons (fVar 9) (fCons (fVar 3) (fCons (fVar 2) (fCons (fOp (oAddX false) (fVar 4) (fVar 5)) fNil))))))) (sRet (fC (.bl false))) sNext)
    (sSeq (sIf (fNot (fTru (fCall (clF 4 F__law_ends_right) (fCons (fVar 10) (fCons (fVar 3) (fCons (fVar 8) (fCons (fOp (oAddX false) (fVar 4) (fVar 5)) fNil))))))) (sRet (fC (.bl false))) sNext)
    (sSeq (sIf (fOr (fNot (fTru (fCall (clF 4 F__law_goes_right) (fCons (fVar 9) (fCons (fVar 3) (fCons (fVar 2) (fCons (fVar 5) fNil))))))) (fNot (fTru (fCall (clF 4 F__law_goes_right) (fCons (fVar 10) (fCons (fVar 3) (fCons (fVar 8) (fCons (fVar 5) fNil)))))))) (sRet (fC (.bl false))) sNext)
    (sSeq (sAsg (fCall (clF 2 M__law_pool) (fCons (fVar 0) (fCons (fC (.int 4)) fNil))) (bName 1))
    (sSeq (sIf (fNot (fTru (fCall (clF 3 F__law_letters_right) (fCons (fVar 9) (fCons (fVar 2) (fCons (fVar 1) fNil)))))) (sRet (fC (.bl false))) sNext)
    (sSeq (sIf (fNot (fTru (fCall (clF 5 F__law_refusals_right) (fCons (fVar 9) (fCons (fVar 3) (fCons (fOp oIx (fVar 4) (fC (.int 0))) (fCons (fOp oIx (fVar 5) (fC (.int 0))) (fCons (fVar 1) fNil)))))))) (sRet (fC (.bl false))) sNext)
    (sSeq (sIf (fAnd (fTest (fOp oEq (fCall (clF 2 F__law_draw) (fCons (fVar 1) (fCons (fC (.int 4)) fNil))) (fC (.int 0)))) (fNot (fTru (fCall (clF 1 F__law_limit_right) (fCons (fVar 1) fNil))))) (sRet (fC (.bl false))) sNext)
    (sRet (fAndT (fCall (clF 3 F__law_fields_right) (fCons (fVar 9) (fCons (fVar 3) (fCons (fVar 2) fNil)))) (fCall (clF 4 F__law_ends_right) (fCons (fVar 9) (fCons (fVar 3) (fCons (fVar 2) (fCons (fOp (oAddX false) (fVar 4) (fVar 5)) fNil)))))))))))))))))))))))))))))))
def F_law : DFn := bodyF 12 fsF_law
end
end FCL

set_option Elab.async false
set_option linter.all false
set_option maxRecDepth 100000
set_option maxHeartbeats 4000000
namespace FCL
open PySem PySem.Spec L2 FC
open PySem.SupX (SupTxt)
/-! ### the text -/
def topS (i : Nat) : Stmt := PySem.Challenge.pw_fewchairs_k36_shares_ends.main.body.getD i (.Pass ⟨0, 0, 0, 0⟩)
def clsBody : Stmt → List Stmt
  | .ClassDef _ _ _ b _ _ _ _ _ _ _ => b
  | _ => []
def clsS (i j : Nat) : Stmt := (clsBody (topS i)).getD j (.Pass ⟨0, 0, 0, 0⟩)
abbrev s__law_pool : Stmt := topS 22
abbrev N__law_pool : List Str := ["script", "at", "cell"]
theorem sc__law_pool : FnScope N__law_pool ["script", "at"] (defScope s__law_pool) := ⟨rfl, rfl, rfl, by decide +kernel, rfl, by decide +kernel, by decide +kernel⟩
abbrev s__law_draw : Stmt := topS 23
abbrev N__law_draw : List Str := ["pool", "many", "got", "first", "second", "third"]
theorem sc__law_draw : FnScope N__law_draw ["pool", "many"] (defScope s__law_draw) := ⟨rfl, rfl, rfl, by decide +kernel, rfl, by decide +kernel, by decide +kernel⟩
abbrev s__law_great : Stmt := topS 24
abbrev N__law_great : List Str := ["pool"]
theorem sc__law_great : FnScope N__law_great ["pool"] (defScope s__law_great) := ⟨rfl, rfl, rfl, by decide +kernel, rfl, by decide +kernel, by decide +kernel⟩
abbrev s__law_drawn_word : Stmt := topS 26
abbrev N__law_drawn_word : List Str := ["pool", "kind", "room", "plain", "others_v", "count", "turn", "word", "free", "j", "length", "x"]
theorem sc__law_drawn_word : FnScope N__law_drawn_word ["pool", "kind", "room", "plain"] (defScope s__law_drawn_word) := ⟨rfl, rfl, rfl, by decide +kernel, rfl, by decide +kernel, by decide +kernel⟩
abbrev s__law_long : Stmt := topS 25
abbrev N__law_long : List Str := ["word", "part"]
theorem sc__law_long : FnScope N__law_long ["word"] (defScope s__law_long) := ⟨rfl, rfl, rfl, by decide +kernel, rfl, by decide +kernel, by decide +kernel⟩
abbrev s__law_words : Stmt := topS 27
abbrev N__law_words : List Str := ["pool", "plain", "words", "room", "kind"]
theorem sc__law_words : FnScope N__law_words ["pool"] (defScope s__law_words) := ⟨rfl, rfl, rfl, by decide +kernel, rfl, by decide +kernel, by decide +kernel⟩
abbrev s__law_lack : Stmt := topS 32
abbrev N__law_lack : List Str := ["pool", "word", "long", "way", "ahead"]
theorem sc__law_lack : FnScope N__law_lack ["pool", "word"] (defScope s__law_lack) := ⟨rfl, rfl, rfl, by decide +kernel, rfl, by decide +kernel, by decide +kernel⟩
abbrev s__law_letters_of : Stmt := topS 28
abbrev N__law_letters_of : List Str := ["word", "number", "kind", "ahead", "found", "letter", "length"]
theorem sc__law_letters_of : FnScope N__law_letters_of ["word", "number", "kind"] (defScope s__law_letters_of) := ⟨rfl, rfl, rfl, by decide +kernel, rfl, by decide +kernel, by decide +kernel⟩
abbrev s__law_near : Stmt := topS 33
abbrev N__law_near : List Str := ["pool", "keep", "words", "whole", "x", "lacking", "y", "z", "crowd"]
theorem sc__law_near : FnScope N__law_near ["pool", "keep", "words", "whole"] (defScope s__law_near) := ⟨rfl, rfl, rfl, by decide +kernel, rfl, by decide +kernel, by decide +kernel⟩
abbrev s__law_any : Stmt := topS 34
abbrev N__law_any : List Str := ["pool", "keep", "crowd", "x", "way"]
theorem sc__law_any : FnScope N__law_any ["pool", "keep"] (defScope s__law_any) := ⟨rfl, rfl, rfl, by decide +kernel, rfl, by decide +kernel, by decide +kernel⟩
abbrev s__law_any_meeting : Stmt := topS 35
abbrev N__law_any_meeting : List Str := ["pool", "chairs", "first", "second", "counts", "turn", "x"]
theorem sc__law_any_meeting : FnScope N__law_any_meeting ["pool", "chairs"] (defScope s__law_any_meeting) := ⟨rfl, rfl, rfl, by decide +kernel, rfl, by decide +kernel, by decide +kernel⟩
abbrev s__law_turned : Stmt := topS 31
abbrev N__law_turned : List Str := ["word", "kind", "at", "pieces", "ahead", "letter", "length", "turned"]
theorem sc__law_turned : FnScope N__law_turned ["word", "kind", "at"] (defScope s__law_turned) := ⟨rfl, rfl, rfl, by decide +kernel, rfl, by decide +kernel, by decide +kernel⟩
abbrev s__is_word : Stmt := topS 20
abbrev N__is_word : List Str := ["word", "kind", "length", "letters", "lengths", "letter", "_", "count", "at", "stretch"]
theorem sc__is_word : FnScope N__is_word ["word", "kind", "length"] (defScope s__is_word) := ⟨rfl, rfl, rfl, by decide +kernel, rfl, by decide +kernel, by decide +kernel⟩
abbrev s_Shares___init__ : Stmt := clsS 18 0
abbrev N_Shares___init__ : List Str := ["self", "keep", "words", "count", "kind"]
theorem sc_Shares___init__ : FnScope N_Shares___init__ ["self", "keep", "words"] (defScope s_Shares___init__) := ⟨rfl, rfl, rfl, by decide +kernel, rfl, by decide +kernel, by decide +kernel⟩
abbrev s_Shares___eq__ : Stmt := clsS 18 2
abbrev N_Shares___eq__ : List Str := ["self", "other"]
theorem sc_Shares___eq__ : FnScope N_Shares___eq__ ["self", "other"] (defScope s_Shares___eq__) := ⟨rfl, rfl, rfl, by decide +kernel, rfl, by decide +kernel, by decide +kernel⟩
abbrev s__law_same : Stmt := topS 36
abbrev N__law_same : List Str := ["got", "due", "k"]
theorem sc__law_same : FnScope N__law_same ["got", "due"] (defScope s__law_same) := ⟨rfl, rfl, rfl, by decide +kernel, rfl, by decide +kernel, by decide +kernel⟩
abbrev s__law_fields_right : Stmt := topS 41
abbrev N__law_fields_right : List Str := ["shares", "keep", "words"]
theorem sc__law_fields_right : FnScope N__law_fields_right ["shares", "keep", "words"] (defScope s__law_fields_right) := ⟨rfl, rfl, rfl, by decide +kernel, rfl, by decide +kernel, by decide +kernel⟩
abbrev s_check_counts : Stmt := topS 13
abbrev N_check_counts : List Str := ["kinds", "crowd", "count"]
theorem sc_check_counts : FnScope N_check_counts ["kinds", "crowd"] (defScope s_check_counts) := ⟨rfl, rfl, rfl, by decide +kernel, rfl, by decide +kernel, by decide +kernel⟩
abbrev s_size : Stmt := topS 9
abbrev N_size : List Str := ["crowd"]
theorem sc_size : FnScope N_size ["crowd"] (defScope s_size) := ⟨rfl, rfl, rfl, by decide +kernel, rfl, by decide +kernel, by decide +kernel⟩
abbrev s_others : Stmt := topS 19
abbrev N_others : List Str := ["kind", "found"]
theorem sc_others : FnScope N_others ["kind"] (defScope s_others) := ⟨rfl, rfl, rfl, by decide +kernel, rfl, by decide +kernel, by decide +kernel⟩
abbrev s_check_kind_of : Stmt := topS 12
abbrev N_check_kind_of : List Str := ["kinds", "kind"]
theorem sc_check_kind_of : FnScope N_check_kind_of ["kinds", "kind"] (defScope s_check_kind_of) := ⟨rfl, rfl, rfl, by decide +kernel, rfl, by decide +kernel, by decide +kernel⟩
abbrev s_Shares_gains : Stmt := clsS 18 4
abbrev N_Shares_gains : List Str := ["self", "kind", "lacking", "counts", "missing", "letter", "length"]
theorem sc_Shares_gains : FnScope N_Shares_gains ["self", "kind", "lacking"] (defScope s_Shares_gains) := ⟨rfl, rfl, rfl, by decide +kernel, rfl, by decide +kernel, by decide +kernel⟩
abbrev s_with_count : Stmt := topS 10
abbrev N_with_count : List Str := ["crowd", "kind", "count"]
theorem sc_with_count : FnScope N_with_count ["crowd", "kind", "count"] (defScope s_with_count) := ⟨rfl, rfl, rfl, by decide +kernel, rfl, by decide +kernel, by decide +kernel⟩
abbrev s_Shares__end_beside : Stmt := clsS 18 7
abbrev N_Shares__end_beside : List Str := ["self", "crowd", "kind", "other", "third", "gained", "chairs", "count"]
theorem sc_Shares__end_beside : FnScope N_Shares__end_beside ["self", "crowd", "kind"] (defScope s_Shares__end_beside) := ⟨rfl, rfl, rfl, by decide +kernel, rfl, by decide +kernel, by decide +kernel⟩
abbrev s_Shares_end : Stmt := clsS 18 5
abbrev N_Shares_end : List Str := ["self", "crowd", "lacking", "kind"]
theorem sc_Shares_end : FnScope N_Shares_end ["self", "crowd"] (defScope s_Shares_end) := ⟨rfl, rfl, rfl, by decide +kernel, rfl, by decide +kernel, by decide +kernel⟩
abbrev s__law_due_end : Stmt := topS 30
abbrev N__law_due_end : List Str := ["keep", "words", "crowd", "chairs", "lacks", "stays", "x", "third", "others_v", "y"]
theorem sc__law_due_end : FnScope N__law_due_end ["keep", "words", "crowd"] (defScope s__law_due_end) := ⟨rfl, rfl, rfl, by decide +kernel, rfl, by decide +kernel, by decide +kernel⟩
abbrev s__law_ends_right : Stmt := topS 42
abbrev N__law_ends_right : List Str := ["shares", "keep", "words", "crowds", "crowd"]
theorem sc__law_ends_right : FnScope N__law_ends_right ["shares", "keep", "words", "crowds"] (defScope s__law_ends_right) := ⟨rfl, rfl, rfl, by decide +kernel, rfl, by decide +kernel, by decide +kernel⟩
abbrev s_Shares_goes : Stmt := clsS 18 6
abbrev N_Shares_goes : List Str := ["self", "meeting", "end", "kind"]
theorem sc_Shares_goes : FnScope N_Shares_goes ["self", "meeting"] (defScope s_Shares_goes) := ⟨rfl, rfl, rfl, by decide +kernel, rfl, by decide +kernel, by decide +kernel⟩
abbrev s__law_goes_right : Stmt := topS 43
abbrev N__law_goes_right : List Str := ["shares", "keep", "words", "meetings", "meeting", "stays", "due", "x"]
theorem sc__law_goes_right : FnScope N__law_goes_right ["shares", "keep", "words", "meetings"] (defScope s__law_goes_right) := ⟨rfl, rfl, rfl, by decide +kernel, rfl, by decide +kernel, by decide +kernel⟩
abbrev s_Shares_letters : Stmt := clsS 18 3
abbrev N_Shares_letters : List Str := ["self", "kind", "letter", "length", "_"]
theorem sc_Shares_letters : FnScope N_Shares_letters ["self", "kind"] (defScope s_Shares_letters) := ⟨rfl, rfl, rfl, by decide +kernel, rfl, by decide +kernel, by decide +kernel⟩
abbrev s__law_refused_letters : Stmt := topS 40
abbrev N__law_refused_letters : List Str := ["shares", "kind", "e", "f"]
theorem sc__law_refused_letters : FnScope N__law_refused_letters ["shares", "kind"] (defScope s__law_refused_letters) := ⟨rfl, rfl, rfl, by decide +kernel, rfl, by decide +kernel, by decide +kernel⟩
abbrev s__law_spelled : Stmt := topS 29
abbrev N__law_spelled : List Str := ["word", "letters", "letter", "length"]
theorem sc__law_spelled : FnScope N__law_spelled ["word"] (defScope s__law_spelled) := ⟨rfl, rfl, rfl, by decide +kernel, rfl, by decide +kernel, by decide +kernel⟩
abbrev s__law_letters_right : Stmt := topS 44
abbrev N__law_letters_right : List Str := ["shares", "words", "pool", "x", "long", "number", "due", "letters", "told", "y"]
theorem sc__law_letters_right : FnScope N__law_letters_right ["shares", "words", "pool"] (defScope s__law_letters_right) := ⟨rfl, rfl, rfl, by decide +kernel, rfl, by decide +kernel, by decide +kernel⟩
abbrev s__law_refused_end : Stmt := topS 37
abbrev N__law_refused_end : List Str := ["shares", "crowd", "e"]
theorem sc__law_refused_end : FnScope N__law_refused_end ["shares", "crowd"] (defScope s__law_refused_end) := ⟨rfl, rfl, rfl, by decide +kernel, rfl, by decide +kernel, by decide +kernel⟩
abbrev s__law_refused_goes : Stmt := topS 38
abbrev N__law_refused_goes : List Str := ["shares", "meeting", "e"]
theorem sc__law_refused_goes : FnScope N__law_refused_goes ["shares", "meeting"] (defScope s__law_refused_goes) := ⟨rfl, rfl, rfl, by decide +kernel, rfl, by decide +kernel, by decide +kernel⟩
abbrev s__law_refused_gains : Stmt := topS 39
abbrev N__law_refused_gains : List Str := ["shares", "kind", "lacking", "e", "f"]
theorem sc__law_refused_gains : FnScope N__law_refused_gains ["shares", "kind", "lacking"] (defScope s__law_refused_gains) := ⟨rfl, rfl, rfl, by decide +kernel, rfl, by decide +kernel, by decide +kernel⟩
abbrev s__law_refusals_right : Stmt := topS 45
abbrev N__law_refusals_right : List Str := ["shares", "keep", "crowd", "meeting", "pool", "at", "after", "below", "wrong", "moved", "more", "there", "less", "kind", "due", "x", "lacking"]
theorem sc__law_refusals_right : FnScope N__law_refusals_right ["shares", "keep", "crowd", "meeting", "pool"] (defScope s__law_refusals_right) := ⟨rfl, rfl, rfl, by decide +kernel, rfl, by decide +kernel, by decide +kernel⟩
abbrev s__law_limit_right : Stmt := topS 46
abbrev N__law_limit_right : List Str := ["pool", "long", "x", "letter", "keep", "words"]
theorem sc__law_limit_right : FnScope N__law_limit_right ["pool"] (defScope s__law_limit_right) := ⟨rfl, rfl, rfl, by decide +kernel, rfl, by decide +kernel, by decide +kernel⟩
abbrev s_law : Stmt := topS 47
abbrev N_law : List Str := ["script", "pool", "words", "keep", "crowds", "meetings", "given", "x", "other", "shares", "second", "word"]
theorem sc_law : FnScope N_law ["script"] (defScope s_law) := ⟨rfl, rfl, rfl, by decide +kernel, rfl, by decide +kernel, by decide +kernel⟩
/-- what the top leaves -/
structure Txt (P : Program) (K : PySem.W.Frag) (mg : Str → Option Value) where
  m_ValueError : mg "ValueError" = none
  m_abs : mg "abs" = none
  m_all : mg "all" = none
  m_bool : mg "bool" = none
  m_int : mg "int" = none
  m_isinstance : mg "isinstance" = none
  m_len : mg "len" = none
  m_list : mg "list" = none
  m_max : mg "max" = none
  m_min : mg "min" = none
  m_range : mg "range" = none
  m_str : mg "str" = none
  m_sum : mg "sum" = none
  m_tuple : mg "tuple" = none
  k_MOST_CHAIRS : ∃ t, mg "MOST_CHAIRS" = some (.int 1000000000000000000 t)
  k_MOST_LETTERS : ∃ t, mg "MOST_LETTERS" = some (.int 1000 t)
  k_MOST_STRETCHES : ∃ t, mg "MOST_STRETCHES" = some (.int 200 t)
  f__law_pool : Addr
  d__law_pool : FuncData
  F__law_pool : Fun K "_law_pool" "_law_pool" s__law_pool f__law_pool d__law_pool
  g__law_pool : mg "_law_pool" = some (.ref f__law_pool)
  B__law_pool : Binds K d__law_pool ["script", "at"] []
  f__law_draw : Addr
  d__law_draw : FuncData
  F__law_draw : Fun K "_law_draw" "_law_draw" s__law_draw f__law_draw d__law_draw
  g__law_draw : mg "_law_draw" = some (.ref f__law_draw)
  B__law_draw : Binds K d__law_draw ["pool", "many"] []
  f__law_great : Addr
  d__law_great : FuncData
  F__law_great : Fun K "_law_great" "_law_great" s__law_great f__law_great d__law_great
  g__law_great : mg "_law_great" = some (.ref f__law_great)
  B__law_great : Binds K d__law_great ["pool"] []
  f__law_drawn_word : Addr
  d__law_drawn_word : FuncData
  F__law_drawn_word : Fun K "_law_drawn_word" "_law_drawn_word" s__law_drawn_word f__law_drawn_word d__law_drawn_word
  g__law_drawn_word : mg "_law_drawn_word" = some (.ref f__law_drawn_word)
  B__law_drawn_word : Binds K d__law_drawn_word ["pool", "kind", "room", "plain"] []
  f__law_long : Addr
  d__law_long : FuncData
  F__law_long : Fun K "_law_long" "_law_long" s__law_long f__law_long d__law_long
  g__law_long : mg "_law_long" = some (.ref f__law_long)
  B__law_long : Binds K d__law_long ["word"] []
  f__law_words : Addr
  d__law_words : FuncData
  F__law_words : Fun K "_law_words" "_law_words" s__law_words f__law_words d__law_words
  g__law_words : mg "_law_words" = some (.ref f__law_words)
  B__law_words : Binds K d__law_words ["pool"] []
  f__law_lack : Addr
  d__law_lack : FuncData
  F__law_lack : Fun K "_law_lack" "_law_lack" s__law_lack f__law_lack d__law_lack
  g__law_lack : mg "_law_lack" = some (.ref f__law_lack)
  B__law_lack : Binds K d__law_lack ["pool", "word"] []
  f__law_letters_of : Addr
  d__law_letters_of : FuncData
  F__law_letters_of : Fun K "_law_letters_of" "_law_letters_of" s__law_letters_of f__law_letters_of d__law_letters_of
  g__law_letters_of : mg "_law_letters_of" = some (.ref f__law_letters_of)
  B__law_letters_of : Binds K d__law_letters_of ["word", "number", "kind"] []
  f__law_near : Addr
  d__law_near : FuncData
  F__law_near : Fun K "_law_near" "_law_near" s__law_near f__law_near d__law_near
  g__law_near : mg "_law_near" = some (.ref f__law_near)
  B__law_near : Binds K d__law_near ["pool", "keep", "words", "whole"] []
  f__law_any : Addr
  d__law_any : FuncData
  F__law_any : Fun K "_law_any" "_law_any" s__law_any f__law_any d__law_any
  g__law_any : mg "_law_any" = some (.ref f__law_any)
  B__law_any : Binds K d__law_any ["pool", "keep"] []
  f__law_any_meeting : Addr
  d__law_any_meeting : FuncData
  F__law_any_meeting : Fun K "_law_any_meeting" "_law_any_meeting" s__law_any_meeting f__law_any_meeting d__law_any_meeting
  g__law_any_meeting : mg "_law_any_meeting" = some (.ref f__law_any_meeting)
  B__law_any_meeting : Binds K d__law_any_meeting ["pool", "chairs"] []
  f__law_turned : Addr
  d__law_turned : FuncData
  F__law_turned : Fun K "_law_turned" "_law_turned" s__law_turned f__law_turned d__law_turned
  g__law_turned : mg "_law_turned" = some (.ref f__law_turned)
  B__law_turned : Binds K d__law_turned ["word", "kind", "at"] []
  f__is_word : Addr
  d__is_word : FuncData
  F__is_word : Fun K "_is_word" "_is_word" s__is_word f__is_word d__is_word
  g__is_word : mg "_is_word" = some (.ref f__is_word)
  B__is_word : Binds K d__is_word ["word", "kind", "length"] []
  f_Shares___init__ : Addr
  d_Shares___init__ : FuncData
  F_Shares___init__ : Fun K "__init__" "Shares.__init__" s_Shares___init__ f_Shares___init__ d_Shares___init__
  B_Shares___init__ : Binds K d_Shares___init__ ["self", "keep", "words"] []
  fn_Shares___init__ : PySem.W.isFn K (.ref f_Shares___init__) = true
  f_Shares___eq__ : Addr
  d_Shares___eq__ : FuncData
  F_Shares___eq__ : Fun K "__eq__" "Shares.__eq__" s_Shares___eq__ f_Shares___eq__ d_Shares___eq__
  B_Shares___eq__ : Binds K d_Shares___eq__ ["self", "other"] []
  fn_Shares___eq__ : PySem.W.isFn K (.ref f_Shares___eq__) = true
  f__law_same : Addr
  d__law_same : FuncData
  F__law_same : Fun K "_law_same" "_law_same" s__law_same f__law_same d__law_same
  g__law_same : mg "_law_same" = some (.ref f__law_same)
  B__law_same : Binds K d__law_same ["got", "due"] []
  f__law_fields_right : Addr
  d__law_fields_right : FuncData
  F__law_fields_right : Fun K "_law_fields_right" "_law_fields_right" s__law_fields_right f__law_fields_right d__law_fields_right
  g__law_fields_right : mg "_law_fields_right" = some (.ref f__law_fields_right)
  B__law_fields_right : Binds K d__law_fields_right ["shares", "keep", "words"] []
  f_check_counts : Addr
  d_check_counts : FuncData
  F_check_counts : Fun K "check_counts" "check_counts" s_check_counts f_check_counts d_check_counts
  g_check_counts : mg "check_counts" = some (.ref f_check_counts)
  B_check_counts : Binds K d_check_counts ["kinds", "crowd"] []
  f_size : Addr
  d_size : FuncData
  F_size : Fun K "size" "size" s_size f_size d_size
  g_size : mg "size" = some (.ref f_size)
  B_size : Binds K d_size ["crowd"] []
  f_others : Addr
  d_others : FuncData
  F_others : Fun K "others" "others" s_others f_others d_others
  g_others : mg "others" = some (.ref f_others)
  B_others : Binds K d_others ["kind"] []
  f_check_kind_of : Addr
  d_check_kind_of : FuncData
  F_check_kind_of : Fun K "check_kind_of" "check_kind_of" s_check_kind_of f_check_kind_of d_check_kind_of
  g_check_kind_of : mg "check_kind_of" = some (.ref f_check_kind_of)
  B_check_kind_of : Binds K d_check_kind_of ["kinds", "kind"] []
  f_Shares_gains : Addr
  d_Shares_gains : FuncData
  F_Shares_gains : Fun K "gains" "Shares.gains" s_Shares_gains f_Shares_gains d_Shares_gains
  B_Shares_gains : Binds K d_Shares_gains ["self", "kind", "lacking"] []
  fn_Shares_gains : PySem.W.isFn K (.ref f_Shares_gains) = true
  f_with_count : Addr
  d_with_count : FuncData
  F_with_count : Fun K "with_count" "with_count" s_with_count f_with_count d_with_count
  g_with_count : mg "with_count" = some (.ref f_with_count)
  B_with_count : Binds K d_with_count ["crowd", "kind", "count"] []
  f_Shares__end_beside : Addr
  d_Shares__end_beside : FuncData
  F_Shares__end_beside : Fun K "_end_beside" "Shares._end_beside" s_Shares__end_beside f_Shares__end_beside d_Shares__end_beside
  B_Shares__end_beside : Binds K d_Shares__end_beside ["self", "crowd", "kind"] []
  fn_Shares__end_beside : PySem.W.isFn K (.ref f_Shares__end_beside) = true
  f_Shares_end : Addr
  d_Shares_end : FuncData
  F_Shares_end : Fun K "end" "Shares.end" s_Shares_end f_Shares_end d_Shares_end
  B_Shares_end : Binds K d_Shares_end ["self", "crowd"] []
  fn_Shares_end : PySem.W.isFn K (.ref f_Shares_end) = true
  f__law_due_end : Addr
  d__law_due_end : FuncData
  F__law_due_end : Fun K "_law_due_end" "_law_due_end" s__law_due_end f__law_due_end d__law_due_end
  g__law_due_end : mg "_law_due_end" = some (.ref f__law_due_end)
  B__law_due_end : Binds K d__law_due_end ["keep", "words", "crowd"] []
  f__law_ends_right : Addr
  d__law_ends_right : FuncData
  F__law_ends_right : Fun K "_law_ends_right" "_law_ends_right" s__law_ends_right f__law_ends_right d__law_ends_right
  g__law_ends_right : mg "_law_ends_right" = some (.ref f__law_ends_right)
  B__law_ends_right : Binds K d__law_ends_right ["shares", "keep", "words", "crowds"] []
  f_Shares_goes : Addr
  d_Shares_goes : FuncData
  F_Shares_goes : Fun K "goes" "Shares.goes" s_Shares_goes f_Shares_goes d_Shares_goes
  B_Shares_goes : Binds K d_Shares_goes ["self", "meeting"] []
  fn_Shares_goes : PySem.W.isFn K (.ref f_Shares_goes) = true
  f__law_goes_right : Addr
  d__law_goes_right : FuncData
  F__law_goes_right : Fun K "_law_goes_right" "_law_goes_right" s__law_goes_right f__law_goes_right d__law_goes_right
  g__law_goes_right : mg "_law_goes_right" = some (.ref f__law_goes_right)
  B__law_goes_right : Binds K d__law_goes_right ["shares", "keep", "words", "meetings"] []
  f_Shares_letters : Addr
  d_Shares_letters : FuncData
  F_Shares_letters : Fun K "letters" "Shares.letters" s_Shares_letters f_Shares_letters d_Shares_letters
  B_Shares_letters : Binds K d_Shares_letters ["self", "kind"] []
  fn_Shares_letters : PySem.W.isFn K (.ref f_Shares_letters) = true
  f__law_refused_letters : Addr
  d__law_refused_letters : FuncData
  F__law_refused_letters : Fun K "_law_refused_letters" "_law_refused_letters" s__law_refused_letters f__law_refused_letters d__law_refused_letters
  g__law_refused_letters : mg "_law_refused_letters" = some (.ref f__law_refused_letters)
  B__law_refused_letters : Binds K d__law_refused_letters ["shares", "kind"] []
  f__law_spelled : Addr
  d__law_spelled : FuncData
  F__law_spelled : Fun K "_law_spelled" "_law_spelled" s__law_spelled f__law_spelled d__law_spelled
  g__law_spelled : mg "_law_spelled" = some (.ref f__law_spelled)
  B__law_spelled : Binds K d__law_spelled ["word"] []
  f__law_letters_right : Addr
  d__law_letters_right : FuncData
  F__law_letters_right : Fun K "_law_letters_right" "_law_letters_right" s__law_letters_right f__law_letters_right d__law_letters_right
  g__law_letters_right : mg "_law_letters_right" = some (.ref f__law_letters_right)
  B__law_letters_right : Binds K d__law_letters_right ["shares", "words", "pool"] []
  f__law_refused_end : Addr
  d__law_refused_end : FuncData
  F__law_refused_end : Fun K "_law_refused_end" "_law_refused_end" s__law_refused_end f__law_refused_end d__law_refused_end
  g__law_refused_end : mg "_law_refused_end" = some (.ref f__law_refused_end)
  B__law_refused_end : Binds K d__law_refused_end ["shares", "crowd"] []
  f__law_refused_goes : Addr
  d__law_refused_goes : FuncData
  F__law_refused_goes : Fun K "_law_refused_goes" "_law_refused_goes" s__law_refused_goes f__law_refused_goes d__law_refused_goes
  g__law_refused_goes : mg "_law_refused_goes" = some (.ref f__law_refused_goes)
  B__law_refused_goes : Binds K d__law_refused_goes ["shares", "meeting"] []
  f__law_refused_gains : Addr
  d__law_refused_gains : FuncData
  F__law_refused_gains : Fun K "_law_refused_gains" "_law_refused_gains" s__law_refused_gains f__law_refused_gains d__law_refused_gains
  g__law_refused_gains : mg "_law_refused_gains" = some (.ref f__law_refused_gains)
  B__law_refused_gains : Binds K d__law_refused_gains ["shares", "kind", "lacking"] []
  f__law_refusals_right : Addr
  d__law_refusals_right : FuncData
  F__law_refusals_right : Fun K "_law_refusals_right" "_law_refusals_right" s__law_refusals_right f__law_refusals_right d__law_refusals_right
  g__law_refusals_right : mg "_law_refusals_right" = some (.ref f__law_refusals_right)
  B__law_refusals_right : Binds K d__law_refusals_right ["shares", "keep", "crowd", "meeting", "pool"] []
  f__law_limit_right : Addr
  d__law_limit_right : FuncData
  F__law_limit_right : Fun K "_law_limit_right" "_law_limit_right" s__law_limit_right f__law_limit_right d__law_limit_right
  g__law_limit_right : mg "_law_limit_right" = some (.ref f__law_limit_right)
  B__law_limit_right : Binds K d__law_limit_right ["pool"] []
  g_Shares : mg "Shares" = some (.ref (cOf mg "Shares"))
  cl_Shares : Cls K (cOf mg "Shares")
  cr_Shares : ClX.CRead K (cOf mg "Shares") (.type "type")
  mk_Shares : Mk K (cOf mg "Shares") f_Shares___init__
  eq_Shares : PySem.W.findIn K (.ref (cOf mg "Shares")) "__eq__" = some (some (.ref f_Shares___eq__))
  na_Shares_chairs : NoAttr K (cOf mg "Shares") "chairs"
  na_Shares_keep : NoAttr K (cOf mg "Shares") "keep"
  na_Shares_words : NoAttr K (cOf mg "Shares") "words"
  mt_Shares__end_beside : Meth K (cOf mg "Shares") "_end_beside" f_Shares__end_beside
  mt_Shares_end : Meth K (cOf mg "Shares") "end" f_Shares_end
  mt_Shares_gains : Meth K (cOf mg "Shares") "gains" f_Shares_gains
  mt_Shares_goes : Meth K (cOf mg "Shares") "goes" f_Shares_goes
  mt_Shares_letters : Meth K (cOf mg "Shares") "letters" f_Shares_letters
  isc_Shares_Shares : ∀ c' b, ([("Shares", true)] : List (Str × Bool)).lookup c' = some b → InsC' K (cOf mg c') ∧ PySem.W.kitOne K (.ref (cOf mg c')) (.ref (cOf mg "Shares")) = some b
  C_HallError : Addr
  g_HallError : mg "HallError" = some (.ref C_HallError)
  C_BadCrowd : Addr
  I_BadCrowd : Addr
  g_BadCrowd : mg "BadCrowd" = some (.ref C_BadCrowd)
  T_BadCrowd : SupTxt P K mg "BadCrowd" "crowd" C_BadCrowd I_BadCrowd
  C_BadKind : Addr
  I_BadKind : Addr
  g_BadKind : mg "BadKind" = some (.ref C_BadKind)
  T_BadKind : SupTxt P K mg "BadKind" "kind" C_BadKind I_BadKind
  C_BadNumber : Addr
  I_BadNumber : Addr
  g_BadNumber : mg "BadNumber" = some (.ref C_BadNumber)
  T_BadNumber : SupTxt P K mg "BadNumber" "number" C_BadNumber I_BadNumber
  C_TooLarge : Addr
  I_TooLarge : Addr
  g_TooLarge : mg "TooLarge" = some (.ref C_TooLarge)
  T_TooLarge : SupTxt P K mg "TooLarge" "size" C_TooLarge I_TooLarge
  C_BadShares : Addr
  I_BadShares : Addr
  g_BadShares : mg "BadShares" = some (.ref C_BadShares)
  T_BadShares : SupTxt P K mg "BadShares" "what" C_BadShares I_BadShares
  xf_BadCrowd : XfC K (cOf mg "BadCrowd")
  xn_BadCrowd : PySem.W.findIn K (.ref (cOf mg "BadCrowd")) "crowd" = some none
  ec_BadCrowd : ExcC K (cOf mg "BadCrowd")
  xf_BadKind : XfC K (cOf mg "BadKind")
  xn_BadKind : PySem.W.findIn K (.ref (cOf mg "BadKind")) "kind" = some none
  ec_BadKind : ExcC K (cOf mg "BadKind")
  xf_BadNumber : XfC K (cOf mg "BadNumber")
  xn_BadNumber : PySem.W.findIn K (.ref (cOf mg "BadNumber")) "number" = some none
  ec_BadNumber : ExcC K (cOf mg "BadNumber")
  xf_TooLarge : XfC K (cOf mg "TooLarge")
  xn_TooLarge : PySem.W.findIn K (.ref (cOf mg "TooLarge")) "size" = some none
  ec_TooLarge : ExcC K (cOf mg "TooLarge")
  exm_BadCrowd_BadCrowd : PySem.W.exmOne K (.ref (cOf mg "BadCrowd")) (.ref C_BadCrowd) = some true
  exm_BadKind_BadKind : PySem.W.exmOne K (.ref (cOf mg "BadKind")) (.ref C_BadKind) = some true
  exm_BadNumber_BadKind : PySem.W.exmOne K (.ref (cOf mg "BadNumber")) (.ref C_BadKind) = some false
  exm_BadNumber_BadNumber : PySem.W.exmOne K (.ref (cOf mg "BadNumber")) (.ref C_BadNumber) = some true
  exm_TooLarge_BadKind : PySem.W.exmOne K (.ref (cOf mg "TooLarge")) (.ref C_BadKind) = some false
  exm_TooLarge_TooLarge : PySem.W.exmOne K (.ref (cOf mg "TooLarge")) (.ref C_TooLarge) = some true
  kit_BadCrowd_BadKind : PySem.W.kitOne K (.ref (cOf mg "BadCrowd")) (.ref C_BadKind) = some false
  kit_BadCrowd_BadNumber : PySem.W.kitOne K (.ref (cOf mg "BadCrowd")) (.ref C_BadNumber) = some false
  kit_BadCrowd_HallError : PySem.W.kitOne K (.ref (cOf mg "BadCrowd")) (.ref C_HallError) = some true
  kit_BadCrowd_ValueError : PySem.W.kitOne K (.ref (cOf mg "BadCrowd")) (.type "ValueError") = some true
  kit_BadKind_BadNumber : PySem.W.kitOne K (.ref (cOf mg "BadKind")) (.ref C_BadNumber) = some false
  kit_BadKind_HallError : PySem.W.kitOne K (.ref (cOf mg "BadKind")) (.ref C_HallError) = some true
  kit_BadKind_TooLarge : PySem.W.kitOne K (.ref (cOf mg "BadKind")) (.ref C_TooLarge) = some false
  kit_BadKind_ValueError : PySem.W.kitOne K (.ref (cOf mg "BadKind")) (.type "ValueError") = some true
  kit_BadNumber_BadKind : PySem.W.kitOne K (.ref (cOf mg "BadNumber")) (.ref C_BadKind) = some false
  kit_BadNumber_HallError : PySem.W.kitOne K (.ref (cOf mg "BadNumber")) (.ref C_HallError) = some true
  kit_BadNumber_ValueError : PySem.W.kitOne K (.ref (cOf mg "BadNumber")) (.type "ValueError") = some true
  kit_TooLarge_BadKind : PySem.W.kitOne K (.ref (cOf mg "TooLarge")) (.ref C_BadKind) = some false
  kit_TooLarge_HallError : PySem.W.kitOne K (.ref (cOf mg "TooLarge")) (.ref C_HallError) = some true
  kit_TooLarge_ValueError : PySem.W.kitOne K (.ref (cOf mg "TooLarge")) (.type "ValueError") = some true
section
variable {P : Program} {w : World} {K : PySem.W.Frag} {mg : Str → Option Value} {base : Heap}
theorem okM__law_pool (T : Txt P K mg) : FnOk P w K mg base (L2.CX P w) 1 T.f__law_pool T.d__law_pool ["script", "at"] (spD K mg 2 M__law_pool) :=
  fn_gcM (fn_ok T.F__law_pool sc__law_pool (fun cdv A outer s H E hr => (ss_cons (s_set (i := 2) sc__law_pool.nd d_int)
      (ss_cons (s_if (t_lt (d_var 1) (d_callB call_len_seq cd_len T.m_len PySem.boot_len (a_cons (d_var 0) a_nil))) (ss_one (s_set (i := 2) sc__law_pool.nd (d_callB call_abs cd_abs T.m_abs (by decide +kernel) (a_cons (d_callTy call_int1 cd_int1 T.m_int (by decide +kernel) (a_cons (d_ix (d_var 0) (d_var 1)) a_nil)) a_nil)))) ss_nil)
      (ss_cons (s_if (t_ge (d_var 2) (d_pow d_int d_int)) (ss_one (s_ret (d_lst true (a_cons (d_sub (d_var 2) (d_pow d_int d_int)) (a_cons d_int (a_cons (d_mod (d_callTy call_int1 cd_int1 T.m_int (by decide +kernel) (a_cons (d_var 2) a_nil)) d_int) a_nil)))))) ss_nil)
      (ss_one (s_ret (d_lst true (a_cons d_int (a_cons d_int (a_cons (d_mod (d_callTy call_int1 cd_int1 T.m_int (by decide +kernel) (a_cons (d_var 2) a_nil)) d_int) a_nil)))))))))))
theorem okF__law_draw (T : Txt P K mg) : FnOk P w K mg base (L2.CX P w) 1 T.f__law_draw T.d__law_draw ["pool", "many"] (spD K mg 2 F__law_draw) :=
  fn_gcD (fn_ok T.F__law_draw sc__law_draw (fun cdv A outer s H E hr => (ss_cons (s_setIx (d_add (d_ix (d_var 0) d_int) d_int) (d_var 0) d_int)
      (ss_cons (s_if (t_gt (d_ix (d_var 0) d_int) d_int) (ss_cons (s_set (i := 2) sc__law_draw.nd (d_mod (d_callTy call_int1 cd_int1 T.m_int (by decide +kernel) (a_cons (d_ix (d_var 0) d_int) a_nil)) (d_var 1)))
      (ss_cons (s_setIx (d_div (d_ix (d_var 0) d_int) (d_var 1)) (d_var 0) d_int)
      (ss_one (s_ret (d_var 2))))) ss_nil)
      (ss_cons (s_set (i := 3) sc__law_draw.nd (d_mod (d_callTy call_int1 cd_int1 T.m_int (by decide +kernel) (a_cons (d_add (d_add (d_mul (d_ix (d_var 0) d_int) d_int) (d_mul (d_ix (d_var 0) d_int) d_int)) d_int) a_nil)) d_int))
      (ss_cons (s_set (i := 4) sc__law_draw.nd (d_mod (d_callTy call_int1 cd_int1 T.m_int (by decide +kernel) (a_cons (d_add (d_add (d_add (d_mul (d_var 3) (d_var 3)) (d_mul (d_ix (d_var 0) d_int) d_int)) (d_div (d_ix (d_var 0) d_int) d_int)) d_int) a_nil)) d_int))
      (ss_cons (s_set (i := 5) sc__law_draw.nd (d_mod (d_callTy call_int1 cd_int1 T.m_int (by decide +kernel) (a_cons (d_add (d_add (d_mul (d_var 4) d_int) (d_div (d_var 4) d_int)) (d_mul (d_ix (d_var 0) d_int) (d_ix (d_var 0) d_int))) a_nil)) d_int))
      (ss_one (s_ret (d_mod (d_callTy call_int1 cd_int1 T.m_int (by decide +kernel) (a_cons (d_div (d_var 5) d_int) a_nil)) (d_var 1)))))))))))
theorem okF__law_great (T : Txt P K mg) : FnOk P w K mg base (L2.CX P w) 2 T.f__law_great T.d__law_great ["pool"] (spD K mg 1 F__law_great) :=
  fn_gcD (fn_ok T.F__law_great sc__law_great (fun cdv A outer s H E hr => (ss_one (s_ret (d_add (d_mul (d_callF (n := 2) (okF__law_draw T) rfl (hr.mono (by decide)) T.g__law_draw T.F__law_draw.kp T.B__law_draw (takes_of rfl rfl rfl rfl) (a_cons (d_var 0) (a_cons (d_pow d_int d_int) a_nil))) (d_pow d_int d_int)) (d_callF (n := 2) (okF__law_draw T) rfl (hr.mono (by decide)) T.g__law_draw T.F__law_draw.kp T.B__law_draw (takes_of rfl rfl rfl rfl) (a_cons (d_var 0) (a_cons (d_pow d_int d_int) a_nil))))))))
theorem okF__law_drawn_word (T : Txt P K mg) : FnOk P w K mg base (L2.CX P w) 3 T.f__law_drawn_word T.d__law_drawn_word ["pool", "kind", "room", "plain"] (spD K mg 4 F__law_drawn_word) :=
  fn_gcD (fn_ok T.F__law_drawn_word sc__law_drawn_word (fun cdv A outer s H E hr => (ss_cons (s_setLcV (i := 4) false rfl sc__law_drawn_word.nd (sw_true rfl rfl rfl (by decide +kernel)) (i_rng1 T.m_range (a_cons d_int a_nil)) (blkOk_by (own := [("x", 11)]) (N := N__law_drawn_word) (sc := defScope s__law_drawn_word) (by decide +kernel)) (fun _ _ _ _ _ => (g_name (i := 11) sc__law_drawn_word.nd)) (fun _ _ _ _ _ => (ts_one (t_ne hr.units (d_var 11) (d_var 1)))) (fun _ _ _ _ _ => (d_var 11)))
      (ss_cons (s_set (i := 5) sc__law_drawn_word.nd (d_callF (n := 2) (okF__law_draw T) rfl (hr.mono (by decide)) T.g__law_draw T.F__law_draw.kp T.B__law_draw (takes_of rfl rfl rfl rfl) (a_cons (d_var 0) (a_cons d_int a_nil))))
      (ss_cons (s_if (t_eq hr.units (d_callF (n := 2) (okF__law_draw T) rfl (hr.mono (by decide)) T.g__law_draw T.F__law_draw.kp T.B__law_draw (takes_of rfl rfl rfl rfl) (a_cons (d_var 0) (a_cons d_int a_nil))) d_int) (ss_one (s_set (i := 5) sc__law_drawn_word.nd (d_callF (n := 2) (okF__law_draw T) rfl (hr.mono (by decide)) T.g__law_draw T.F__law_draw.kp T.B__law_draw (takes_of rfl rfl rfl rfl) (a_cons (d_var 0) (a_cons d_int a_nil))))) ss_nil)
      (ss_cons (s_set (i := 6) sc__law_drawn_word.nd (d_callF (n := 2) (okF__law_draw T) rfl (hr.mono (by decide)) T.g__law_draw T.F__law_draw.kp T.B__law_draw (takes_of rfl rfl rfl rfl) (a_cons (d_var 0) (a_cons d_int a_nil))))
      (ss_cons (s_set (i := 7) sc__law_drawn_word.nd (d_lst true a_nil))
      (ss_cons (s_set (i := 8) sc__law_drawn_word.nd (d_var 2))
      (ss_cons (s_for (passes_of rfl) rfl (i_rng1 T.m_range (a_cons (d_var 5) a_nil)) (g_name (i := 9) sc__law_drawn_word.nd) (ss_cl [9, 10] (ss_cons (s_set (i := 10) sc__law_drawn_word.nd (d_add d_int (d_callF (n := 2) (okF__law_draw T) rfl (hr.mono (by decide)) T.g__law_draw T.F__law_draw.kp T.B__law_draw (takes_of rfl rfl rfl rfl) (a_cons (d_var 0) (a_cons d_int a_nil)))))
      (ss_cons (s_if (t_of (w_and (t_not (t_tru (d_var 3))) (w_and1 (t_eq hr.units (d_callF (n := 2) (okF__law_draw T) rfl (hr.mono (by decide)) T.g__law_draw T.F__law_draw.kp T.B__law_draw (takes_of rfl rfl rfl rfl) (a_cons (d_var 0) (a_cons d_int a_nil))) d_int)))) (ss_cons (s_set (i := 10) sc__law_drawn_word.nd (d_add d_int (d_mod (d_callTy call_int1 cd_int1 T.m_int (by decide +kernel) (a_cons (d_callF (n := 1) (okF__law_great T) rfl (hr.mono (by decide)) T.g__law_great T.F__law_great.kp T.B__law_great (takes_of rfl rfl rfl rfl) (a_cons (d_var 0) a_nil)) a_nil)) (d_pow d_int d_int))))
      (ss_one (s_if (t_eq hr.units (d_callF (n := 2) (okF__law_draw T) rfl (hr.mono (by decide)) T.g__law_draw T.F__law_draw.kp T.B__law_draw (takes_of rfl rfl rfl rfl) (a_cons (d_var 0) (a_cons d_int a_nil))) d_int) (ss_one (s_set (i := 10) sc__law_drawn_word.nd (d_add d_int (d_mod (d_callTy call_int1 cd_int1 T.m_int (by decide +kernel) (a_cons (d_callF (n := 1) (okF__law_great T) rfl (hr.mono (by decide)) T.g__law_great T.F__law_great.kp T.B__law_great (takes_of rfl rfl rfl rfl) (a_cons (d_var 0) a_nil)) a_nil)) (d_pow d_int d_int))))) ss_nil))) ss_nil)
      (ss_one (s_if (t_gt (d_var 8) d_int) (ss_cons (s_expr (d_append (d_var 7) (a_cons (d_tup (a_cons (d_ix (d_var 4) (d_mod (d_callTy call_int1 cd_int1 T.m_int (by decide +kernel) (a_cons (d_add (d_var 6) (d_var 9)) a_nil)) d_int)) (a_cons (d_callB (call_min2 rfl) cd_min2 T.m_min (by decide +kernel) (a_cons (d_var 10) (a_cons (d_var 8) a_nil))) a_nil))) a_nil)))
      (ss_one (s_set (i := 8) sc__law_drawn_word.nd (d_sub (d_var 8) (d_callB (call_min2 rfl) cd_min2 T.m_min (by decide +kernel) (a_cons (d_var 10) (a_cons (d_var 8) a_nil))))))) ss_nil))))))
      (ss_one (s_ret (d_callTy call_tuple_of cd_tuple T.m_tuple (by decide +kernel) (a_cons (d_var 7) a_nil)))))))))))))
theorem okF__law_long (T : Txt P K mg) : FnOk P w K mg base (L2.CX P w) 1 T.f__law_long T.d__law_long ["word"] (spD K mg 1 F__law_long) :=
  fn_gcD (fn_ok T.F__law_long sc__law_long (fun cdv A outer s H E hr => (ss_one (s_ret (d_callB (FC.CallR.or (cr_sum rfl) (cr_sumT rfl)) cd_sum T.m_sum (by decide +kernel) (a_cons (d_lcV false rfl sc__law_long.nd (i_seq (d_var 0)) (blkOk_by (own := [("part", 1)]) (N := N__law_long) (sc := defScope s__law_long) (by decide +kernel)) (fun _ _ _ _ _ => (g_name (i := 1) sc__law_long.nd)) (fun _ _ _ _ _ => ts_nil) (fun _ _ _ _ _ => (d_ix (d_var 1) d_int))) a_nil))))))
theorem okF__law_words (T : Txt P K mg) : FnOk P w K mg base (L2.CX P w) 4 T.f__law_words T.d__law_words ["pool"] (spD K mg 1 F__law_words) :=
  fn_gcD (fn_ok T.F__law_words sc__law_words (fun cdv A outer s H E hr => (ss_cons (s_set (i := 1) sc__law_words.nd (d_eq hr.units (d_callF (n := 2) (okF__law_draw T) rfl (hr.mono (by decide)) T.g__law_draw T.F__law_draw.kp T.B__law_draw (takes_of rfl rfl rfl rfl) (a_cons (d_var 0) (a_cons d_int a_nil))) d_int))
      (ss_cons (s_set (i := 2) sc__law_words.nd (d_lst true a_nil))
      (ss_cons (s_set (i := 3) sc__law_words.nd (d_pow d_int d_int))
      (ss_cons (s_for (passes_of rfl) rfl (i_rng1 T.m_range (a_cons d_int a_nil)) (g_name (i := 4) sc__law_words.nd) (ss_cl [4] (ss_cons (s_expr (d_append (d_var 2) (a_cons (d_callF (n := 4) (okF__law_drawn_word T) rfl (hr.mono (by decide)) T.g__law_drawn_word T.F__law_drawn_word.kp T.B__law_drawn_word (takes_of rfl rfl rfl rfl) (a_cons (d_var 0) (a_cons (d_var 4) (a_cons (d_var 3) (a_cons (d_var 1) a_nil))))) a_nil)))
      (ss_one (s_set (i := 3) sc__law_words.nd (d_sub (d_var 3) (d_callF (n := 1) (okF__law_long T) rfl (hr.mono (by decide)) T.g__law_long T.F__law_long.kp T.B__law_long (takes_of rfl rfl rfl rfl) (a_cons (d_ix (d_var 2) (d_var 4)) a_nil))))))))
      (ss_cons (s_if (t_eq hr.units (d_var 3) (d_pow d_int d_int)) (ss_one (s_setIx (d_tup (a_cons (d_tup (a_cons d_int (a_cons d_int a_nil))) a_nil)) (d_var 2) d_int)) ss_nil)
      (ss_one (s_ret (d_callTy call_tuple_of cd_tuple T.m_tuple (by decide +kernel) (a_cons (d_var 2) a_nil)))))))))))
theorem okF__law_lack (T : Txt P K mg) : FnOk P w K mg base (L2.CX P w) 3 T.f__law_lack T.d__law_lack ["pool", "word"] (spD K mg 2 F__law_lack) :=
  fn_gcD (fn_ok T.F__law_lack sc__law_lack (fun cdv A outer s H E hr => (ss_cons (s_set (i := 2) sc__law_lack.nd (d_callF (n := 1) (okF__law_long T) rfl (hr.mono (by decide)) T.g__law_long T.F__law_long.kp T.B__law_long (takes_of rfl rfl rfl rfl) (a_cons (d_var 1) a_nil)))
      (ss_cons (s_set (i := 3) sc__law_lack.nd (d_callF (n := 2) (okF__law_draw T) rfl (hr.mono (by decide)) T.g__law_draw T.F__law_draw.kp T.B__law_draw (takes_of rfl rfl rfl rfl) (a_cons (d_var 0) (a_cons d_int a_nil))))
      (ss_cons (s_if (t_eq hr.units (d_var 3) d_int) (ss_one (s_ret (d_add d_int (d_mod (d_callTy call_int1 cd_int1 T.m_int (by decide +kernel) (a_cons (d_callF (n := 1) (okF__law_great T) rfl (hr.mono (by decide)) T.g__law_great T.F__law_great.kp T.B__law_great (takes_of rfl rfl rfl rfl) (a_cons (d_var 0) a_nil)) a_nil)) (d_var 2))))) ss_nil)
      (ss_cons (s_if (t_eq hr.units (d_var 3) d_int) (ss_one (s_ret (d_callB (call_min2 rfl) cd_min2 T.m_min (by decide +kernel) (a_cons (d_var 2) (a_cons (d_add d_int (d_callF (n := 2) (okF__law_draw T) rfl (hr.mono (by decide)) T.g__law_draw T.F__law_draw.kp T.B__law_draw (takes_of rfl rfl rfl rfl) (a_cons (d_var 0) (a_cons d_int a_nil)))) a_nil))))) ss_nil)
      (ss_cons (s_set (i := 4) sc__law_lack.nd (d_callF (n := 1) (okF__law_long T) rfl (hr.mono (by decide)) T.g__law_long T.F__law_long.kp T.B__law_long (takes_of rfl rfl rfl rfl) (a_cons (d_slice false (d_var 1) o_none (o_some (d_add d_int (d_callF (n := 2) (okF__law_draw T) rfl (hr.mono (by decide)) T.g__law_draw T.F__law_draw.kp T.B__law_draw (takes_of rfl rfl rfl rfl) (a_cons (d_var 0) (a_cons (d_callB call_len_seq cd_len T.m_len PySem.boot_len (a_cons (d_var 1) a_nil)) a_nil)))))) a_nil)))
      (ss_one (s_ret (d_callB (call_max2 rfl) cd_max2 T.m_max (by decide +kernel) (a_cons d_int (a_cons (d_callB (call_min2 rfl) cd_min2 T.m_min (by decide +kernel) (a_cons (d_var 2) (a_cons (d_sub (d_add (d_var 4) (d_callF (n := 2) (okF__law_draw T) rfl (hr.mono (by decide)) T.g__law_draw T.F__law_draw.kp T.B__law_draw (takes_of rfl rfl rfl rfl) (a_cons (d_var 0) (a_cons d_int a_nil)))) d_int) a_nil))) a_nil))))))))))))
theorem okF__law_letters_of (T : Txt P K mg) : FnOk P w K mg base (L2.CX P w) 1 T.f__law_letters_of T.d__law_letters_of ["word", "number", "kind"] (spD K mg 3 F__law_letters_of) :=
  fn_gcD (fn_ok T.F__law_letters_of sc__law_letters_of (fun cdv A outer s H E hr => (ss_cons (s_set (i := 3) sc__law_letters_of.nd d_int)
      (ss_cons (s_set (i := 4) sc__law_letters_of.nd d_int)
      (ss_cons (s_for (passes_of rfl) rfl (i_seq (d_var 0)) (g_tup rfl (gs_cons (g_name (i := 5) sc__law_letters_of.nd) (gs_cons (g_name (i := 6) sc__law_letters_of.nd) gs_nil))) (ss_cl [5, 6] (ss_cons (s_if (t_eq hr.units (d_var 5) (d_var 2)) (ss_one (s_set (i := 4) sc__law_letters_of.nd (d_add (d_var 4) (d_callB (call_max2 rfl) cd_max2 T.m_max (by decide +kernel) (a_cons d_int (a_cons (d_callB (call_min2 rfl) cd_min2 T.m_min (by decide +kernel) (a_cons (d_var 6) (a_cons (d_sub (d_var 1) (d_var 3)) a_nil))) a_nil)))))) ss_nil)
      (ss_one (s_set (i := 3) sc__law_letters_of.nd (d_add (d_var 3) (d_var 6)))))))
      (ss_one (s_ret (d_var 4))))))))
theorem okF__law_near (T : Txt P K mg) : FnOk P w K mg base (L2.CX P w) 4 T.f__law_near T.d__law_near ["pool", "keep", "words", "whole"] (spD K mg 4 F__law_near) :=
  fn_gcD (fn_ok T.F__law_near sc__law_near (fun cdv A outer s H E hr => (ss_cons (s_set (i := 4) sc__law_near.nd (d_callF (n := 2) (okF__law_draw T) rfl (hr.mono (by decide)) T.g__law_draw T.F__law_draw.kp T.B__law_draw (takes_of rfl rfl rfl rfl) (a_cons (d_var 0) (a_cons d_int a_nil))))
      (ss_cons (s_set (i := 5) sc__law_near.nd d_int)
      (ss_cons (s_if (t_gt (d_ix (d_var 1) (d_var 4)) d_int) (ss_one (s_set (i := 5) sc__law_near.nd (d_callF (n := 2) (okF__law_lack T) rfl (hr.mono (by decide)) T.g__law_lack T.F__law_lack.kp T.B__law_lack (takes_of rfl rfl rfl rfl) (a_cons (d_var 0) (a_cons (d_ix (d_var 2) (d_var 4)) a_nil))))) ss_nil)
      (ss_cons (s_set (i := 6) sc__law_near.nd (d_mod (d_callTy call_int1 cd_int1 T.m_int (by decide +kernel) (a_cons (d_add (d_add (d_var 4) d_int) (d_callF (n := 2) (okF__law_draw T) rfl (hr.mono (by decide)) T.g__law_draw T.F__law_draw.kp T.B__law_draw (takes_of rfl rfl rfl rfl) (a_cons (d_var 0) (a_cons d_int a_nil)))) a_nil)) d_int))
      (ss_cons (s_set (i := 7) sc__law_near.nd (d_sub (d_sub d_int (d_var 4)) (d_var 6)))
      (ss_cons (s_set (i := 8) sc__law_near.nd (d_lst true (a_cons d_int (a_cons d_int (a_cons d_int a_nil)))))
      (ss_cons (s_setIx (d_sub (d_ix (d_var 1) (d_var 4)) (d_var 5)) (d_var 8) (d_var 4))
      (ss_cons (s_setIx (d_callB (call_max2 rfl) cd_max2 T.m_max (by decide +kernel) (a_cons d_int (a_cons (d_sub (d_add (d_add (d_ix (d_var 1) (d_var 6)) (d_callF (n := 3) (okF__law_letters_of T) rfl (hr.mono (by decide)) T.g__law_letters_of T.F__law_letters_of.kp T.B__law_letters_of (takes_of rfl rfl rfl rfl) (a_cons (d_ix (d_var 2) (d_var 4)) (a_cons (d_var 5) (a_cons (d_var 6) a_nil))))) (d_callF (n := 2) (okF__law_draw T) rfl (hr.mono (by decide)) T.g__law_draw T.F__law_draw.kp T.B__law_draw (takes_of rfl rfl rfl rfl) (a_cons (d_var 0) (a_cons d_int a_nil)))) d_int) a_nil))) (d_var 8) (d_var 6))
      (ss_cons (s_setIx (d_callB (call_max2 rfl) cd_max2 T.m_max (by decide +kernel) (a_cons d_int (a_cons (d_sub (d_add (d_add (d_ix (d_var 1) (d_var 7)) (d_callF (n := 3) (okF__law_letters_of T) rfl (hr.mono (by decide)) T.g__law_letters_of T.F__law_letters_of.kp T.B__law_letters_of (takes_of rfl rfl rfl rfl) (a_cons (d_ix (d_var 2) (d_var 4)) (a_cons (d_var 5) (a_cons (d_var 7) a_nil))))) (d_callF (n := 2) (okF__law_draw T) rfl (hr.mono (by decide)) T.g__law_draw T.F__law_draw.kp T.B__law_draw (takes_of rfl rfl rfl rfl) (a_cons (d_var 0) (a_cons d_int a_nil)))) d_int) a_nil))) (d_var 8) (d_var 7))
      (ss_cons (s_if (t_tru (d_var 3)) (ss_cons (s_setIx (d_callB (call_min2 rfl) cd_min2 T.m_min (by decide +kernel) (a_cons (d_ix (d_var 8) (d_var 6)) (a_cons (d_sub (d_add (d_callB (FC.CallR.or (cr_sum rfl) (cr_sumT rfl)) cd_sum T.m_sum (by decide +kernel) (a_cons (d_var 1) a_nil)) d_int) (d_ix (d_var 8) (d_var 4))) a_nil))) (d_var 8) (d_var 6))
      (ss_one (s_setIx (d_sub (d_sub (d_add (d_callB (FC.CallR.or (cr_sum rfl) (cr_sumT rfl)) cd_sum T.m_sum (by decide +kernel) (a_cons (d_var 1) a_nil)) d_int) (d_ix (d_var 8) (d_var 4))) (d_ix (d_var 8) (d_var 6))) (d_var 8) (d_var 7)))) ss_nil)
      (ss_one (s_ret (d_callTy call_tuple_of cd_tuple T.m_tuple (by decide +kernel) (a_cons (d_var 8) a_nil))))))))))))))))
theorem okF__law_any (T : Txt P K mg) : FnOk P w K mg base (L2.CX P w) 3 T.f__law_any T.d__law_any ["pool", "keep"] (spD K mg 2 F__law_any) :=
  fn_gcD (fn_ok T.F__law_any sc__law_any (fun cdv A outer s H E hr => (ss_cons (s_set (i := 2) sc__law_any.nd (d_lst true a_nil))
      (ss_cons (s_for (passes_of rfl) rfl (i_rng1 T.m_range (a_cons d_int a_nil)) (g_name (i := 3) sc__law_any.nd) (ss_cl [3, 4] (ss_cons (s_set (i := 4) sc__law_any.nd (d_callF (n := 2) (okF__law_draw T) rfl (hr.mono (by decide)) T.g__law_draw T.F__law_draw.kp T.B__law_draw (takes_of rfl rfl rfl rfl) (a_cons (d_var 0) (a_cons d_int a_nil))))
      (ss_one (s_if (t_eq hr.units (d_var 4) d_int) (ss_one (s_expr (d_append (d_var 2) (a_cons (d_callF (n := 1) (okF__law_great T) rfl (hr.mono (by decide)) T.g__law_great T.F__law_great.kp T.B__law_great (takes_of rfl rfl rfl rfl) (a_cons (d_var 0) a_nil)) a_nil)))) (ss_one (s_if (t_eq hr.units (d_var 4) d_int) (ss_one (s_expr (d_append (d_var 2) (a_cons (d_mod (d_callTy call_int1 cd_int1 T.m_int (by decide +kernel) (a_cons (d_callF (n := 1) (okF__law_great T) rfl (hr.mono (by decide)) T.g__law_great T.F__law_great.kp T.B__law_great (takes_of rfl rfl rfl rfl) (a_cons (d_var 0) a_nil)) a_nil)) (d_add (d_ix (d_var 1) (d_var 3)) d_int)) a_nil)))) (ss_one (s_if (t_eq hr.units (d_var 4) d_int) (ss_one (s_expr (d_append (d_var 2) (a_cons (d_add (d_ix (d_var 1) (d_var 3)) (d_callF (n := 2) (okF__law_draw T) rfl (hr.mono (by decide)) T.g__law_draw T.F__law_draw.kp T.B__law_draw (takes_of rfl rfl rfl rfl) (a_cons (d_var 0) (a_cons d_int a_nil)))) a_nil)))) (ss_one (s_expr (d_append (d_var 2) (a_cons (d_callF (n := 2) (okF__law_draw T) rfl (hr.mono (by decide)) T.g__law_draw T.F__law_draw.kp T.B__law_draw (takes_of rfl rfl rfl rfl) (a_cons (d_var 0) (a_cons d_int a_nil))) a_nil)))))))))))))
      (ss_one (s_ret (d_callTy call_tuple_of cd_tuple T.m_tuple (by decide +kernel) (a_cons (d_var 2) a_nil))))))))
theorem okF__law_any_meeting (T : Txt P K mg) : FnOk P w K mg base (L2.CX P w) 3 T.f__law_any_meeting T.d__law_any_meeting ["pool", "chairs"] (spD K mg 2 F__law_any_meeting) :=
  fn_gcD (fn_ok T.F__law_any_meeting sc__law_any_meeting (fun cdv A outer s H E hr => (ss_cons (s_set (i := 2) sc__law_any_meeting.nd (d_mod (d_callTy call_int1 cd_int1 T.m_int (by decide +kernel) (a_cons (d_callF (n := 1) (okF__law_great T) rfl (hr.mono (by decide)) T.g__law_great T.F__law_great.kp T.B__law_great (takes_of rfl rfl rfl rfl) (a_cons (d_var 0) a_nil)) a_nil)) (d_add (d_var 1) d_int)))
      (ss_cons (s_set (i := 3) sc__law_any_meeting.nd (d_mod (d_callTy call_int1 cd_int1 T.m_int (by decide +kernel) (a_cons (d_callF (n := 1) (okF__law_great T) rfl (hr.mono (by decide)) T.g__law_great T.F__law_great.kp T.B__law_great (takes_of rfl rfl rfl rfl) (a_cons (d_var 0) a_nil)) a_nil)) (d_sub (d_add (d_var 1) d_int) (d_var 2))))
      (ss_cons (s_set (i := 4) sc__law_any_meeting.nd (d_lst false (a_cons (d_var 2) (a_cons (d_var 3) (a_cons (d_sub (d_sub (d_add (d_var 1) d_int) (d_var 2)) (d_var 3)) a_nil)))))
      (ss_cons (s_set (i := 5) sc__law_any_meeting.nd (d_callF (n := 2) (okF__law_draw T) rfl (hr.mono (by decide)) T.g__law_draw T.F__law_draw.kp T.B__law_draw (takes_of rfl rfl rfl rfl) (a_cons (d_var 0) (a_cons d_int a_nil))))
      (ss_one (s_ret (d_callTy call_tuple_of cd_tuple T.m_tuple (by decide +kernel) (a_cons (d_lcV false rfl sc__law_any_meeting.nd (i_rng1 T.m_range (a_cons d_int a_nil)) (blkOk_by (own := [("x", 6)]) (N := N__law_any_meeting) (sc := defScope s__law_any_meeting) (by decide +kernel)) (fun _ _ _ _ _ => (g_name (i := 6) sc__law_any_meeting.nd)) (fun _ _ _ _ _ => ts_nil) (fun _ _ _ _ _ => (d_ix (d_var 4) (d_mod (d_callTy call_int1 cd_int1 T.m_int (by decide +kernel) (a_cons (d_add (d_var 5) (d_var 6)) a_nil)) d_int)))) a_nil))))))))))
theorem okF__law_turned (T : Txt P K mg) : FnOk P w K mg base (L2.CX P w) 1 T.f__law_turned T.d__law_turned ["word", "kind", "at"] (spD K mg 3 F__law_turned) :=
  fn_gcD (fn_ok T.F__law_turned sc__law_turned (fun cdv A outer s H E hr => (ss_split 3 (ss_gc IvC.no [4, 5, 6] (ss_cons (s_set (i := 3) sc__law_turned.nd (d_lst true a_nil))
      (ss_cons (s_set (i := 4) sc__law_turned.nd d_int)
      (ss_one (s_for (passes_of rfl) rfl (i_seq (d_var 0)) (g_tup rfl (gs_cons (g_name (i := 5) sc__law_turned.nd) (gs_cons (g_name (i := 6) sc__law_turned.nd) gs_nil))) (ss_cl [5, 6] (ss_cons (s_if (t_of (w_and (t_le (d_var 4) (d_var 2)) (w_and1 (t_lt (d_var 2) (d_add (d_var 4) (d_var 6)))))) (ss_cons (s_expr (d_append (d_var 3) (a_cons (d_tup (a_cons (d_var 5) (a_cons (d_sub (d_var 2) (d_var 4)) a_nil))) a_nil)))
      (ss_cons (s_expr (d_append (d_var 3) (a_cons (d_tup (a_cons (d_sub (d_sub d_int (d_var 1)) (d_var 5)) (a_cons d_int a_nil))) a_nil)))
      (ss_one (s_expr (d_append (d_var 3) (a_cons (d_tup (a_cons (d_var 5) (a_cons (d_sub (d_sub (d_add (d_var 4) (d_var 6)) (d_var 2)) d_int) a_nil))) a_nil)))))) (ss_one (s_expr (d_append (d_var 3) (a_cons (d_tup (a_cons (d_var 5) (a_cons (d_var 6) a_nil))) a_nil)))))
      (ss_one (s_set (i := 4) sc__law_turned.nd (d_add (d_var 4) (d_var 6)))))))))))
      (ss_cons (s_set (i := 7) sc__law_turned.nd (d_lst true a_nil))
      (ss_cons (s_for (passes_of rfl) rfl (i_seq (d_var 3)) (g_tup rfl (gs_cons (g_name (i := 5) sc__law_turned.nd) (gs_cons (g_name (i := 6) sc__law_turned.nd) gs_nil))) (ss_cl [5, 6] (ss_one (s_if (t_of (w_and (t_gt (d_var 6) d_int) (w_and (t_gt (d_callB call_len_seq cd_len T.m_len PySem.boot_len (a_cons (d_var 7) a_nil)) d_int) (w_and1 (t_eq hr.units (d_ix (d_ix (d_var 7) (d_neg d_int)) d_int) (d_var 5)))))) (ss_one (s_setIx (d_tup (a_cons (d_var 5) (a_cons (d_add (d_ix (d_ix (d_var 7) (d_neg d_int)) d_int) (d_var 6)) a_nil))) (d_var 7) (d_neg d_int))) (ss_one (s_if (t_gt (d_var 6) d_int) (ss_one (s_expr (d_append (d_var 7) (a_cons (d_tup (a_cons (d_var 5) (a_cons (d_var 6) a_nil))) a_nil)))) ss_nil))))))
      (ss_one (s_ret (d_callTy call_tuple_of cd_tuple T.m_tuple (by decide +kernel) (a_cons (d_var 7) a_nil)))))))))
theorem okF__is_word (T : Txt P K mg) : FnOk P w K mg base (L2.CX P w) 1 T.f__is_word T.d__is_word ["word", "kind", "length"] (spD K mg 3 F__is_word) :=
  fn_gcD (fn_ok T.F__is_word sc__is_word (fun cdv A outer s H E hr => (ss_cons (s_if (t_of (w_or (t_gt (d_callB call_len_seq cd_len T.m_len PySem.boot_len (a_cons (d_var 0) a_nil)) (d_globI rfl T.k_MOST_STRETCHES)) (w_or1 (t_not (t_tru (d_callB (cr_all rfl) cd_all T.m_all (by decide +kernel) (a_cons (d_lcV false rfl sc__is_word.nd (i_seq (d_var 0)) (blkOk_by (own := [("stretch", 9)]) (N := N__is_word) (sc := defScope s__is_word) (by decide +kernel)) (fun _ _ _ _ _ => (g_name (i := 9) sc__is_word.nd)) (fun _ _ _ _ _ => ts_nil) (fun _ _ _ _ _ => (d_eq hr.units (d_callB call_len_seq cd_len T.m_len PySem.boot_len (a_cons (d_var 9) a_nil)) d_int))) a_nil))))))) (ss_one (s_ret d_bl)) ss_nil)
      (ss_cons (s_asg (d_lcV false rfl sc__is_word.nd (i_seq (d_var 0)) (blkOk_by (own := [("letter", 5), ("_", 6)]) (N := N__is_word) (sc := defScope s__is_word) (by decide +kernel)) (fun _ _ _ _ _ => (g_tup rfl (gs_cons (g_name (i := 5) sc__is_word.nd) (gs_cons (g_name (i := 6) sc__is_word.nd) gs_nil)))) (fun _ _ _ _ _ => ts_nil) (fun _ _ _ _ _ => (d_var 5))) (g_name (i := 3) sc__is_word.nd))
      (ss_cons (s_setLcV (i := 4) false rfl sc__is_word.nd (sw_true rfl rfl rfl (by decide +kernel)) (i_seq (d_var 0)) (blkOk_by (own := [("_", 6), ("count", 7)]) (N := N__is_word) (sc := defScope s__is_word) (by decide +kernel)) (fun _ _ _ _ _ => (g_tup rfl (gs_cons (g_name (i := 6) sc__is_word.nd) (gs_cons (g_name (i := 7) sc__is_word.nd) gs_nil)))) (fun _ _ _ _ _ => ts_nil) (fun _ _ _ _ _ => (d_var 7)))
      (ss_one (s_ret (d_and (d_callB (cr_all rfl) cd_all T.m_all (by decide +kernel) (a_cons (d_lcV false rfl sc__is_word.nd (i_seq (d_var 3)) (blkOk_by (own := [("letter", 5)]) (N := N__is_word) (sc := defScope s__is_word) (by decide +kernel)) (fun _ _ _ _ _ => (g_name (i := 5) sc__is_word.nd)) (fun _ _ _ _ _ => ts_nil) (fun _ _ _ _ _ => (d_and (d_chain op_le op_lt od_le od_lt d_int (d_var 5) d_int) (d_one (d_ne hr.units (d_var 5) (d_var 1)))))) a_nil)) (d_and (d_callB (cr_all rfl) cd_all T.m_all (by decide +kernel) (a_cons (d_lcV false rfl sc__is_word.nd (i_seq (d_var 4)) (blkOk_by (own := [("count", 7)]) (N := N__is_word) (sc := defScope s__is_word) (by decide +kernel)) (fun _ _ _ _ _ => (g_name (i := 7) sc__is_word.nd)) (fun _ _ _ _ _ => ts_nil) (fun _ _ _ _ _ => (d_ge (d_var 7) d_int))) a_nil)) (d_and (d_eq hr.units (d_callB (FC.CallR.or (cr_sum rfl) (cr_sumT rfl)) cd_sum T.m_sum (by decide +kernel) (a_cons (d_var 4) a_nil)) (d_var 2)) (d_one (d_callB (cr_all rfl) cd_all T.m_all (by decide +kernel) (a_cons (d_lcV false rfl sc__is_word.nd (i_rng2 T.m_range (a_cons d_int (a_cons (d_callB call_len_seq cd_len T.m_len PySem.boot_len (a_cons (d_var 3) a_nil)) a_nil))) (blkOk_by (own := [("at", 8)]) (N := N__is_word) (sc := defScope s__is_word) (by decide +kernel)) (fun _ _ _ _ _ => (g_name (i := 8) sc__is_word.nd)) (fun _ _ _ _ _ => ts_nil) (fun _ _ _ _ _ => (d_ne hr.units (d_ix (d_var 3) (d_var 8)) (d_ix (d_var 3) (d_sub (d_var 8) d_int))))) a_nil)))))))))))))
theorem okF_Shares___init__ (T : Txt P K mg) : FnOk P w K mg base (L2.CX P w) 2 T.f_Shares___init__ T.d_Shares___init__ ["self", "keep", "words"] (spD K mg 3 F_Shares___init__) :=
  fn_gcD (fn_ok T.F_Shares___init__ sc_Shares___init__ (fun cdv A outer s H E hr => (ss_cons (s_if (t_of (w_or (t_ne hr.units (d_callB call_len_seq cd_len T.m_len PySem.boot_len (a_cons (d_var 1) a_nil)) d_int) (w_or (t_not (t_tru (d_callB (cr_all rfl) cd_all T.m_all (by decide +kernel) (a_cons (d_lcV false rfl sc_Shares___init__.nd (i_seq (d_var 1)) (blkOk_by (own := [("count", 3)]) (N := N_Shares___init__) (sc := defScope s_Shares___init__) (by decide +kernel)) (fun _ _ _ _ _ => (g_name (i := 3) sc_Shares___init__.nd)) (fun _ _ _ _ _ => ts_nil) (fun _ _ _ _ _ => (d_ge (d_var 3) d_int))) a_nil)))) (w_or1 (t_not (t_chain op_le op_le od_le od_le d_int (d_callB (FC.CallR.or (cr_sum rfl) (cr_sumT rfl)) cd_sum T.m_sum (by decide +kernel) (a_cons (d_var 1) a_nil)) (d_globI rfl T.k_MOST_CHAIRS))))))) (ss_one (s_raise1 rfl T.T_BadShares hr (takes_of rfl rfl rfl rfl) (a_cons d_str a_nil))) ss_nil)
      (ss_cons (s_if (t_of (w_or (t_ne hr.units (d_callB call_len_seq cd_len T.m_len PySem.boot_len (a_cons (d_var 2) a_nil)) d_int) (w_or1 (t_not (t_tru (d_callB (cr_all rfl) cd_all T.m_all (by decide +kernel) (a_cons (d_lcV false rfl sc_Shares___init__.nd (i_rng1 T.m_range (a_cons d_int a_nil)) (blkOk_by (own := [("kind", 4)]) (N := N_Shares___init__) (sc := defScope s_Shares___init__) (by decide +kernel)) (fun _ _ _ _ _ => (g_name (i := 4) sc_Shares___init__.nd)) (fun _ _ _ _ _ => ts_nil) (fun _ _ _ _ _ => (d_callF (n := 3) (okF__is_word T) rfl (hr.mono (by decide)) T.g__is_word T.F__is_word.kp T.B__is_word takes0 (a_cons (d_ix (d_var 2) (d_var 4)) (a_cons (d_var 4) (a_cons (d_ix (d_var 1) (d_var 4)) a_nil)))))) a_nil))))))) (ss_one (s_raise1 rfl T.T_BadShares hr (takes_of rfl rfl rfl rfl) (a_cons d_str a_nil))) ss_nil)
      (ss_cons (s_setFld T.cl_Shares T.na_Shares_keep (d_var 0) (d_var 1))
      (ss_cons (s_setFld T.cl_Shares T.na_Shares_words (d_var 0) (d_var 2))
      (ss_one (s_setFld T.cl_Shares T.na_Shares_chairs (d_var 0) (d_callB (FC.CallR.or (cr_sum rfl) (cr_sumT rfl)) cd_sum T.m_sum (by decide +kernel) (a_cons (d_var 1) a_nil))))))))))
theorem okF_Shares___eq__ (T : Txt P K mg) : FnOk P w K mg base (L2.CX P w) 1 T.f_Shares___eq__ T.d_Shares___eq__ ["self", "other"] (spD K mg 2 F_Shares___eq__) :=
  fn_gcD (fn_ok T.F_Shares___eq__ sc_Shares___eq__ (fun cdv A outer s H E hr => (ss_one (s_ret (d_and (d_isc (l := [("Shares", true)]) T.isc_Shares_Shares (d_var 1) T.m_isinstance (by decide +kernel) T.g_Shares) (d_and (d_eq hr.units (d_fld T.cl_Shares T.na_Shares_keep (d_var 0)) (d_fld T.cl_Shares T.na_Shares_keep (d_var 1))) (d_one (d_eq hr.units (d_fld T.cl_Shares T.na_Shares_words (d_var 0)) (d_fld T.cl_Shares T.na_Shares_words (d_var 1))))))))))
theorem okr_F__law_same (T : Txt P K mg) {k : Nat} {F : DFn} (hk : 0 ≤ k) (hF : FnOk P w K mg base (L2.CX P w) k T.f__law_same T.d__law_same ["got", "due"] (spD K mg 2 F)) : FnOk P w K mg base (L2.CX P w) (k + 1) T.f__law_same T.d__law_same ["got", "due"] (spD K mg 2 (gcD (bodyF 3 (fsF__law_same F)))) :=
  fn_gcD (fn_ok T.F__law_same sc__law_same (fun cdv A outer s H E hr => (ss_cons (s_if (t_is (d_var 1) d_non) (ss_one (s_ret (d_is (d_var 0) d_non))) ss_nil)
      (ss_cons (s_if (t_tru (d_isi (b := "bool") (d_var 1) T.m_isinstance (by decide +kernel) T.m_bool (by decide +kernel) (by decide))) (ss_one (s_ret (d_and (d_isi (b := "bool") (d_var 0) T.m_isinstance (by decide +kernel) T.m_bool (by decide +kernel) (by decide)) (d_one (d_eq hr.units (d_var 0) (d_var 1)))))) ss_nil)
      (ss_cons (s_if (t_tru (d_isi (b := "int") (d_var 1) T.m_isinstance (by decide +kernel) T.m_int (by decide +kernel) (by decide))) (ss_one (s_ret (d_and (d_isi (b := "int") (d_var 0) T.m_isinstance (by decide +kernel) T.m_int (by decide +kernel) (by decide)) (d_and (d_not (d_isi (b := "bool") (d_var 0) T.m_isinstance (by decide +kernel) T.m_bool (by decide +kernel) (by decide))) (d_one (d_eq hr.units (d_var 0) (d_var 1))))))) ss_nil)
      (ss_cons (s_if (t_tru (d_isi (b := "str") (d_var 1) T.m_isinstance (by decide +kernel) T.m_str (by decide +kernel) (by decide))) (ss_one (s_ret (d_and (d_isi (b := "str") (d_var 0) T.m_isinstance (by decide +kernel) T.m_str (by decide +kernel) (by decide)) (d_one (d_eq hr.units (d_var 0) (d_var 1)))))) ss_nil)
      (ss_cons (s_if (t_tru (d_isi (b := "tuple") (d_var 1) T.m_isinstance (by decide +kernel) T.m_tuple (by decide +kernel) (by decide))) (ss_one (s_if (t_of (w_or (t_not (t_tru (d_isi (b := "tuple") (d_var 0) T.m_isinstance (by decide +kernel) T.m_tuple (by decide +kernel) (by decide)))) (w_or1 (t_ne hr.units (d_callB call_len_seq cd_len T.m_len PySem.boot_len (a_cons (d_var 0) a_nil)) (d_callB call_len_seq cd_len T.m_len PySem.boot_len (a_cons (d_var 1) a_nil)))))) (ss_one (s_ret d_bl)) ss_nil)) (ss_one (s_if (t_of (w_or (t_not (t_tru (d_isi (b := "list") (d_var 0) T.m_isinstance (by decide +kernel) T.m_list (by decide +kernel) (by decide)))) (w_or1 (t_ne hr.units (d_callB call_len_seq cd_len T.m_len PySem.boot_len (a_cons (d_var 0) a_nil)) (d_callB call_len_seq cd_len T.m_len PySem.boot_len (a_cons (d_var 1) a_nil)))))) (ss_one (s_ret d_bl)) ss_nil)))
      (ss_cons (s_for (passes_of rfl) rfl (i_rng1 T.m_range (a_cons (d_callB call_len_seq cd_len T.m_len PySem.boot_len (a_cons (d_var 1) a_nil)) a_nil)) (g_name (i := 2) sc__law_same.nd) (ss_cl [2] (ss_one (s_if (t_not (t_tru (d_callF (n := 2) hF rfl hr T.g__law_same T.F__law_same.kp T.B__law_same (takes_of rfl rfl rfl rfl) (a_cons (d_ix (d_var 0) (d_var 2)) (a_cons (d_ix (d_var 1) (d_var 2)) a_nil))))) (ss_one (s_ret d_bl)) ss_nil))))
      (ss_one (s_ret d_bl))))))))))
theorem okn_F__law_same (T : Txt P K mg) : ∀ n : Nat, FnOk P w K mg base (L2.CX P w) (0 + n) T.f__law_same T.d__law_same ["got", "due"] (spD K mg 2 (itF__law_same n))
  | 0 => fn_none rfl
  | n + 1 => okr_F__law_same T (by omega) (okn_F__law_same T n)
theorem okF__law_same (T : Txt P K mg) : FnOk P w K mg base (L2.CX P w) 5 T.f__law_same T.d__law_same ["got", "due"] (spD K mg 2 F__law_same) := okn_F__law_same T 5
theorem okF__law_fields_right (T : Txt P K mg) : FnOk P w K mg base (L2.CX P w) 6 T.f__law_fields_right T.d__law_fields_right ["shares", "keep", "words"] (spD K mg 3 F__law_fields_right) :=
  fn_gcD (fn_ok T.F__law_fields_right sc__law_fields_right (fun cdv A outer s H E hr => (ss_cons (s_if (t_of (w_or (t_not (t_tru (d_callF (n := 2) (okF__law_same T) rfl (hr.mono (by decide)) T.g__law_same T.F__law_same.kp T.B__law_same (takes_of rfl rfl rfl rfl) (a_cons (d_fld T.cl_Shares T.na_Shares_keep (d_var 0)) (a_cons (d_var 1) a_nil))))) (w_or1 (t_not (t_tru (d_callF (n := 2) (okF__law_same T) rfl (hr.mono (by decide)) T.g__law_same T.F__law_same.kp T.B__law_same (takes_of rfl rfl rfl rfl) (a_cons (d_fld T.cl_Shares T.na_Shares_words (d_var 0)) (a_cons (d_var 2) a_nil)))))))) (ss_one (s_ret d_bl)) ss_nil)
      (ss_one (s_ret (d_callF (n := 2) (okF__law_same T) rfl (hr.mono (by decide)) T.g__law_same T.F__law_same.kp T.B__law_same (takes_of rfl rfl rfl rfl) (a_cons (d_fld T.cl_Shares T.na_Shares_chairs (d_var 0)) (a_cons (d_callB (FC.CallR.or (cr_sum rfl) (cr_sumT rfl)) cd_sum T.m_sum (by decide +kernel) (a_cons (d_var 1) a_nil)) a_nil))))))))
theorem okF_check_counts (T : Txt P K mg) : FnOk P w K mg base (L2.CX P w) 1 T.f_check_counts T.d_check_counts ["kinds", "crowd"] (spD K mg 2 F_check_counts) :=
  fn_gcD (fn_ok T.F_check_counts sc_check_counts (fun cdv A outer s H E hr => (ss_one (s_if (t_of (w_or (t_ne hr.units (d_callB call_len_seq cd_len T.m_len PySem.boot_len (a_cons (d_var 1) a_nil)) (d_var 0)) (w_or1 (t_not (t_tru (d_callB (cr_all rfl) cd_all T.m_all (by decide +kernel) (a_cons (d_lcV false rfl sc_check_counts.nd (i_seq (d_var 1)) (blkOk_by (own := [("count", 2)]) (N := N_check_counts) (sc := defScope s_check_counts) (by decide +kernel)) (fun _ _ _ _ _ => (g_name (i := 2) sc_check_counts.nd)) (fun _ _ _ _ _ => ts_nil) (fun _ _ _ _ _ => (d_ge (d_var 2) d_int))) a_nil))))))) (ss_one (s_raise1 rfl T.T_BadCrowd hr (takes_of rfl rfl rfl rfl) (a_cons (d_var 1) a_nil))) ss_nil))))
theorem okF_size (T : Txt P K mg) : FnOk P w K mg base (L2.CX P w) 1 T.f_size T.d_size ["crowd"] (spD K mg 1 F_size) :=
  fn_gcD (fn_ok T.F_size sc_size (fun cdv A outer s H E hr => (ss_one (s_ret (d_callB (FC.CallR.or (cr_sum rfl) (cr_sumT rfl)) cd_sum T.m_sum (by decide +kernel) (a_cons (d_var 0) a_nil))))))
theorem okF_others (T : Txt P K mg) : FnOk P w K mg base (L2.CX P w) 1 T.f_others T.d_others ["kind"] (spD K mg 1 F_others) :=
  fn_gcD (fn_ok T.F_others sc_others (fun cdv A outer s H E hr => (ss_one (s_ret (d_lcV false rfl sc_others.nd (i_rng1 T.m_range (a_cons d_int a_nil)) (blkOk_by (own := [("found", 1)]) (N := N_others) (sc := defScope s_others) (by decide +kernel)) (fun _ _ _ _ _ => (g_name (i := 1) sc_others.nd)) (fun _ _ _ _ _ => (ts_one (t_ne hr.units (d_var 1) (d_var 0)))) (fun _ _ _ _ _ => (d_var 1)))))))
theorem okF_check_kind_of (T : Txt P K mg) : FnOk P w K mg base (L2.CX P w) 1 T.f_check_kind_of T.d_check_kind_of ["kinds", "kind"] (spD K mg 2 F_check_kind_of) :=
  fn_gcD (fn_ok T.F_check_kind_of sc_check_kind_of (fun cdv A outer s H E hr => (ss_one (s_if (t_not (t_chain op_le op_lt od_le od_lt d_int (d_var 1) (d_var 0))) (ss_one (s_raise1 rfl T.T_BadKind hr (takes_of rfl rfl rfl rfl) (a_cons (d_var 1) a_nil))) ss_nil))))
theorem okF_Shares_gains (T : Txt P K mg) : FnOk P w K mg base (L2.CX P w) 2 T.f_Shares_gains T.d_Shares_gains ["self", "kind", "lacking"] (spD K mg 3 F_Shares_gains) :=
  fn_gcD (fn_ok T.F_Shares_gains sc_Shares_gains (fun cdv A outer s H E hr => (ss_cons (s_expr (d_callF (n := 2) (okF_check_kind_of T) rfl (hr.mono (by decide)) T.g_check_kind_of T.F_check_kind_of.kp T.B_check_kind_of (takes_of rfl rfl rfl rfl) (a_cons d_int (a_cons (d_var 1) a_nil))))
      (ss_cons (s_if (t_not (t_chain op_le op_le od_le od_le d_int (d_var 2) (d_ix (d_fld T.cl_Shares T.na_Shares_keep (d_var 0)) (d_var 1)))) (ss_one (s_raise1 rfl T.T_BadNumber hr (takes_of rfl rfl rfl rfl) (a_cons (d_var 2) a_nil))) ss_nil)
      (ss_cons (s_set (i := 3) sc_Shares_gains.nd (d_lst true (a_cons d_int (a_cons d_int (a_cons d_int a_nil)))))
      (ss_cons (s_set (i := 4) sc_Shares_gains.nd (d_var 2))
      (ss_cons (s_for (passes_of rfl) rfl (i_seq (d_ix (d_fld T.cl_Shares T.na_Shares_words (d_var 0)) (d_var 1))) (g_tup rfl (gs_cons (g_name (i := 5) sc_Shares_gains.nd) (gs_cons (g_name (i := 6) sc_Shares_gains.nd) gs_nil))) (ss_cl [5, 6] (ss_cons (s_setIx (d_add (d_ix (d_var 3) (d_var 5)) (d_callB (call_min2 rfl) cd_min2 T.m_min (by decide +kernel) (a_cons (d_var 6) (a_cons (d_var 4) a_nil)))) (d_var 3) (d_var 5))
      (ss_one (s_set (i := 4) sc_Shares_gains.nd (d_sub (d_var 4) (d_callB (call_min2 rfl) cd_min2 T.m_min (by decide +kernel) (a_cons (d_var 6) (a_cons (d_var 4) a_nil)))))))))
      (ss_one (s_ret (d_callTy call_tuple_of cd_tuple T.m_tuple (by decide +kernel) (a_cons (d_var 3) a_nil)))))))))))
theorem okF_with_count (T : Txt P K mg) : FnOk P w K mg base (L2.CX P w) 1 T.f_with_count T.d_with_count ["crowd", "kind", "count"] (spD K mg 3 F_with_count) :=
  fn_gcD (fn_ok T.F_with_count sc_with_count (fun cdv A outer s H E hr => (ss_one (s_ret (d_addX false (d_addX false (d_slice false (d_var 0) o_none (o_some (d_var 1))) (d_tup (a_cons (d_var 2) a_nil))) (d_slice false (d_var 0) (o_some (d_add (d_var 1) d_int)) o_none))))))
theorem okF_Shares__end_beside (T : Txt P K mg) : FnOk P w K mg base (L2.CX P w) 3 T.f_Shares__end_beside T.d_Shares__end_beside ["self", "crowd", "kind"] (spD K mg 3 F_Shares__end_beside) :=
  fn_gcD (fn_ok T.F_Shares__end_beside sc_Shares__end_beside (fun cdv A outer s H E hr => (ss_cons (s_asg (d_callF (n := 1) (okF_others T) rfl (hr.mono (by decide)) T.g_others T.F_others.kp T.B_others (takes_of rfl rfl rfl rfl) (a_cons (d_var 2) a_nil)) (g_seq rfl (gs_cons (g_name (i := 3) sc_Shares__end_beside.nd) (gs_cons (g_name (i := 4) sc_Shares__end_beside.nd) gs_nil))))
      (ss_cons (s_set (i := 5) sc_Shares__end_beside.nd (d_ix (d_meth (n := 2) T.cl_Shares T.mt_Shares_gains (okF_Shares_gains T) (hr.mono (by decide)) T.B_Shares_gains (takes_of rfl rfl rfl rfl) (d_var 0) (a_cons (d_var 2) (a_cons (d_sub (d_ix (d_fld T.cl_Shares T.na_Shares_keep (d_var 0)) (d_var 2)) (d_ix (d_var 1) (d_var 2))) a_nil))) (d_var 3)))
      (ss_cons (s_set (i := 6) sc_Shares__end_beside.nd (d_sub (d_fld T.cl_Shares T.na_Shares_chairs (d_var 0)) (d_ix (d_var 1) (d_var 2))))
      (ss_cons (s_set (i := 7) sc_Shares__end_beside.nd (d_callB (call_min2 rfl) cd_min2 T.m_min (by decide +kernel) (a_cons (d_callB (call_max2 rfl) cd_max2 T.m_max (by decide +kernel) (a_cons (d_add (d_ix (d_fld T.cl_Shares T.na_Shares_keep (d_var 0)) (d_var 3)) (d_var 5)) (a_cons (d_sub (d_var 6) (d_ix (d_var 1) (d_var 4))) a_nil))) (a_cons (d_ix (d_var 1) (d_var 3)) a_nil))))
      (ss_one (s_ret (d_callF (n := 3) (okF_with_count T) rfl (hr.mono (by decide)) T.g_with_count T.F_with_count.kp T.B_with_count (takes_of rfl rfl rfl rfl) (a_cons (d_callF (n := 3) (okF_with_count T) rfl (hr.mono (by decide)) T.g_with_count T.F_with_count.kp T.B_with_count (takes_of rfl rfl rfl rfl) (a_cons (d_var 1) (a_cons (d_var 3) (a_cons (d_var 7) a_nil)))) (a_cons (d_var 4) (a_cons (d_sub (d_var 6) (d_var 7)) a_nil))))))))))))
theorem okF_Shares_end (T : Txt P K mg) : FnOk P w K mg base (L2.CX P w) 4 T.f_Shares_end T.d_Shares_end ["self", "crowd"] (spD K mg 2 F_Shares_end) :=
  fn_gcD (fn_ok T.F_Shares_end sc_Shares_end (fun cdv A outer s H E hr => (ss_cons (s_expr (d_callF (n := 2) (okF_check_counts T) rfl (hr.mono (by decide)) T.g_check_counts T.F_check_counts.kp T.B_check_counts (takes_of rfl rfl rfl rfl) (a_cons d_int (a_cons (d_var 1) a_nil))))
      (ss_cons (s_if (t_lt (d_callF (n := 1) (okF_size T) rfl (hr.mono (by decide)) T.g_size T.F_size.kp T.B_size (takes_of rfl rfl rfl rfl) (a_cons (d_var 1) a_nil)) (d_fld T.cl_Shares T.na_Shares_chairs (d_var 0))) (ss_one (s_ret (d_var 1))) ss_nil)
      (ss_cons (s_setLcV (i := 2) false rfl sc_Shares_end.nd (sw_true rfl rfl rfl (by decide +kernel)) (i_rng1 T.m_range (a_cons d_int a_nil)) (blkOk_by (own := [("kind", 3)]) (N := N_Shares_end) (sc := defScope s_Shares_end) (by decide +kernel)) (fun _ _ _ _ _ => (g_name (i := 3) sc_Shares_end.nd)) (fun _ _ _ _ _ => (ts_one (t_lt (d_ix (d_var 1) (d_var 3)) (d_ix (d_fld T.cl_Shares T.na_Shares_keep (d_var 0)) (d_var 3))))) (fun _ _ _ _ _ => (d_var 3)))
      (ss_cons (s_if (t_not (t_tru (d_var 2))) (ss_one (s_ret (d_fld T.cl_Shares T.na_Shares_keep (d_var 0)))) ss_nil)
      (ss_one (s_ret (d_meth (n := 2) T.cl_Shares T.mt_Shares__end_beside (okF_Shares__end_beside T) (hr.mono (by decide)) T.B_Shares__end_beside (takes_of rfl rfl rfl rfl) (d_var 0) (a_cons (d_var 1) (a_cons (d_ix (d_var 2) d_int) a_nil)))))))))))
theorem okF__law_due_end (T : Txt P K mg) : FnOk P w K mg base (L2.CX P w) 2 T.f__law_due_end T.d__law_due_end ["keep", "words", "crowd"] (spD K mg 3 F__law_due_end) :=
  fn_gcD (fn_ok T.F__law_due_end sc__law_due_end (fun cdv A outer s H E hr => (ss_cons (s_set (i := 3) sc__law_due_end.nd (d_callB (FC.CallR.or (cr_sum rfl) (cr_sumT rfl)) cd_sum T.m_sum (by decide +kernel) (a_cons (d_var 0) a_nil)))
      (ss_cons (s_if (t_lt (d_callB (FC.CallR.or (cr_sum rfl) (cr_sumT rfl)) cd_sum T.m_sum (by decide +kernel) (a_cons (d_var 2) a_nil)) (d_var 3)) (ss_one (s_ret (d_var 2))) ss_nil)
      (ss_cons (s_setLcV (i := 4) false rfl sc__law_due_end.nd (sw_true rfl rfl rfl (by decide +kernel)) (i_rng1 T.m_range (a_cons d_int a_nil)) (blkOk_by (own := [("x", 6)]) (N := N__law_due_end) (sc := defScope s__law_due_end) (by decide +kernel)) (fun _ _ _ _ _ => (g_name (i := 6) sc__law_due_end.nd)) (fun _ _ _ _ _ => (ts_one (t_lt (d_ix (d_var 2) (d_var 6)) (d_ix (d_var 0) (d_var 6))))) (fun _ _ _ _ _ => (d_var 6)))
      (ss_cons (s_set (i := 5) sc__law_due_end.nd (d_callTy call_list_of (cd_list true) T.m_list (by decide +kernel) (a_cons (d_var 0) a_nil)))
      (ss_cons (s_for (passes_of rfl) rfl (i_seq (d_var 4)) (g_name (i := 6) sc__law_due_end.nd) (ss_cl [6] (ss_one (s_setIx (d_ix (d_var 2) (d_var 6)) (d_var 5) (d_var 6)))))
      (ss_cons (s_cl [7] (s_if (t_eq hr.units (d_callB call_len_seq cd_len T.m_len PySem.boot_len (a_cons (d_var 4) a_nil)) d_int) (ss_cons (s_set (i := 7) sc__law_due_end.nd (d_sub (d_sub d_int (d_ix (d_var 4) d_int)) (d_ix (d_var 4) d_int)))
      (ss_one (s_setIx (d_sub (d_sub (d_var 3) (d_ix (d_var 2) (d_ix (d_var 4) d_int))) (d_ix (d_var 2) (d_ix (d_var 4) d_int))) (d_var 5) (d_var 7)))) ss_nil))
      (ss_cons (s_cl [6, 7, 8, 9] (s_if (t_eq hr.units (d_callB call_len_seq cd_len T.m_len PySem.boot_len (a_cons (d_var 4) a_nil)) d_int) (ss_cons (s_set (i := 6) sc__law_due_end.nd (d_ix (d_var 4) d_int))
      (ss_cons (s_setLcV (i := 8) false rfl sc__law_due_end.nd (sw_true rfl rfl rfl (by decide +kernel)) (i_rng1 T.m_range (a_cons d_int a_nil)) (blkOk_by (own := [("y", 9)]) (N := N__law_due_end) (sc := defScope s__law_due_end) (by decide +kernel)) (fun _ _ _ _ _ => (g_name (i := 9) sc__law_due_end.nd)) (fun _ _ _ _ _ => (ts_one (t_ne hr.units (d_var 9) (d_var 6)))) (fun _ _ _ _ _ => (d_var 9)))
      (ss_cons (s_for (passes_of rfl) rfl (i_seq (d_var 8)) (g_name (i := 9) sc__law_due_end.nd) (ss_cl [9] (ss_one (s_setIx (d_add (d_ix (d_var 0) (d_var 9)) (d_callF (n := 3) (okF__law_letters_of T) rfl (hr.mono (by decide)) T.g__law_letters_of T.F__law_letters_of.kp T.B__law_letters_of (takes_of rfl rfl rfl rfl) (a_cons (d_ix (d_var 1) (d_var 6)) (a_cons (d_sub (d_ix (d_var 0) (d_var 6)) (d_ix (d_var 2) (d_var 6))) (a_cons (d_var 9) a_nil))))) (d_var 5) (d_var 9)))))
      (ss_one (s_for (passes_of rfl) rfl (i_seq (d_var 8)) (g_name (i := 9) sc__law_due_end.nd) (ss_cl [7, 9] (ss_one (s_cl [7] (s_if (t_lt (d_ix (d_var 2) (d_var 9)) (d_ix (d_var 5) (d_var 9))) (ss_cons (s_set (i := 7) sc__law_due_end.nd (d_sub (d_sub d_int (d_var 6)) (d_var 9)))
      (ss_cons (s_setIx (d_sub (d_add (d_ix (d_var 5) (d_var 7)) (d_ix (d_var 5) (d_var 9))) (d_ix (d_var 2) (d_var 9))) (d_var 5) (d_var 7))
      (ss_one (s_setIx (d_ix (d_var 2) (d_var 9)) (d_var 5) (d_var 9))))) ss_nil))))))))) ss_nil))
      (ss_one (s_ret (d_callTy call_tuple_of cd_tuple T.m_tuple (by decide +kernel) (a_cons (d_var 5) a_nil)))))))))))))
theorem okF__law_ends_right (T : Txt P K mg) : FnOk P w K mg base (L2.CX P w) 6 T.f__law_ends_right T.d__law_ends_right ["shares", "keep", "words", "crowds"] (spD K mg 4 F__law_ends_right) :=
  fn_gcD (fn_ok T.F__law_ends_right sc__law_ends_right (fun cdv A outer s H E hr => (ss_cons (s_for (passes_of rfl) rfl (i_seq (d_var 3)) (g_name (i := 4) sc__law_ends_right.nd) (ss_cl [4] (ss_one (s_if (t_not (t_tru (d_callF (n := 2) (okF__law_same T) rfl (hr.mono (by decide)) T.g__law_same T.F__law_same.kp T.B__law_same (takes_of rfl rfl rfl rfl) (a_cons (d_meth (n := 1) T.cl_Shares T.mt_Shares_end (okF_Shares_end T) (hr.mono (by decide)) T.B_Shares_end (takes_of rfl rfl rfl rfl) (d_var 0) (a_cons (d_var 4) a_nil)) (a_cons (d_callF (n := 3) (okF__law_due_end T) rfl (hr.mono (by decide)) T.g__law_due_end T.F__law_due_end.kp T.B__law_due_end (takes_of rfl rfl rfl rfl) (a_cons (d_var 1) (a_cons (d_var 2) (a_cons (d_var 4) a_nil)))) a_nil))))) (ss_one (s_ret d_bl)) ss_nil))))
      (ss_one (s_ret d_bl)))))
theorem okF_Shares_goes (T : Txt P K mg) : FnOk P w K mg base (L2.CX P w) 5 T.f_Shares_goes T.d_Shares_goes ["self", "meeting"] (spD K mg 2 F_Shares_goes) :=
  fn_gcD (fn_ok T.F_Shares_goes sc_Shares_goes (fun cdv A outer s H E hr => (ss_cons (s_if (t_ne hr.units (d_callF (n := 1) (okF_size T) rfl (hr.mono (by decide)) T.g_size T.F_size.kp T.B_size (takes_of rfl rfl rfl rfl) (a_cons (d_var 1) a_nil)) (d_add (d_fld T.cl_Shares T.na_Shares_chairs (d_var 0)) d_int)) (ss_one (s_raise1 rfl T.T_BadCrowd hr (takes_of rfl rfl rfl rfl) (a_cons (d_var 1) a_nil))) ss_nil)
      (ss_cons (s_set (i := 2) sc_Shares_goes.nd (d_meth (n := 1) T.cl_Shares T.mt_Shares_end (okF_Shares_end T) (hr.mono (by decide)) T.B_Shares_end (takes_of rfl rfl rfl rfl) (d_var 0) (a_cons (d_var 1) a_nil)))
      (ss_one (s_ret (d_ix (d_lcV false rfl sc_Shares_goes.nd (i_rng1 T.m_range (a_cons d_int a_nil)) (blkOk_by (own := [("kind", 3)]) (N := N_Shares_goes) (sc := defScope s_Shares_goes) (by decide +kernel)) (fun _ _ _ _ _ => (g_name (i := 3) sc_Shares_goes.nd)) (fun _ _ _ _ _ => (ts_one (t_gt (d_ix (d_var 1) (d_var 3)) (d_ix (d_var 2) (d_var 3))))) (fun _ _ _ _ _ => (d_var 3))) d_int)))))))
theorem okF__law_goes_right (T : Txt P K mg) : FnOk P w K mg base (L2.CX P w) 6 T.f__law_goes_right T.d__law_goes_right ["shares", "keep", "words", "meetings"] (spD K mg 4 F__law_goes_right) :=
  fn_gcD (fn_ok T.F__law_goes_right sc__law_goes_right (fun cdv A outer s H E hr => (ss_cons (s_for (passes_of rfl) rfl (i_seq (d_var 3)) (g_name (i := 4) sc__law_goes_right.nd) (ss_cl [4, 5, 6] (ss_cons (s_set (i := 5) sc__law_goes_right.nd (d_callF (n := 3) (okF__law_due_end T) rfl (hr.mono (by decide)) T.g__law_due_end T.F__law_due_end.kp T.B__law_due_end (takes_of rfl rfl rfl rfl) (a_cons (d_var 1) (a_cons (d_var 2) (a_cons (d_var 4) a_nil)))))
      (ss_cons (s_setLcV (i := 6) false rfl sc__law_goes_right.nd (sw_true rfl rfl rfl (by decide +kernel)) (i_rng1 T.m_range (a_cons d_int a_nil)) (blkOk_by (own := [("x", 7)]) (N := N__law_goes_right) (sc := defScope s__law_goes_right) (by decide +kernel)) (fun _ _ _ _ _ => (g_name (i := 7) sc__law_goes_right.nd)) (fun _ _ _ _ _ => (ts_one (t_gt (d_ix (d_var 4) (d_var 7)) (d_ix (d_var 5) (d_var 7))))) (fun _ _ _ _ _ => (d_var 7)))
      (ss_one (s_if (t_not (t_tru (d_callF (n := 2) (okF__law_same T) rfl (hr.mono (by decide)) T.g__law_same T.F__law_same.kp T.B__law_same (takes_of rfl rfl rfl rfl) (a_cons (d_meth (n := 1) T.cl_Shares T.mt_Shares_goes (okF_Shares_goes T) (hr.mono (by decide)) T.B_Shares_goes (takes_of rfl rfl rfl rfl) (d_var 0) (a_cons (d_var 4) a_nil)) (a_cons (d_ix (d_var 6) d_int) a_nil))))) (ss_one (s_ret d_bl)) ss_nil))))))
      (ss_one (s_ret d_bl)))))
theorem okF_Shares_letters (T : Txt P K mg) : FnOk P w K mg base (L2.CX P w) 2 T.f_Shares_letters T.d_Shares_letters ["self", "kind"] (spD K mg 2 F_Shares_letters) :=
  fn_gcD (fn_ok T.F_Shares_letters sc_Shares_letters (fun cdv A outer s H E hr => (ss_cons (s_expr (d_callF (n := 2) (okF_check_kind_of T) rfl (hr.mono (by decide)) T.g_check_kind_of T.F_check_kind_of.kp T.B_check_kind_of (takes_of rfl rfl rfl rfl) (a_cons d_int (a_cons (d_var 1) a_nil))))
      (ss_cons (s_if (t_gt (d_ix (d_fld T.cl_Shares T.na_Shares_keep (d_var 0)) (d_var 1)) (d_globI rfl T.k_MOST_LETTERS)) (ss_one (s_raise1 rfl T.T_TooLarge hr (takes_of rfl rfl rfl rfl) (a_cons (d_ix (d_fld T.cl_Shares T.na_Shares_keep (d_var 0)) (d_var 1)) a_nil))) ss_nil)
      (ss_one (s_ret (d_lc2V (vs1 := [4]) false rfl sc_Shares_letters.nd (i_seq (d_ix (d_fld T.cl_Shares T.na_Shares_words (d_var 0)) (d_var 1))) (blkOk_by (own := [("letter", 2), ("length", 3), ("_", 4)]) (N := N_Shares_letters) (sc := defScope s_Shares_letters) (by decide +kernel)) (fun _ _ _ _ _ => (g_tup rfl (gs_cons (g_name (i := 2) sc_Shares_letters.nd) (gs_cons (g_name (i := 3) sc_Shares_letters.nd) gs_nil)))) (fun _ _ _ _ _ => ts_nil) (fun _ _ _ _ _ => (iw_rng1 T.m_range (a_cons (d_var 3) a_nil))) (fun _ _ _ _ _ => (g_name (i := 4) sc_Shares_letters.nd)) (fun _ _ _ _ _ => ts_nil) (fun _ _ _ _ _ => (d_var 2)))))))))
theorem okF__law_refused_letters (T : Txt P K mg) : FnOk P w K mg base (L2.CX P w) 3 T.f__law_refused_letters T.d__law_refused_letters ["shares", "kind"] (spD K mg 2 F__law_refused_letters) :=
  fn_gcD (fn_ok T.F__law_refused_letters sc__law_refused_letters (fun cdv A outer s H E hr => (ss_cons (s_try_m sc__law_refused_letters.nd (takes_of rfl rfl rfl rfl) (fun W1 pn1 xe1 tk1 po1 => (ss_one (s_expr (d_meth (n := 1) T.cl_Shares T.mt_Shares_letters (okF_Shares_letters T) (hr.mono (by decide)) T.B_Shares_letters tk1 (d_var 0) (a_cons (d_var 1) a_nil))))) (.cons (i := 2) (cn := cnL [("BadKind", true), ("TooLarge", false)]) ⟨rfl, by decide, .inl T.T_BadKind.gC⟩ rfl rfl (cnL_ok (by intro p hp; simp only [List.mem_cons, List.not_mem_nil, or_false] at hp; rcases hp with rfl | rfl; exact T.exm_BadKind_BadKind; exact T.exm_TooLarge_BadKind)) (fun a oe dd c1 flds pn hc1 hz hf => by have ec : c1 = "BadKind" := cnL_oneM (by decide) hc1; subst ec; exact (ss_one (s_ret (d_tup (a_cons d_str (a_cons (d_xf (i := 2) (c := "BadKind") T.xf_BadKind T.xn_BadKind hz hf) (a_cons (d_isE (i := 2) (c := "BadKind") T.ec_BadKind hz hf T.m_isinstance (pe_glob (v := .ref T.C_HallError) rfl T.g_HallError rfl) (fun _ h => h) T.kit_BadKind_HallError (by decide +kernel)) (a_cons (d_isE (i := 2) (c := "BadKind") T.ec_BadKind hz hf T.m_isinstance (pe_bltn (v := .ty "ValueError") rfl T.m_ValueError (by decide +kernel) rfl) (fun _ h => h) T.kit_BadKind_ValueError (by decide +kernel)) (a_cons (d_isE (i := 2) (c := "BadKind") T.ec_BadKind hz hf T.m_isinstance (pe_glob (v := .ref T.C_TooLarge) rfl T.g_TooLarge rfl) (fun _ h => h) T.kit_BadKind_TooLarge (by decide +kernel)) a_nil))))))))) (.cons (i := 3) (cn := cnL [("TooLarge", true)]) ⟨rfl, by decide, .inl T.T_TooLarge.gC⟩ rfl rfl (cnL_ok (by intro p hp; simp only [List.mem_cons, List.not_mem_nil, or_false] at hp; subst hp; exact T.exm_TooLarge_TooLarge)) (fun a oe dd c1 flds pn hc1 hz hf => by have ec : c1 = "TooLarge" := cnL_one hc1; subst ec; exact (ss_one (s_ret (d_tup (a_cons d_str (a_cons (d_xf (i := 3) (c := "TooLarge") T.xf_TooLarge T.xn_TooLarge hz hf) (a_cons (d_isE (i := 3) (c := "TooLarge") T.ec_TooLarge hz hf T.m_isinstance (pe_glob (v := .ref T.C_HallError) rfl T.g_HallError rfl) (fun _ h => h) T.kit_TooLarge_HallError (by decide +kernel)) (a_cons (d_isE (i := 3) (c := "TooLarge") T.ec_TooLarge hz hf T.m_isinstance (pe_bltn (v := .ty "ValueError") rfl T.m_ValueError (by decide +kernel) rfl) (fun _ h => h) T.kit_TooLarge_ValueError (by decide +kernel)) (a_cons (d_isE (i := 3) (c := "TooLarge") T.ec_TooLarge hz hf T.m_isinstance (pe_glob (v := .ref T.C_BadKind) rfl T.g_BadKind rfl) (fun _ h => h) T.kit_TooLarge_BadKind (by decide +kernel)) a_nil))))))))) .nil)))
      (ss_one (s_ret d_non)))))
theorem okF__law_spelled (T : Txt P K mg) : FnOk P w K mg base (L2.CX P w) 1 T.f__law_spelled T.d__law_spelled ["word"] (spD K mg 1 F__law_spelled) :=
  fn_gcD (fn_ok T.F__law_spelled sc__law_spelled (fun cdv A outer s H E hr => (ss_cons (s_set (i := 1) sc__law_spelled.nd (d_lst true a_nil))
      (ss_cons (s_for (passes_of rfl) rfl (i_seq (d_var 0)) (g_tup rfl (gs_cons (g_name (i := 2) sc__law_spelled.nd) (gs_cons (g_name (i := 3) sc__law_spelled.nd) gs_nil))) (ss_gc IvC.no [2, 3] (ss_one (s_expr (d_extend (d_var 1) (a_cons (d_rep true (a_cons (d_var 2) a_nil) (d_var 3)) a_nil))))))
      (ss_one (s_ret (d_var 1)))))))
theorem okM_Shares_letters (T : Txt P K mg) : FnOk P w K mg base (L2.CX P w) 2 T.f_Shares_letters T.d_Shares_letters ["self", "kind"] (spD K mg 2 M_Shares_letters) :=
  fn_gcM (fn_ok T.F_Shares_letters sc_Shares_letters (fun cdv A outer s H E hr => (ss_cons (s_expr (d_callF (n := 2) (okF_check_kind_of T) rfl (hr.mono (by decide)) T.g_check_kind_of T.F_check_kind_of.kp T.B_check_kind_of (takes_of rfl rfl rfl rfl) (a_cons d_int (a_cons (d_var 1) a_nil))))
      (ss_cons (s_if (t_gt (d_ix (d_fld T.cl_Shares T.na_Shares_keep (d_var 0)) (d_var 1)) (d_globI rfl T.k_MOST_LETTERS)) (ss_one (s_raise1 rfl T.T_TooLarge hr (takes_of rfl rfl rfl rfl) (a_cons (d_ix (d_fld T.cl_Shares T.na_Shares_keep (d_var 0)) (d_var 1)) a_nil))) ss_nil)
      (ss_one (s_ret (d_lc2V (vs1 := [4]) true rfl sc_Shares_letters.nd (i_seq (d_ix (d_fld T.cl_Shares T.na_Shares_words (d_var 0)) (d_var 1))) (blkOk_by (own := [("letter", 2), ("length", 3), ("_", 4)]) (N := N_Shares_letters) (sc := defScope s_Shares_letters) (by decide +kernel)) (fun _ _ _ _ _ => (g_tup rfl (gs_cons (g_name (i := 2) sc_Shares_letters.nd) (gs_cons (g_name (i := 3) sc_Shares_letters.nd) gs_nil)))) (fun _ _ _ _ _ => ts_nil) (fun _ _ _ _ _ => (iw_rng1 T.m_range (a_cons (d_var 3) a_nil))) (fun _ _ _ _ _ => (g_name (i := 4) sc_Shares_letters.nd)) (fun _ _ _ _ _ => ts_nil) (fun _ _ _ _ _ => (d_var 2)))))))))
theorem okF__law_letters_right (T : Txt P K mg) : FnOk P w K mg base (L2.CX P w) 6 T.f__law_letters_right T.d__law_letters_right ["shares", "words", "pool"] (spD K mg 3 F__law_letters_right) :=
  fn_gcD (fn_ok T.F__law_letters_right sc__law_letters_right (fun cdv A outer s H E hr => (ss_cons (s_for (passes_of rfl) rfl (i_rng1 T.m_range (a_cons d_int a_nil)) (g_name (i := 3) sc__law_letters_right.nd) (ss_gc IvC.no [3, 4, 5, 6, 7, 8] (ss_cons (s_set (i := 4) sc__law_letters_right.nd (d_callF (n := 1) (okF__law_long T) rfl (hr.mono (by decide)) T.g__law_long T.F__law_long.kp T.B__law_long (takes_of rfl rfl rfl rfl) (a_cons (d_ix (d_var 1) (d_var 3)) a_nil)))
      (ss_cons (s_for (passes_of rfl) rfl (i_seq (d_lst false (a_cons d_int (a_cons (d_var 4) (a_cons (d_mod (d_callTy call_int1 cd_int1 T.m_int (by decide +kernel) (a_cons (d_callF (n := 1) (okF__law_great T) rfl (hr.mono (by decide)) T.g__law_great T.F__law_great.kp T.B__law_great (takes_of rfl rfl rfl rfl) (a_cons (d_var 2) a_nil)) a_nil)) (d_add (d_var 4) d_int)) a_nil))))) (g_name (i := 5) sc__law_letters_right.nd) (ss_cl [5, 6] (ss_cons (s_set (i := 6) sc__law_letters_right.nd (d_callTy call_tuple_of cd_tuple T.m_tuple (by decide +kernel) (a_cons (d_lcV false rfl sc__law_letters_right.nd (i_rng1 T.m_range (a_cons d_int a_nil)) (blkOk_by (own := [("y", 9)]) (N := N__law_letters_right) (sc := defScope s__law_letters_right) (by decide +kernel)) (fun _ _ _ _ _ => (g_name (i := 9) sc__law_letters_right.nd)) (fun _ _ _ _ _ => ts_nil) (fun _ _ _ _ _ => (d_callF (n := 3) (okF__law_letters_of T) rfl (hr.mono (by decide)) T.g__law_letters_of T.F__law_letters_of.kp T.B__law_letters_of takes0 (a_cons (d_ix (d_var 1) (d_var 3)) (a_cons (d_var 5) (a_cons (d_var 9) a_nil)))))) a_nil)))
      (ss_one (s_if (t_not (t_tru (d_callF (n := 2) (okF__law_same T) rfl (hr.mono (by decide)) T.g__law_same T.F__law_same.kp T.B__law_same (takes_of rfl rfl rfl rfl) (a_cons (d_meth (n := 2) T.cl_Shares T.mt_Shares_gains (okF_Shares_gains T) (hr.mono (by decide)) T.B_Shares_gains (takes_of rfl rfl rfl rfl) (d_var 0) (a_cons (d_var 3) (a_cons (d_var 5) a_nil))) (a_cons (d_var 6) a_nil))))) (ss_one (s_ret d_bl)) ss_nil)))))
      (ss_one (s_cl [7, 8] (s_if (t_gt (d_var 4) d_int) (ss_one (s_if (t_not (t_tru (d_callF (n := 2) (okF__law_same T) rfl (hr.mono (by decide)) T.g__law_same T.F__law_same.kp T.B__law_same (takes_of rfl rfl rfl rfl) (a_cons (d_callF (n := 2) (okF__law_refused_letters T) rfl (hr.mono (by decide)) T.g__law_refused_letters T.F__law_refused_letters.kp T.B__law_refused_letters (takes_of rfl rfl rfl rfl) (a_cons (d_var 0) (a_cons (d_var 3) a_nil))) (a_cons (d_tup (a_cons d_str (a_cons (d_var 4) (a_cons d_bl (a_cons d_bl (a_cons d_bl a_nil)))))) a_nil))))) (ss_one (s_ret d_bl)) ss_nil)) (ss_cons (s_set (i := 7) sc__law_letters_right.nd (d_callF (n := 1) (okF__law_spelled T) rfl (hr.mono (by decide)) T.g__law_spelled T.F__law_spelled.kp T.B__law_spelled (takes_of rfl rfl rfl rfl) (a_cons (d_ix (d_var 1) (d_var 3)) a_nil)))
      (ss_cons (s_set (i := 8) sc__law_letters_right.nd (d_meth (n := 1) T.cl_Shares T.mt_Shares_letters (okM_Shares_letters T) (hr.mono (by decide)) T.B_Shares_letters (takes_of rfl rfl rfl rfl) (d_var 0) (a_cons (d_var 3) a_nil)))
      (ss_cons (s_if (t_not (t_tru (d_callF (n := 2) (okF__law_same T) rfl (hr.mono (by decide)) T.g__law_same T.F__law_same.kp T.B__law_same (takes_of rfl rfl rfl rfl) (a_cons (d_var 8) (a_cons (d_var 7) a_nil))))) (ss_one (s_ret d_bl)) ss_nil)
      (ss_cons (s_expr (d_append (d_var 8) (a_cons (d_var 3) a_nil)))
      (ss_cons (s_setIx (d_var 3) (d_var 8) d_int)
      (ss_one (s_if (t_not (t_tru (d_callF (n := 2) (okF__law_same T) rfl (hr.mono (by decide)) T.g__law_same T.F__law_same.kp T.B__law_same (takes_of rfl rfl rfl rfl) (a_cons (d_meth (n := 1) T.cl_Shares T.mt_Shares_letters (okF_Shares_letters T) (hr.mono (by decide)) T.B_Shares_letters (takes_of rfl rfl rfl rfl) (d_var 0) (a_cons (d_var 3) a_nil)) (a_cons (d_var 7) a_nil))))) (ss_one (s_ret d_bl)) ss_nil))))))))))))))
      (ss_one (s_ret d_bl)))))
theorem okF__law_refused_end (T : Txt P K mg) : FnOk P w K mg base (L2.CX P w) 5 T.f__law_refused_end T.d__law_refused_end ["shares", "crowd"] (spD K mg 2 F__law_refused_end) :=
  fn_gcD (fn_ok T.F__law_refused_end sc__law_refused_end (fun cdv A outer s H E hr => (ss_cons (s_try_as (i := 2) (cn := cnL [("BadCrowd", true)]) sc__law_refused_end.nd ⟨rfl, by decide, .inl T.T_BadCrowd.gC⟩ (takes_of rfl rfl rfl rfl) (fun W1 pn1 xe1 tk1 po1 => (ss_one (s_expr (d_meth (n := 1) T.cl_Shares T.mt_Shares_end (okF_Shares_end T) (hr.mono (by decide)) T.B_Shares_end tk1 (d_var 0) (a_cons (d_var 1) a_nil))))) (cnL_ok (by intro p hp; simp only [List.mem_cons, List.not_mem_nil, or_false] at hp; subst hp; exact T.exm_BadCrowd_BadCrowd)) (fun a oe dd c1 flds pn hc1 hz hf => by have ec : c1 = "BadCrowd" := cnL_one hc1; subst ec; exact (ss_one (s_ret (d_tup (a_cons (d_xf (i := 2) (c := "BadCrowd") T.xf_BadCrowd T.xn_BadCrowd hz hf) (a_cons (d_isE (i := 2) (c := "BadCrowd") T.ec_BadCrowd hz hf T.m_isinstance (pe_glob (v := .ref T.C_HallError) rfl T.g_HallError rfl) (fun _ h => h) T.kit_BadCrowd_HallError (by decide +kernel)) (a_cons (d_isE (i := 2) (c := "BadCrowd") T.ec_BadCrowd hz hf T.m_isinstance (pe_bltn (v := .ty "ValueError") rfl T.m_ValueError (by decide +kernel) rfl) (fun _ h => h) T.kit_BadCrowd_ValueError (by decide +kernel)) (a_cons (d_isE (i := 2) (c := "BadCrowd") T.ec_BadCrowd hz hf T.m_isinstance (pe_glob (v := .ref T.C_BadNumber) rfl T.g_BadNumber rfl) (fun _ h => h) T.kit_BadCrowd_BadNumber (by decide +kernel)) a_nil)))))))))
      (ss_one (s_ret d_non)))))
theorem okF__law_refused_goes (T : Txt P K mg) : FnOk P w K mg base (L2.CX P w) 6 T.f__law_refused_goes T.d__law_refused_goes ["shares", "meeting"] (spD K mg 2 F__law_refused_goes) :=
  fn_gcD (fn_ok T.F__law_refused_goes sc__law_refused_goes (fun cdv A outer s H E hr => (ss_cons (s_try_as (i := 2) (cn := cnL [("BadCrowd", true)]) sc__law_refused_goes.nd ⟨rfl, by decide, .inl T.T_BadCrowd.gC⟩ (takes_of rfl rfl rfl rfl) (fun W1 pn1 xe1 tk1 po1 => (ss_one (s_expr (d_meth (n := 1) T.cl_Shares T.mt_Shares_goes (okF_Shares_goes T) (hr.mono (by decide)) T.B_Shares_goes tk1 (d_var 0) (a_cons (d_var 1) a_nil))))) (cnL_ok (by intro p hp; simp only [List.mem_cons, List.not_mem_nil, or_false] at hp; subst hp; exact T.exm_BadCrowd_BadCrowd)) (fun a oe dd c1 flds pn hc1 hz hf => by have ec : c1 = "BadCrowd" := cnL_one hc1; subst ec; exact (ss_one (s_ret (d_tup (a_cons (d_xf (i := 2) (c := "BadCrowd") T.xf_BadCrowd T.xn_BadCrowd hz hf) (a_cons (d_isE (i := 2) (c := "BadCrowd") T.ec_BadCrowd hz hf T.m_isinstance (pe_glob (v := .ref T.C_HallError) rfl T.g_HallError rfl) (fun _ h => h) T.kit_BadCrowd_HallError (by decide +kernel)) (a_cons (d_isE (i := 2) (c := "BadCrowd") T.ec_BadCrowd hz hf T.m_isinstance (pe_bltn (v := .ty "ValueError") rfl T.m_ValueError (by decide +kernel) rfl) (fun _ h => h) T.kit_BadCrowd_ValueError (by decide +kernel)) (a_cons (d_isE (i := 2) (c := "BadCrowd") T.ec_BadCrowd hz hf T.m_isinstance (pe_glob (v := .ref T.C_BadKind) rfl T.g_BadKind rfl) (fun _ h => h) T.kit_BadCrowd_BadKind (by decide +kernel)) a_nil)))))))))
      (ss_one (s_ret d_non)))))
theorem okF__law_refused_gains (T : Txt P K mg) : FnOk P w K mg base (L2.CX P w) 3 T.f__law_refused_gains T.d__law_refused_gains ["shares", "kind", "lacking"] (spD K mg 3 F__law_refused_gains) :=
  fn_gcD (fn_ok T.F__law_refused_gains sc__law_refused_gains (fun cdv A outer s H E hr => (ss_cons (s_try_m sc__law_refused_gains.nd (takes_of rfl rfl rfl rfl) (fun W1 pn1 xe1 tk1 po1 => (ss_one (s_expr (d_meth (n := 2) T.cl_Shares T.mt_Shares_gains (okF_Shares_gains T) (hr.mono (by decide)) T.B_Shares_gains tk1 (d_var 0) (a_cons (d_var 1) (a_cons (d_var 2) a_nil)))))) (.cons (i := 3) (cn := cnL [("BadKind", true), ("BadNumber", false)]) ⟨rfl, by decide, .inl T.T_BadKind.gC⟩ rfl rfl (cnL_ok (by intro p hp; simp only [List.mem_cons, List.not_mem_nil, or_false] at hp; rcases hp with rfl | rfl; exact T.exm_BadKind_BadKind; exact T.exm_BadNumber_BadKind)) (fun a oe dd c1 flds pn hc1 hz hf => by have ec : c1 = "BadKind" := cnL_oneM (by decide) hc1; subst ec; exact (ss_one (s_ret (d_tup (a_cons d_str (a_cons (d_xf (i := 3) (c := "BadKind") T.xf_BadKind T.xn_BadKind hz hf) (a_cons (d_isE (i := 3) (c := "BadKind") T.ec_BadKind hz hf T.m_isinstance (pe_glob (v := .ref T.C_HallError) rfl T.g_HallError rfl) (fun _ h => h) T.kit_BadKind_HallError (by decide +kernel)) (a_cons (d_isE (i := 3) (c := "BadKind") T.ec_BadKind hz hf T.m_isinstance (pe_bltn (v := .ty "ValueError") rfl T.m_ValueError (by decide +kernel) rfl) (fun _ h => h) T.kit_BadKind_ValueError (by decide +kernel)) (a_cons (d_isE (i := 3) (c := "BadKind") T.ec_BadKind hz hf T.m_isinstance (pe_glob (v := .ref T.C_BadNumber) rfl T.g_BadNumber rfl) (fun _ h => h) T.kit_BadKind_BadNumber (by decide +kernel)) a_nil))))))))) (.cons (i := 4) (cn := cnL [("BadNumber", true)]) ⟨rfl, by decide, .inl T.T_BadNumber.gC⟩ rfl rfl (cnL_ok (by intro p hp; simp only [List.mem_cons, List.not_mem_nil, or_false] at hp; subst hp; exact T.exm_BadNumber_BadNumber)) (fun a oe dd c1 flds pn hc1 hz hf => by have ec : c1 = "BadNumber" := cnL_one hc1; subst ec; exact (ss_one (s_ret (d_tup (a_cons d_str (a_cons (d_xf (i := 4) (c := "BadNumber") T.xf_BadNumber T.xn_BadNumber hz hf) (a_cons (d_isE (i := 4) (c := "BadNumber") T.ec_BadNumber hz hf T.m_isinstance (pe_glob (v := .ref T.C_HallError) rfl T.g_HallError rfl) (fun _ h => h) T.kit_BadNumber_HallError (by decide +kernel)) (a_cons (d_isE (i := 4) (c := "BadNumber") T.ec_BadNumber hz hf T.m_isinstance (pe_bltn (v := .ty "ValueError") rfl T.m_ValueError (by decide +kernel) rfl) (fun _ h => h) T.kit_BadNumber_ValueError (by decide +kernel)) (a_cons (d_isE (i := 4) (c := "BadNumber") T.ec_BadNumber hz hf T.m_isinstance (pe_glob (v := .ref T.C_BadKind) rfl T.g_BadKind rfl) (fun _ h => h) T.kit_BadNumber_BadKind (by decide +kernel)) a_nil))))))))) .nil)))
      (ss_one (s_ret d_non)))))
theorem okF__law_refusals_right (T : Txt P K mg) : FnOk P w K mg base (L2.CX P w) 7 T.f__law_refusals_right T.d__law_refusals_right ["shares", "keep", "crowd", "meeting", "pool"] (spD K mg 5 F__law_refusals_right) :=
  fn_gcD (fn_ok T.F__law_refusals_right sc__law_refusals_right (fun cdv A outer s H E hr => (ss_cons (s_set (i := 5) sc__law_refusals_right.nd (d_callF (n := 2) (okF__law_draw T) rfl (hr.mono (by decide)) T.g__law_draw T.F__law_draw.kp T.B__law_draw (takes_of rfl rfl rfl rfl) (a_cons (d_var 4) (a_cons d_int a_nil))))
      (ss_cons (s_set (i := 6) sc__law_refusals_right.nd (d_mod (d_callTy call_int1 cd_int1 T.m_int (by decide +kernel) (a_cons (d_add (d_var 5) d_int) a_nil)) d_int))
      (ss_cons (s_set (i := 7) sc__law_refusals_right.nd (d_sub (d_neg d_int) (d_callF (n := 2) (okF__law_draw T) rfl (hr.mono (by decide)) T.g__law_draw T.F__law_draw.kp T.B__law_draw (takes_of rfl rfl rfl rfl) (a_cons (d_var 4) (a_cons d_int a_nil)))))
      (ss_cons (s_for (passes_of rfl) rfl (i_seq (d_lst false (a_cons (d_slice false (d_var 2) o_none (o_some d_int)) (a_cons (d_addX false (d_var 2) (d_tup (a_cons d_int a_nil))) (a_cons (d_addX false (d_addX false (d_slice false (d_var 2) o_none (o_some (d_var 5))) (d_tup (a_cons (d_var 7) a_nil))) (d_slice false (d_var 2) (o_some (d_add (d_var 5) d_int)) o_none)) a_nil))))) (g_name (i := 8) sc__law_refusals_right.nd) (ss_cl [8] (ss_one (s_if (t_not (t_tru (d_callF (n := 2) (okF__law_same T) rfl (hr.mono (by decide)) T.g__law_same T.F__law_same.kp T.B__law_same (takes_of rfl rfl rfl rfl) (a_cons (d_callF (n := 2) (okF__law_refused_end T) rfl (hr.mono (by decide)) T.g__law_refused_end T.F__law_refused_end.kp T.B__law_refused_end (takes_of rfl rfl rfl rfl) (a_cons (d_var 0) (a_cons (d_var 8) a_nil))) (a_cons (d_tup (a_cons (d_var 8) (a_cons d_bl (a_cons d_bl (a_cons d_bl a_nil))))) a_nil))))) (ss_one (s_ret d_bl)) ss_nil))))
      (ss_split 3 (ss_gc IvC.no [] (ss_cons (s_set (i := 9) sc__law_refusals_right.nd (d_callTy call_list_of (cd_list true) T.m_list (by decide +kernel) (a_cons (d_var 3) a_nil)))
      (ss_cons (s_setIx (d_sub (d_add (d_ix (d_var 3) (d_var 6)) (d_ix (d_var 3) (d_var 5))) (d_var 7)) (d_var 9) (d_var 6))
      (ss_one (s_setIx (d_var 7) (d_var 9) (d_var 5))))))
      (ss_cons (s_set (i := 10) sc__law_refusals_right.nd (d_addX false (d_addX false (d_slice false (d_var 3) o_none (o_some (d_var 5))) (d_tup (a_cons (d_add (d_ix (d_var 3) (d_var 5)) d_int) a_nil))) (d_slice false (d_var 3) (o_some (d_add (d_var 5) d_int)) o_none)))
      (ss_cons (s_set (i := 11) sc__law_refusals_right.nd (d_ix (d_lcV false rfl sc__law_refusals_right.nd (i_rng1 T.m_range (a_cons d_int a_nil)) (blkOk_by (own := [("x", 15)]) (N := N__law_refusals_right) (sc := defScope s__law_refusals_right) (by decide +kernel)) (fun _ _ _ _ _ => (g_name (i := 15) sc__law_refusals_right.nd)) (fun _ _ _ _ _ => (ts_one (t_gt (d_ix (d_var 3) (d_var 15)) d_int))) (fun _ _ _ _ _ => (d_var 15))) d_int))
      (ss_cons (s_set (i := 12) sc__law_refusals_right.nd (d_addX false (d_addX false (d_slice false (d_var 3) o_none (o_some (d_var 11))) (d_tup (a_cons (d_sub (d_ix (d_var 3) (d_var 11)) d_int) a_nil))) (d_slice false (d_var 3) (o_some (d_add (d_var 11) d_int)) o_none)))
      (ss_cons (s_for (passes_of rfl) rfl (i_seq (d_lst false (a_cons (d_slice false (d_var 3) o_none (o_some d_int)) (a_cons (d_addX false (d_var 3) (d_tup (a_cons d_int a_nil))) (a_cons (d_callTy call_tuple_of cd_tuple T.m_tuple (by decide +kernel) (a_cons (d_var 9) a_nil)) (a_cons (d_var 10) (a_cons (d_var 12) a_nil))))))) (g_name (i := 8) sc__law_refusals_right.nd) (ss_cl [8] (ss_one (s_if (t_not (t_tru (d_callF (n := 2) (okF__law_same T) rfl (hr.mono (by decide)) T.g__law_same T.F__law_same.kp T.B__law_same (takes_of rfl rfl rfl rfl) (a_cons (d_callF (n := 2) (okF__law_refused_goes T) rfl (hr.mono (by decide)) T.g__law_refused_goes T.F__law_refused_goes.kp T.B__law_refused_goes (takes_of rfl rfl rfl rfl) (a_cons (d_var 0) (a_cons (d_var 8) a_nil))) (a_cons (d_tup (a_cons (d_var 8) (a_cons d_bl (a_cons d_bl (a_cons d_bl a_nil))))) a_nil))))) (ss_one (s_ret d_bl)) ss_nil))))
      (ss_cons (s_for (passes_of rfl) rfl (i_seq (d_lst false (a_cons (d_sub (d_neg d_int) (d_callF (n := 2) (okF__law_draw T) rfl (hr.mono (by decide)) T.g__law_draw T.F__law_draw.kp T.B__law_draw (takes_of rfl rfl rfl rfl) (a_cons (d_var 4) (a_cons d_int a_nil)))) (a_cons (d_add d_int (d_callF (n := 2) (okF__law_draw T) rfl (hr.mono (by decide)) T.g__law_draw T.F__law_draw.kp T.B__law_draw (takes_of rfl rfl rfl rfl) (a_cons (d_var 4) (a_cons d_int a_nil)))) a_nil)))) (g_name (i := 13) sc__law_refusals_right.nd) (ss_cl [13, 14] (ss_cons (s_set (i := 14) sc__law_refusals_right.nd (d_tup (a_cons d_str (a_cons (d_var 13) (a_cons d_bl (a_cons d_bl (a_cons d_bl a_nil)))))))
      (ss_cons (s_if (t_not (t_tru (d_callF (n := 2) (okF__law_same T) rfl (hr.mono (by decide)) T.g__law_same T.F__law_same.kp T.B__law_same (takes_of rfl rfl rfl rfl) (a_cons (d_callF (n := 2) (okF__law_refused_letters T) rfl (hr.mono (by decide)) T.g__law_refused_letters T.F__law_refused_letters.kp T.B__law_refused_letters (takes_of rfl rfl rfl rfl) (a_cons (d_var 0) (a_cons (d_var 13) a_nil))) (a_cons (d_var 14) a_nil))))) (ss_one (s_ret d_bl)) ss_nil)
      (ss_cons (s_if (t_not (t_tru (d_callF (n := 2) (okF__law_same T) rfl (hr.mono (by decide)) T.g__law_same T.F__law_same.kp T.B__law_same (takes_of rfl rfl rfl rfl) (a_cons (d_callF (n := 3) (okF__law_refused_gains T) rfl (hr.mono (by decide)) T.g__law_refused_gains T.F__law_refused_gains.kp T.B__law_refused_gains (takes_of rfl rfl rfl rfl) (a_cons (d_var 0) (a_cons (d_var 13) (a_cons d_int a_nil)))) (a_cons (d_var 14) a_nil))))) (ss_one (s_ret d_bl)) ss_nil)
      (ss_one (s_if (t_not (t_tru (d_callF (n := 2) (okF__law_same T) rfl (hr.mono (by decide)) T.g__law_same T.F__law_same.kp T.B__law_same (takes_of rfl rfl rfl rfl) (a_cons (d_callF (n := 3) (okF__law_refused_gains T) rfl (hr.mono (by decide)) T.g__law_refused_gains T.F__law_refused_gains.kp T.B__law_refused_gains (takes_of rfl rfl rfl rfl) (a_cons (d_var 0) (a_cons (d_var 13) (a_cons (d_neg d_int) a_nil)))) (a_cons (d_var 14) a_nil))))) (ss_one (s_ret d_bl)) ss_nil)))))))
      (ss_cons (s_for (passes_of rfl) rfl (i_rng1 T.m_range (a_cons d_int a_nil)) (g_name (i := 15) sc__law_refusals_right.nd) (ss_cl [15, 16] (ss_one (s_for (passes_of rfl) rfl (i_seq (d_lst false (a_cons (d_sub (d_neg d_int) (d_callF (n := 2) (okF__law_draw T) rfl (hr.mono (by decide)) T.g__law_draw T.F__law_draw.kp T.B__law_draw (takes_of rfl rfl rfl rfl) (a_cons (d_var 4) (a_cons d_int a_nil)))) (a_cons (d_add (d_ix (d_var 1) (d_var 15)) d_int) (a_cons (d_add (d_add (d_ix (d_var 1) (d_var 15)) d_int) (d_callF (n := 1) (okF__law_great T) rfl (hr.mono (by decide)) T.g__law_great T.F__law_great.kp T.B__law_great (takes_of rfl rfl rfl rfl) (a_cons (d_var 4) a_nil))) a_nil))))) (g_name (i := 16) sc__law_refusals_right.nd) (ss_cl [16] (ss_one (s_if (t_not (t_tru (d_callF (n := 2) (okF__law_same T) rfl (hr.mono (by decide)) T.g__law_same T.F__law_same.kp T.B__law_same (takes_of rfl rfl rfl rfl) (a_cons (d_callF (n := 3) (okF__law_refused_gains T) rfl (hr.mono (by decide)) T.g__law_refused_gains T.F__law_refused_gains.kp T.B__law_refused_gains (takes_of rfl rfl rfl rfl) (a_cons (d_var 0) (a_cons (d_var 15) (a_cons (d_var 16) a_nil)))) (a_cons (d_tup (a_cons d_str (a_cons (d_var 16) (a_cons d_bl (a_cons d_bl (a_cons d_bl a_nil)))))) a_nil))))) (ss_one (s_ret d_bl)) ss_nil)))))))
      (ss_one (s_ret d_bl)))))))))))))))
theorem okF__law_limit_right (T : Txt P K mg) : FnOk P w K mg base (L2.CX P w) 7 T.f__law_limit_right T.d__law_limit_right ["pool"] (spD K mg 1 F__law_limit_right) :=
  fn_gcD (fn_ok T.F__law_limit_right sc__law_limit_right (fun cdv A outer s H E hr => (ss_cons (s_set (i := 1) sc__law_limit_right.nd (d_add d_int (d_callF (n := 2) (okF__law_draw T) rfl (hr.mono (by decide)) T.g__law_draw T.F__law_draw.kp T.B__law_draw (takes_of rfl rfl rfl rfl) (a_cons (d_var 0) (a_cons d_int a_nil)))))
      (ss_cons (s_set (i := 2) sc__law_limit_right.nd (d_callF (n := 2) (okF__law_draw T) rfl (hr.mono (by decide)) T.g__law_draw T.F__law_draw.kp T.B__law_draw (takes_of rfl rfl rfl rfl) (a_cons (d_var 0) (a_cons d_int a_nil))))
      (ss_cons (s_set (i := 3) sc__law_limit_right.nd (d_mod (d_callTy call_int1 cd_int1 T.m_int (by decide +kernel) (a_cons (d_add (d_add (d_var 2) d_int) (d_callF (n := 2) (okF__law_draw T) rfl (hr.mono (by decide)) T.g__law_draw T.F__law_draw.kp T.B__law_draw (takes_of rfl rfl rfl rfl) (a_cons (d_var 0) (a_cons d_int a_nil)))) a_nil)) d_int))
      (ss_cons (s_set (i := 4) sc__law_limit_right.nd (d_lst true (a_cons d_int (a_cons d_int (a_cons d_int a_nil)))))
      (ss_cons (s_setIx (d_var 1) (d_var 4) (d_var 2))
      (ss_cons (s_set (i := 5) sc__law_limit_right.nd (d_lst true (a_cons (d_tup a_nil) (a_cons (d_tup a_nil) (a_cons (d_tup a_nil) a_nil)))))
      (ss_cons (s_setIx (d_tup (a_cons (d_tup (a_cons (d_var 3) (a_cons (d_var 1) a_nil))) a_nil)) (d_var 5) (d_var 2))
      (ss_one (s_ret (d_callF (n := 3) (okF__law_letters_right T) rfl (hr.mono (by decide)) T.g__law_letters_right T.F__law_letters_right.kp T.B__law_letters_right (takes_of rfl rfl rfl rfl) (a_cons (d_gc (d_mk (n := 2) (dds := []) T.g_Shares (T.mk_Shares) (okF_Shares___init__ T) (hr.mono (by decide)) T.B_Shares___init__ .nil .nil rfl (takes_of rfl rfl rfl rfl) (a_cons (d_callTy call_tuple_of cd_tuple T.m_tuple (by decide +kernel) (a_cons (d_var 4) a_nil)) (a_cons (d_callTy call_tuple_of cd_tuple T.m_tuple (by decide +kernel) (a_cons (d_var 5) a_nil)) a_nil)))) (a_cons (d_var 5) (a_cons (d_var 0) a_nil)))))))))))))))
theorem ok_law (T : Txt P K mg) {f : Addr} {fd : FuncData} (FL : Fun K "law" "law" s_law f fd) : FnOk P w K mg base (L2.CX P w) 8 f fd ["script"] (spD K mg 1 F_law) :=
  fn_ok FL sc_law (fun cdv A outer s H E hr => (ss_cons (s_set (i := 1) sc_law.nd (d_callF (n := 2) (okM__law_pool T) rfl (hr.mono (by decide)) T.g__law_pool T.F__law_pool.kp T.B__law_pool (takes_of rfl rfl rfl rfl) (a_cons (d_var 0) (a_cons d_int a_nil))))
      (ss_cons (s_set (i := 2) sc_law.nd (d_callF (n := 1) (okF__law_words T) rfl (hr.mono (by decide)) T.g__law_words T.F__law_words.kp T.B__law_words (takes_of rfl rfl rfl rfl) (a_cons (d_var 1) a_nil)))
      (ss_cons (s_set (i := 3) sc_law.nd (d_callTy call_tuple_of cd_tuple T.m_tuple (by decide +kernel) (a_cons (d_lcV false rfl sc_law.nd (i_seq (d_var 2)) (blkOk_by (own := [("word", 11)]) (N := N_law) (sc := defScope s_law) (by decide +kernel)) (fun _ _ _ _ _ => (g_name (i := 11) sc_law.nd)) (fun _ _ _ _ _ => ts_nil) (fun _ _ _ _ _ => (d_callF (n := 1) (okF__law_long T) rfl (hr.mono (by decide)) T.g__law_long T.F__law_long.kp T.B__law_long takes0 (a_cons (d_var 11) a_nil)))) a_nil)))
      (ss_cons (s_set (i := 1) sc_law.nd (d_callF (n := 2) (okM__law_pool T) rfl (hr.mono (by decide)) T.g__law_pool T.F__law_pool.kp T.B__law_pool (takes_of rfl rfl rfl rfl) (a_cons (d_var 0) (a_cons d_int a_nil))))
      (ss_cons (s_set (i := 4) sc_law.nd (d_lst false (a_cons (d_callF (n := 4) (okF__law_near T) rfl (hr.mono (by decide)) T.g__law_near T.F__law_near.kp T.B__law_near (takes_of rfl rfl rfl rfl) (a_cons (d_var 1) (a_cons (d_var 3) (a_cons (d_var 2) (a_cons d_bl a_nil))))) (a_cons (d_callF (n := 2) (okF__law_any T) rfl (hr.mono (by decide)) T.g__law_any T.F__law_any.kp T.B__law_any (takes_of rfl rfl rfl rfl) (a_cons (d_var 1) (a_cons (d_var 3) a_nil))) a_nil))))
      (ss_cons (s_set (i := 1) sc_law.nd (d_callF (n := 2) (okM__law_pool T) rfl (hr.mono (by decide)) T.g__law_pool T.F__law_pool.kp T.B__law_pool (takes_of rfl rfl rfl rfl) (a_cons (d_var 0) (a_cons d_int a_nil))))
      (ss_cons (s_set (i := 5) sc_law.nd (d_lst false (a_cons (d_callF (n := 4) (okF__law_near T) rfl (hr.mono (by decide)) T.g__law_near T.F__law_near.kp T.B__law_near (takes_of rfl rfl rfl rfl) (a_cons (d_var 1) (a_cons (d_var 3) (a_cons (d_var 2) (a_cons d_bl a_nil))))) (a_cons (d_callF (n := 2) (okF__law_any_meeting T) rfl (hr.mono (by decide)) T.g__law_any_meeting T.F__law_any_meeting.kp T.B__law_any_meeting (takes_of rfl rfl rfl rfl) (a_cons (d_var 1) (a_cons (d_callB (FC.CallR.or (cr_sum rfl) (cr_sumT rfl)) cd_sum T.m_sum (by decide +kernel) (a_cons (d_var 3) a_nil)) a_nil))) a_nil))))
      (ss_cons (s_set (i := 1) sc_law.nd (d_callF (n := 2) (okM__law_pool T) rfl (hr.mono (by decide)) T.g__law_pool T.F__law_pool.kp T.B__law_pool (takes_of rfl rfl rfl rfl) (a_cons (d_var 0) (a_cons d_int a_nil))))
      (ss_cons (s_setLcV (i := 6) false rfl sc_law.nd (sw_true rfl rfl rfl (by decide +kernel)) (i_rng1 T.m_range (a_cons d_int a_nil)) (blkOk_by (own := [("x", 7)]) (N := N_law) (sc := defScope s_law) (by decide +kernel)) (fun _ _ _ _ _ => (g_name (i := 7) sc_law.nd)) (fun _ _ _ _ _ => (ts_one (t_gt (d_ix (d_var 3) (d_var 7)) d_int))) (fun _ _ _ _ _ => (d_var 7)))
      (ss_cons (s_set (i := 7) sc_law.nd (d_ix (d_var 6) (d_callF (n := 2) (okF__law_draw T) rfl (hr.mono (by decide)) T.g__law_draw T.F__law_draw.kp T.B__law_draw (takes_of rfl rfl rfl rfl) (a_cons (d_var 1) (a_cons (d_callB call_len_seq cd_len T.m_len PySem.boot_len (a_cons (d_var 6) a_nil)) a_nil)))))
      (ss_cons (s_set (i := 8) sc_law.nd (d_callTy call_list_of (cd_list true) T.m_list (by decide +kernel) (a_cons (d_var 2) a_nil)))
      (ss_cons (s_setIx (d_callF (n := 3) (okF__law_turned T) rfl (hr.mono (by decide)) T.g__law_turned T.F__law_turned.kp T.B__law_turned (takes_of rfl rfl rfl rfl) (a_cons (d_ix (d_var 2) (d_var 7)) (a_cons (d_var 7) (a_cons (d_mod (d_callTy call_int1 cd_int1 T.m_int (by decide +kernel) (a_cons (d_callF (n := 1) (okF__law_great T) rfl (hr.mono (by decide)) T.g__law_great T.F__law_great.kp T.B__law_great (takes_of rfl rfl rfl rfl) (a_cons (d_var 1) a_nil)) a_nil)) (d_ix (d_var 3) (d_var 7))) a_nil)))) (d_var 8) (d_var 7))
      (ss_cons (s_set (i := 8) sc_law.nd (d_callTy call_tuple_of cd_tuple T.m_tuple (by decide +kernel) (a_cons (d_var 8) a_nil)))
      (ss_cons (s_set (i := 9) sc_law.nd (d_gc (d_mk (n := 2) (dds := []) T.g_Shares (T.mk_Shares) (okF_Shares___init__ T) (hr.mono (by decide)) T.B_Shares___init__ .nil .nil rfl (takes_of rfl rfl rfl rfl) (a_cons (d_var 3) (a_cons (d_var 2) a_nil)))))
      (ss_cons (s_set (i := 10) sc_law.nd (d_gc (d_mk (n := 2) (dds := []) T.g_Shares (T.mk_Shares) (okF_Shares___init__ T) (hr.mono (by decide)) T.B_Shares___init__ .nil .nil rfl (takes_of rfl rfl rfl rfl) (a_cons (d_var 3) (a_cons (d_var 8) a_nil)))))
      (ss_cons (s_if (t_of (w_or (t_cmp (op_own (okF_Shares___eq__ T) (hr.mono (by decide)) T.eq_Shares T.fn_Shares___eq__ T.B_Shares___eq__) od_own (d_var 9) (d_var 10) rfl) (w_or1 (t_not (t_cmp (op_own (okF_Shares___eq__ T) (hr.mono (by decide)) T.eq_Shares T.fn_Shares___eq__ T.B_Shares___eq__) od_own (d_var 9) (d_gc (d_mk (n := 2) (dds := []) T.g_Shares (T.mk_Shares) (okF_Shares___init__ T) (hr.mono (by decide)) T.B_Shares___init__ .nil .nil rfl (takes_of rfl rfl rfl rfl) (a_cons (d_var 3) (a_cons (d_var 2) a_nil)))) rfl))))) (ss_one (s_ret d_bl)) ss_nil)
      (ss_cons (s_if (t_of (w_or (t_not (t_tru (d_callF (n := 3) (okF__law_fields_right T) rfl (hr.mono (by decide)) T.g__law_fields_right T.F__law_fields_right.kp T.B__law_fields_right (takes_of rfl rfl rfl rfl) (a_cons (d_var 9) (a_cons (d_var 3) (a_cons (d_var 2) a_nil)))))) (w_or1 (t_not (t_tru (d_callF (n := 3) (okF__law_fields_right T) rfl (hr.mono (by decide)) T.g__law_fields_right T.F__law_fields_right.kp T.B__law_fields_right (takes_of rfl rfl rfl rfl) (a_cons (d_var 10) (a_cons (d_var 3) (a_cons (d_var 8) a_nil))))))))) (ss_one (s_ret d_bl)) ss_nil)
      (ss_cons (s_if (t_not (t_tru (d_callF (n := 4) (okF__law_ends_right T) rfl (hr.mono (by decide)) T.g__law_ends_right T.F__law_ends_right.kp T.B__law_ends_right (takes_of rfl rfl rfl rfl) (a_cons (d_var 9) (a_cons (d_var 3) (a_cons (d_var 2) (a_cons (d_addX false (d_var 4) (d_var 5)) a_nil))))))) (ss_one (s_ret d_bl)) ss_nil)
      (ss_cons (s_if (t_not (t_tru (d_callF (n := 4) (okF__law_ends_right T) rfl (hr.mono (by decide)) T.g__law_ends_right T.F__law_ends_right.kp T.B__law_ends_right (takes_of rfl rfl rfl rfl) (a_cons (d_var 10) (a_cons (d_var 3) (a_cons (d_var 8) (a_cons (d_addX false (d_var 4) (d_var 5)) a_nil))))))) (ss_one (s_ret d_bl)) ss_nil)
      (ss_cons (s_if (t_of (w_or (t_not (t_tru (d_callF (n := 4) (okF__law_goes_right T) rfl (hr.mono (by decide)) T.g__law_goes_right T.F__law_goes_right.kp T.B__law_goes_right (takes_of rfl rfl rfl rfl) (a_cons (d_var 9) (a_cons (d_var 3) (a_cons (d_var 2) (a_cons (d_var 5) a_nil))))))) (w_or1 (t_not (t_tru (d_callF (n := 4) (okF__law_goes_right T) rfl (hr.mono (by decide)) T.g__law_goes_right T.F__law_goes_right.kp T.B__law_goes_right (takes_of rfl rfl rfl rfl) (a_cons (d_var 10) (a_cons (d_var 3) (a_cons (d_var 8) (a_cons (d_var 5) a_nil)))))))))) (ss_one (s_ret d_bl)) ss_nil)
      (ss_cons (s_set (i := 1) sc_law.nd (d_callF (n := 2) (okM__law_pool T) rfl (hr.mono (by decide)) T.g__law_pool T.F__law_pool.kp T.B__law_pool (takes_of rfl rfl rfl rfl) (a_cons (d_var 0) (a_cons d_int a_nil))))
      (ss_cons (s_if (t_not (t_tru (d_callF (n := 3) (okF__law_letters_right T) rfl (hr.mono (by decide)) T.g__law_letters_right T.F__law_letters_right.kp T.B__law_letters_right (takes_of rfl rfl rfl rfl) (a_cons (d_var 9) (a_cons (d_var 2) (a_cons (d_var 1) a_nil)))))) (ss_one (s_ret d_bl)) ss_nil)
      (ss_cons (s_if (t_not (t_tru (d_callF (n := 5) (okF__law_refusals_right T) rfl (hr.mono (by decide)) T.g__law_refusals_right T.F__law_refusals_right.kp T.B__law_refusals_right (takes_of rfl rfl rfl rfl) (a_cons (d_var 9) (a_cons (d_var 3) (a_cons (d_ix (d_var 4) d_int) (a_cons (d_ix (d_var 5) d_int) (a_cons (d_var 1) a_nil)))))))) (ss_one (s_ret d_bl)) ss_nil)
      (ss_cons (s_if (t_of (w_and (t_eq hr.units (d_callF (n := 2) (okF__law_draw T) rfl (hr.mono (by decide)) T.g__law_draw T.F__law_draw.kp T.B__law_draw (takes_of rfl rfl rfl rfl) (a_cons (d_var 1) (a_cons d_int a_nil))) d_int) (w_and1 (t_not (t_tru (d_callF (n := 1) (okF__law_limit_right T) rfl (hr.mono (by decide)) T.g__law_limit_right T.F__law_limit_right.kp T.B__law_limit_right (takes_of rfl rfl rfl rfl) (a_cons (d_var 1) a_nil))))))) (ss_one (s_ret d_bl)) ss_nil)
      (ss_one (s_ret (d_andT (d_callF (n := 3) (okF__law_fields_right T) rfl (hr.mono (by decide)) T.g__law_fields_right T.F__law_fields_right.kp T.B__law_fields_right (takes_of rfl rfl rfl rfl) (a_cons (d_var 9) (a_cons (d_var 3) (a_cons (d_var 2) a_nil)))) (d_one (d_callF (n := 4) (okF__law_ends_right T) rfl (hr.mono (by decide)) T.g__law_ends_right T.F__law_ends_right.kp T.B__law_ends_right (takes_of rfl rfl rfl rfl) (a_cons (d_var 9) (a_cons (d_var 3) (a_cons (d_var 2) (a_cons (d_addX false (d_var 4) (d_var 5)) a_nil))))))))))))))))))))))))))))))))))
end
end FCL

set_option Elab.async false
set_option linter.all false
set_option maxRecDepth 100000
namespace FC
open PySem PySem.Spec L2
section
variable {ft : FT} {fe fo fi : FE} {f g : FS} {fI : FI} {b : Bd} {fa : FA} {env : DEnv} {S : Store} {ds : List Dv}
@[simp] theorem sIf_e : sIf ft f g env S = sBnd ft (fun c => if c = true then f else g) env S := rfl
@[simp] theorem sRet_e : sRet fe env S = sBnd fe (fun d _ S => some (.rt d S)) env S := rfl
@[simp] theorem sExpr_e : sExpr fe env S = sBnd fe (fun _ => sNext) env S := rfl
@[simp] theorem sAsg_e : sAsg fe b env S = sBnd fe (fun d env S => match b d env with
  | some env' => some (.nx env' S)
  | none => none) env S := rfl
@[simp] theorem sFor_e : sFor fI b f env S = sBnd fI (fun items => forM' b f items) env S := rfl
@[simp] theorem sRaise_e {name : Str} {flds : List Str} : sRaise name flds fa env S = sBnd fa (fun ds env S => if ds.length = flds.length then some (.exc name (flds.zip ds) env S) else none) env S := rfl
@[simp] theorem sSetIx_e : sSetIx fo fi fe env S = sBnd fe (fun v => sBnd fo fun o => sBnd fi fun i => fun env S => match setIx o i v S with
  | some S' => some (.nx env S')
  | none => none) env S := rfl
@[simp] theorem oSum_e : oSum ds S = oSeq (fun xs => bnd (ofO (asInts xs)) fun ns => FC.ret (.int ns.sum)) ds S := rfl
@[simp] theorem oAllL_e : oAllL ds S = oSeqL (fun xs => bnd (ofO (asBls xs)) fun ns => FC.ret (.bl (ns.all id))) ds S := rfl
@[simp] theorem oAnyL_e : oAnyL ds S = oSeqL (fun xs => bnd (ofO (asBls xs)) fun ns => FC.ret (.bl (ns.any id))) ds S := rfl
@[simp] theorem oTuple_e : oTuple ds S = oSeq (fun xs => FC.ret (.tup xs)) ds S := rfl
end
section
variable {i j : Int} {S : Store}
@[simp] theorem oSub_i : oSub (.int i) (.int j) S = some (.ok (.int (i - j)) S) := rfl
@[simp] theorem oLt_i : oLt (.int i) (.int j) S = some (.ok (.bl (decide (i < j))) S) := rfl
@[simp] theorem oLe_i : oLe (.int i) (.int j) S = some (.ok (.bl (decide (i ≤ j))) S) := rfl
@[simp] theorem oGt_i : oGt (.int i) (.int j) S = some (.ok (.bl (decide (j < i))) S) := rfl
@[simp] theorem oGe_i : oGe (.int i) (.int j) S = some (.ok (.bl (decide (j ≤ i))) S) := rfl
@[simp] theorem oBAnd_i : oBAnd (.int i) (.int j) S = some (.ok (.int (Builtin.bitAnd i j)) S) := rfl
theorem oIC_i {C : Int → Int → Prop} [∀ i j, Decidable (C i j)] {g : Int → Int → Dv} (h : C i j) : oIC C g (.int i) (.int j) S = some (.ok (g i j) S) := by simp [oIC, ret, h]
@[simp] theorem oMod_i (h : 0 < j) : oMod (.int i) (.int j) S = some (.ok (.int (i % j)) S) := oIC_i h
theorem oDiv_i (h : 0 < j) (h2 : j.natAbs.log2 < 9000) : oDiv (.int i) (.int j) S = some (.ok (.int (i / j)) S) := oIC_i ⟨h, h2⟩
theorem oMul_i (h : i.natAbs.log2 + j.natAbs.log2 < 1000000) : oMul (.int i) (.int j) S = some (.ok (.int (i * j)) S) := oIC_i h
theorem log2_lt {i : Int} {k n : Nat} (h : i.natAbs < 2 ^ k) (hk : k ≤ n) (hn : 0 < n) : i.natAbs.log2 < n := by
  rcases Nat.eq_zero_or_pos i.natAbs with z | z
  · rw [z]; simpa using hn
  · have := (Nat.log2_lt (by omega)).2 h
    omega
theorem oMul_b (h : 0 ≤ i) (h2 : i < 2 ^ 64) (h3 : 0 ≤ j) (h4 : j < 2 ^ 64) : oMul (.int i) (.int j) S = some (.ok (.int (i * j)) S) := oMul_i (by
  have a := log2_lt (i := i) (k := 64) (n := 64) (by omega) (by decide) (by decide)
  have b := log2_lt (i := j) (k := 64) (n := 64) (by omega) (by decide) (by decide)
  omega)
theorem oDiv_b (h : 0 < j) (h2 : j < 2 ^ 64) : oDiv (.int i) (.int j) S = some (.ok (.int (i / j)) S) := oDiv_i h (log2_lt (k := 64) (by omega) (by decide) (by decide))
theorem oPow_i (h : 0 ≤ j) (h2 : j ≤ 1000000) (h3 : i.natAbs < 2 ^ 64) : oPow (.int i) (.int j) S = some (.ok (.int (i ^ j.toNat)) S) := oIC_i ⟨h, h2, h3⟩
theorem oShl_i (h : 0 ≤ j) (h2 : j ≤ 1000000) (h3 : i.natAbs < 2 ^ 64) : oShl (.int i) (.int j) S = some (.ok (.int (i * 2 ^ j.toNat)) S) := oIC_i ⟨h, h2, h3⟩
theorem oShr_i (h : 0 ≤ j) : oShr (.int i) (.int j) S = some (.ok (.int (i / 2 ^ j.toNat)) S) := oIC_i h
@[simp] theorem ten18 : oPow (.int 10) (.int 18) S = some (.ok (.int 1000000000000000000) S) := oPow_i (by decide) (by decide) (by decide)
@[simp] theorem ten7 : oPow (.int 10) (.int 7) S = some (.ok (.int 10000000) S) := oPow_i (by decide) (by decide) (by decide)
@[simp] theorem ten6 : oPow (.int 10) (.int 6) S = some (.ok (.int 1000000) S) := oPow_i (by decide) (by decide) (by decide)
@[simp] theorem oMin2_i : oMin2 [.int i, .int j] S = some (.ok (.int (min i j)) S) := by
  have : (if j < i then j else i) = min i j := by split <;> omega
  simp [oMin2, FC.ret, this]
@[simp] theorem oMax2_i : oMax2 [.int i, .int j] S = some (.ok (.int (max i j)) S) := by
  have : (if j > i then j else i) = max i j := by split <;> omega
  simp only [oMax2, FC.ret, this]
theorem abs_if (i : Int) : (if i < 0 then -i else i) = (i.natAbs : Int) := by split <;> omega
@[simp] theorem oAbs_i : oAbs [.int i] S = some (.ok (.int (i.natAbs : Int)) S) := by simp only [oAbs, FC.ret, abs_if]
@[simp] theorem oInt1_i : oInt1 [.int i] S = some (.ok (.int i) S) := rfl
theorem ite_app {c : Prop} [Decidable c] {α : Type} {f g : Mm α} {r : Option (Rs α)} (h : c) (e : f S = r) : (if c then f else g) S = r := by rw [if_pos h]; exact e
theorem rng1_e (h : rngOk j) : rng1 [.int j] S = some (.ok ((upTo 0 j.toNat).map .int) S) := ite_app (f := FC.ret ((upTo 0 j.toNat).map Dv.int)) (g := stuck) h rfl
theorem rng2_e (h : rngOk i) (h2 : rngOk j) : rng2 [.int i, .int j] S = some (.ok ((upTo i (j - i).toNat).map .int) S) := ite_app (f := FC.ret ((upTo i (j - i).toNat).map Dv.int)) (g := stuck) (And.intro h h2) rfl
theorem rngOk_of {i : Int} (h : 0 ≤ i) (h2 : i ≤ 1000000) : rngOk i := by unfold rngOk; omega
@[simp] theorem rng1_len {n : Nat} (h : n ≤ 1000000) : rng1 [.int n] S = some (.ok ((upTo 0 n).map .int) S) := by
  rw [rng1_e (rngOk_of (by omega) (by omega)), Int.toNat_natCast]
theorem rgOk_of {i : Int} (h : 0 ≤ i) (h2 : i ≤ 400000) : rgOk 0 i := ⟨by decide, by omega⟩
theorem fLr1_e {fa : FE} {env : DEnv} {n : Int} (hf : fa env S = some (.ok (.int n) S)) (h : 0 ≤ n) (h2 : n ≤ 400000) : fLr1 false fa env S = some (.ok (.lst ((upTo 0 (n - 0).toNat).map .int)) S) := by
  unfold fLr1 FC.bnd
  rw [hf]
  exact ite_app (f := newL false ((upTo 0 (n - 0).toNat).map Dv.int)) (g := stuck) (rgOk_of h h2) rfl
theorem fLr1_len {fa : FE} {env : DEnv} {n : Nat} (hf : fa env S = some (.ok (.int n) S)) (h : n ≤ 400000) : fLr1 false fa env S = some (.ok (.lst ((upTo 0 n).map .int)) S) := by
  rw [fLr1_e hf (by omega) (by omega), Int.sub_zero, Int.toNat_natCast]
@[simp] theorem oEq_i : oEq (.int i) (.int j) S = some (.ok (.bl (decide (i = j))) S) := rfl
@[simp] theorem oNe_i : oNe (.int i) (.int j) S = some (.ok (.bl (!decide (i = j))) S) := rfl
end
/-- a tuple of ints; a list of ints -/
abbrev tIn (xs : List Int) : Dv := .tup (xs.map .int)
abbrev lIn (xs : List Int) : Dv := .lst (xs.map .int)
@[simp] theorem asInts_map' (xs : List Int) : asInts (xs.map Dv.int) = some xs := asInts_map xs
@[simp] theorem asBls_map' (xs : List Bool) : asBls (xs.map Dv.bl) = some xs := asBls_map xs
/-- a comprehension whose parts change nothing -/
theorem compM_pure {α : Type} {b : Bd} {ft : FT} {fe : FE} {env0 : DEnv} {S : Store} (enc : α → Dv) (p : α → Bool) (g : α → Dv) : ∀ (xs : List α) (acc : List Dv), acc.length + xs.length ≤ big →
    (∀ x ∈ xs, ∃ env1, b (enc x) env0 = some env1 ∧ ft env1 S = some (.ok (p x) S) ∧ (p x = true → fe env1 S = some (.ok (g x) S))) → compM b ft fe env0 (xs.map enc) acc S = some (.ok (acc ++ (xs.filter p).map g) S)
  | [], acc, _, _ => by simp [compM]
  | x :: xs, acc, hl, h => by
    obtain ⟨env1, h1, h2, h3⟩ := h x List.mem_cons_self
    have hl' : acc.length + (xs.length + 1) ≤ big := hl
    have ha : acc.length ≤ big := by omega
    show compM b ft fe env0 (enc x :: xs.map enc) acc S = _
    unfold compM
    simp only [h1, h2]
    cases hp : p x with
    | false =>
      simp only
      rw [compM_pure enc p g xs acc (by omega) fun y hy => h y (List.mem_cons_of_mem _ hy)]
      simp [hp]
    | true =>
      simp only [h3 hp, if_pos ha]
      rw [compM_pure enc p g xs (acc ++ [g x]) (by simp; omega) fun y hy => h y (List.mem_cons_of_mem _ hy)]
      simp [hp]
/-- .. without a test -/
theorem compM_map {α : Type} {b : Bd} {fe : FE} {env0 : DEnv} {S : Store} (enc : α → Dv) (g : α → Dv) (xs : List α) (hl : xs.length ≤ big) (h : ∀ x ∈ xs, ∃ env1, b (enc x) env0 = some env1 ∧ fe env1 S = some (.ok (g x) S)) : compM b fYes fe env0 (xs.map enc) [] S = some (.ok (xs.map g) S) := by
  have := compM_pure (b := b) (ft := fYes) (fe := fe) (env0 := env0) (S := S) enc (fun _ => true) g xs [] (by simpa using hl) fun x hx => by
    obtain ⟨env1, h1, h2⟩ := h x hx
    exact ⟨env1, h1, rfl, fun _ => h2⟩
  rw [this, List.nil_append, List.filter_eq_self.mpr (by simp)]
/-- .. whose element changes the store: P by the number of elements made -/
theorem compM_st {α : Type} {b : Bd} {fe : FE} {env0 : DEnv} (enc : α → Dv) (P : Nat → Store → Prop) (Q : α → Dv → Prop) (N : Nat) : ∀ (xs : List α) (acc : List Dv) (i : Nat) (S : Store), acc.length + xs.length ≤ big → i + xs.length ≤ N → P i S →
    (∀ x ∈ xs, ∀ j S, j < N → P j S → ∃ env1 y S', b (enc x) env0 = some env1 ∧ fe env1 S = some (.ok y S') ∧ P (j + 1) S' ∧ Q x y) →
    ∃ ys S', compM b fYes fe env0 (xs.map enc) acc S = some (.ok (acc ++ ys) S') ∧ P (i + xs.length) S' ∧ ys.length = xs.length ∧ ∀ (k : Nat) (x : α) (y : Dv), xs[k]? = some x → ys[k]? = some y → Q x y
  | [], acc, i, S, _, _, hP, _ => ⟨[], S, by simp [compM], by simpa using hP, rfl, by simp⟩
  | x :: xs, acc, i, S, hl, hN, hP, h => by
    have hN' : i + (xs.length + 1) ≤ N := hN
    obtain ⟨env1, y, S1, h1, h2, h3, h4⟩ := h x List.mem_cons_self i S (by omega) hP
    have hl' : acc.length + (xs.length + 1) ≤ big := hl
    have ha : acc.length ≤ big := by omega
    obtain ⟨ys, S', e1, e2, e3, e4⟩ := compM_st enc P Q N xs (acc ++ [y]) (i + 1) S1 (by simp; omega) (by omega) h3 fun z hz => h z (List.mem_cons_of_mem _ hz)
    refine ⟨y :: ys, S', ?_, ?_, by simp [e3], fun k => ?_⟩
    · show compM b fYes fe env0 (enc x :: xs.map enc) acc S = _
      unfold compM
      simp only [h1, fYes, FC.ret, h2, if_pos ha, e1, List.append_assoc, List.singleton_append]
    · simp only [List.length_cons]
      rw [show i + (xs.length + 1) = i + 1 + xs.length by omega]
      exact e2
    · cases k with
      | zero =>
        intro x' y' hx hy
        simp at hx hy
        subst hx; subst hy
        exact h4
      | succ k => simpa using e4 k
/-- a loop that goes through all items -/
theorem forM_all {α : Type} {b : Bd} {fb : FS} {S : Store} (enc : α → Dv) (Pe : DEnv → Prop) : ∀ (xs : List α) (env : DEnv), Pe env → (∀ x ∈ xs, ∀ env, Pe env → ∃ env1 env2, b (enc x) env = some env1 ∧ fb env1 S = some (.nx env2 S) ∧ Pe env2) →
    ∃ env', forM' b fb (xs.map enc) env S = some (.nx env' S) ∧ Pe env'
  | [], env, hP, _ => ⟨env, by simp [forM'], hP⟩
  | x :: xs, env, hP, h => by
    obtain ⟨env1, env2, h1, h2, h3⟩ := h x List.mem_cons_self env hP
    obtain ⟨env', e1, e2⟩ := forM_all enc Pe xs env2 h3 fun z hz => h z (List.mem_cons_of_mem _ hz)
    refine ⟨env', ?_, e2⟩
    show forM' b fb (enc x :: xs.map enc) env S = _
    unfold forM'
    simp only [h1, h2, e1]
/-- .. whose body changes the store -/
theorem forM_st {α : Type} {b : Bd} {fb : FS} (enc : α → Dv) (P : Nat → DEnv → Store → Prop) (N : Nat) : ∀ (xs : List α) (i : Nat) (env : DEnv) (S : Store), i + xs.length ≤ N → P i env S → (∀ x ∈ xs, ∀ j env S, j < N → P j env S → ∃ env1 env2 S2, b (enc x) env = some env1 ∧ fb env1 S = some (.nx env2 S2) ∧ P (j + 1) env2 S2) →
    ∃ env' S', forM' b fb (xs.map enc) env S = some (.nx env' S') ∧ P (i + xs.length) env' S'
  | [], i, env, S, _, hP, _ => ⟨env, S, by simp [forM'], by simpa using hP⟩
  | x :: xs, i, env, S, hN, hP, h => by
    have hN' : i + (xs.length + 1) ≤ N := hN
    obtain ⟨env1, env2, S2, h1, h2, h3⟩ := h x List.mem_cons_self i env S (by omega) hP
    obtain ⟨env', S', e1, e2⟩ := forM_st enc P N xs (i + 1) env2 S2 (by omega) h3 fun z hz => h z (List.mem_cons_of_mem _ hz)
    refine ⟨env', S', ?_, ?_⟩
    · show forM' b fb (enc x :: xs.map enc) env S = _
      unfold forM'
      simp only [h1, h2, e1]
    · simp only [List.length_cons]
      rw [show i + (xs.length + 1) = i + 1 + xs.length by omega]
      exact e2
/-! ### pairs of ints -/
def encP (p : Int × Int) : Dv := .tup [.int p.1, .int p.2]
theorem pairs_ints : ∀ xs ys : List Int, pairs (xs.map .int) (ys.map .int) = (xs.zip ys).map encP
  | [], _ => by simp [pairs]
  | _ :: _, [] => by simp [pairs]
  | x :: xs, y :: ys => by
    simp only [List.map_cons, pairs, List.zip_cons_cons, encP, pairs_ints xs ys]
theorem upTo_range (n : Nat) : upTo 0 n = (List.range n).map fun i : Nat => (i : Int) := by
  unfold upTo
  simp
theorem numbered_ints (xs : List Int) : numbered (xs.map .int) = ((upTo 0 xs.length).zip xs).map encP := by
  unfold numbered
  rw [List.length_map]
  exact pairs_ints _ _
@[simp] theorem big_e : big = 1000000 := rfl
end FC

set_option Elab.async false
set_option linter.all false
set_option maxRecDepth 100000
namespace FCP
open FC (upTo)
/-! parts of a crowd: the first one, the next one, all of them -/
def fpart : List Int → Int → List Int
  | [], _ => []
  | _ :: cs, n => (n - min n cs.sum) :: fpart cs (min n cs.sum)
def npart : List Int → List Int → Option (List Int)
  | c :: cs, p :: ps => match npart cs ps with
    | some q => some (p :: q)
    | none => if 0 < ps.sum ∧ p < c then some ((p + 1) :: fpart cs (ps.sum - 1)) else none
  | _, _ => none
def allp : List Int → Int → List (List Int)
  | [], n => if n = 0 then [[]] else []
  | c :: cs, n => (upTo 0 (min c n + 1).toNat).flatMap fun k => (allp cs (n - k)).map (k :: ·)
/-- p, next, next .. to the end -/
def Ch {α : Type} (nx : α → Option α) : List α → Prop
  | [] => True
  | [p] => nx p = none
  | p :: q :: r => nx p = some q ∧ Ch nx (q :: r)
def Nn (cs : List Int) : Prop := ∀ c ∈ cs, 0 ≤ c
theorem Nn.tail {c : Int} {cs : List Int} (h : Nn (c :: cs)) : Nn cs := fun x hx => h x (List.mem_cons_of_mem _ hx)
theorem Nn.head {c : Int} {cs : List Int} (h : Nn (c :: cs)) : 0 ≤ c := h c List.mem_cons_self
theorem Nn.sum : ∀ {cs : List Int}, Nn cs → 0 ≤ cs.sum
  | [], _ => by simp
  | c :: cs, h => by
    have := Nn.sum h.tail
    have := h.head
    simp only [List.sum_cons]
    omega
theorem mem_upTo {lo i : Int} {n : Nat} : i ∈ upTo lo n ↔ lo ≤ i ∧ i < lo + n := by
  unfold upTo
  simp only [List.mem_map, List.mem_range]
  constructor
  · rintro ⟨k, hk, rfl⟩; omega
  · rintro ⟨h1, h2⟩; exact ⟨(i - lo).toNat, by omega, by omega⟩
theorem mem_allp : ∀ {cs : List Int} {n : Int} {p : List Int}, p ∈ allp cs n → p.length = cs.length ∧ p.sum = n ∧ Nn p
  | [], n, p, h => by
    unfold allp at h
    split at h
    · rename_i e
      simp only [List.mem_singleton] at h
      subst h
      exact ⟨rfl, by simp [e], fun _ h => by cases h⟩
    · cases h
  | c :: cs, n, p, h => by
    unfold allp at h
    rw [List.mem_flatMap] at h
    obtain ⟨k, hk, h⟩ := h
    rw [List.mem_map] at h
    obtain ⟨q, hq, rfl⟩ := h
    obtain ⟨h1, h2, h3⟩ := mem_allp hq
    rw [mem_upTo] at hk
    refine ⟨by simp [h1], by simp only [List.sum_cons, h2]; omega, fun x hx => ?_⟩
    rcases List.mem_cons.1 hx with rfl | hx
    · exact hk.1
    · exact h3 x hx
theorem allp_nil : ∀ {cs : List Int} {n : Int}, Nn cs → (n < 0 ∨ cs.sum < n) → allp cs n = []
  | [], n, _, h => by
    unfold allp
    rw [if_neg (by simp at h; omega)]
  | c :: cs, n, hc, h => by
    unfold allp
    rw [List.flatMap_eq_nil_iff]
    intro k hk
    rw [mem_upTo] at hk
    have := hc.head
    simp only [List.sum_cons] at h
    rw [List.map_eq_nil_iff]
    exact allp_nil hc.tail (by omega)
/-- a run of blocks: each leads to the next one's head -/
theorem Ch.append {α : Type} {nx : α → Option α} : ∀ {xs : List α} {y : α} {ys : List α}, xs ≠ [] → (∀ (i : Nat) a b, xs[i]? = some a → xs[i + 1]? = some b → nx a = some b) → (∀ a, xs.getLast? = some a → nx a = some y) → Ch nx (y :: ys) → Ch nx (xs ++ y :: ys)
  | [], _, _, h, _, _, _ => absurd rfl h
  | [a], y, ys, _, _, h2, h3 => ⟨h2 a rfl, h3⟩
  | a :: b :: r, y, ys, _, h1, h2, h3 => ⟨h1 0 a b rfl rfl, Ch.append (xs := b :: r) (by simp) (fun i u v hu hv => h1 (i + 1) u v hu hv) (fun u hu => h2 u (by simpa using hu)) h3⟩
theorem Ch.get {α : Type} {nx : α → Option α} : ∀ {xs : List α}, Ch nx xs → ∀ (i : Nat) a b, xs[i]? = some a → xs[i + 1]? = some b → nx a = some b
  | [], _, i, a, b, h, _ => by simp at h
  | [p], _, i, a, b, _, h => by simp at h
  | p :: q :: r, h, 0, a, b, h1, h2 => by
    cases h1; cases h2
    exact h.1
  | p :: q :: r, h, i + 1, a, b, h1, h2 => Ch.get h.2 i a b h1 h2
theorem Ch.last {α : Type} {nx : α → Option α} : ∀ {xs : List α}, Ch nx xs → ∀ a, xs.getLast? = some a → nx a = none
  | [], _, a, h => by cases h
  | [p], h, a, h1 => by cases h1; exact h
  | p :: q :: r, h, a, h1 => Ch.last h.2 a (by simpa using h1)

theorem upTo_succ (k : Int) (m : Nat) : upTo k (m + 1) = k :: upTo (k + 1) m := by
  unfold upTo
  rw [List.range_succ_eq_map, List.map_cons, List.map_map]
  congr 1
  · omega
  · apply List.map_congr_left
    intro i _
    simp only [Function.comp_apply]
    omega
theorem upTo_add (k : Int) (a b : Nat) : upTo k (a + b) = upTo k a ++ upTo (k + a) b := by
  unfold upTo
  rw [List.range_add, List.map_append, List.map_map]
  congr 1
  apply List.map_congr_left
  intro i _
  simp only [Function.comp_apply]
  omega
theorem np_some {c k : Int} {cs a b : List Int} (h : npart cs a = some b) : npart (c :: cs) (k :: a) = some (k :: b) := by
  show (match npart cs a with
    | some q => some (k :: q)
    | none => if 0 < a.sum ∧ k < c then some ((k + 1) :: fpart cs (a.sum - 1)) else none) = _
  rw [h]
theorem np_none {c k : Int} {cs a : List Int} (h : npart cs a = none) : npart (c :: cs) (k :: a) = if 0 < a.sum ∧ k < c then some ((k + 1) :: fpart cs (a.sum - 1)) else none := by
  show (match npart cs a with
    | some q => some (k :: q)
    | none => if 0 < a.sum ∧ k < c then some ((k + 1) :: fpart cs (a.sum - 1)) else none) = _
  rw [h]
theorem blk {c : Int} {cs : List Int} {n : Int} (hc : Nn (c :: cs)) (ih : ∀ m, 0 ≤ m → m ≤ cs.sum → ∃ r, allp cs m = fpart cs m :: r ∧ Ch (npart cs) (allp cs m)) : ∀ (m : Nat) (k : Int), 0 ≤ k → n - cs.sum ≤ k → k + m = min c n →
    ∃ r, (upTo k (m + 1)).flatMap (fun k => (allp cs (n - k)).map (k :: ·)) = (k :: fpart cs (n - k)) :: r ∧ Ch (npart (c :: cs)) ((upTo k (m + 1)).flatMap fun k => (allp cs (n - k)).map (k :: ·)) := by
  intro m
  induction m with
  | zero =>
    intro k h0 h1 h2
    obtain ⟨r, e, h⟩ := ih (n - k) (by omega) (by omega)
    have e2 : upTo k (0 + 1) = [k] := by simp [upTo]
    rw [e2, List.flatMap_cons, List.flatMap_nil, List.append_nil]
    refine ⟨r.map (k :: ·), by rw [e]; rfl, ?_⟩
    have key : ∀ l : List (List Int), (∀ a ∈ l, a.sum = n - k) → Ch (npart cs) l → Ch (npart (c :: cs)) (l.map (k :: ·)) := by
      intro l
      induction l with
      | nil => intro _ _; trivial
      | cons a l ihl =>
        intro hs hch
        cases l with
        | nil =>
          show npart (c :: cs) (k :: a) = none
          rw [np_none hch, if_neg]
          rw [hs a List.mem_cons_self]
          omega
        | cons b l => exact ⟨np_some hch.1, ihl (fun a ha => hs a (List.mem_cons_of_mem _ ha)) hch.2⟩
    exact key _ (fun a ha => (mem_allp ha).2.1) h
  | succ m ihm =>
    intro k h0 h1 h2
    obtain ⟨r, e, h⟩ := ih (n - k) (by omega) (by omega)
    obtain ⟨r2, e2, h3⟩ := ihm (k + 1) (by omega) (by omega) (by omega)
    rw [upTo_succ k (m + 1), List.flatMap_cons, e2]
    rw [e2] at h3
    refine ⟨r.map (k :: ·) ++ ((k + 1) :: fpart cs (n - (k + 1))) :: r2, by rw [e]; rfl, ?_⟩
    refine Ch.append (by rw [e]; simp) (fun i a b ha hb => ?_) (fun a ha => ?_) h3
    · rw [List.getElem?_map] at ha hb
      cases ea : (allp cs (n - k))[i]? with
      | none => rw [ea] at ha; cases ha
      | some u =>
        cases eb : (allp cs (n - k))[i + 1]? with
        | none => rw [eb] at hb; cases hb
        | some v =>
          rw [ea] at ha; rw [eb] at hb
          cases ha; cases hb
          exact np_some (h.get i u v ea eb)
    · rw [List.getLast?_map] at ha
      cases ea : (allp cs (n - k)).getLast? with
      | none => rw [ea] at ha; cases ha
      | some u =>
        rw [ea] at ha
        cases ha
        have hs := (mem_allp (List.mem_of_getLast? ea)).2.1
        rw [np_none (h.last u ea), hs, if_pos (by omega), show n - k - 1 = n - (k + 1) by omega]
theorem allp_ch : ∀ (cs : List Int) (n : Int), Nn cs → 0 ≤ n → n ≤ cs.sum → ∃ r, allp cs n = fpart cs n :: r ∧ Ch (npart cs) (allp cs n)
  | [], n, _, h0, h1 => by
    have : n = 0 := by simp at h1; omega
    subst this
    exact ⟨[], rfl, rfl⟩
  | c :: cs, n, hc, h0, h1 => by
    have hs := hc.tail.sum
    have hh := hc.head
    simp only [List.sum_cons] at h1
    have lo : n - min n cs.sum = max 0 (n - cs.sum) := by omega
    have h := blk hc (fun m a b => allp_ch cs m hc.tail a b) (n := n) (min c n - (n - min n cs.sum)).toNat (n - min n cs.sum) (by omega) (by omega) (by omega)
    have e : allp (c :: cs) n = (upTo (n - min n cs.sum) ((min c n - (n - min n cs.sum)).toNat + 1)).flatMap fun k => (allp cs (n - k)).map (k :: ·) := by
      show (upTo 0 (min c n + 1).toNat).flatMap _ = _
      rw [show (min c n + 1).toNat = (n - min n cs.sum).toNat + ((min c n - (n - min n cs.sum)).toNat + 1) by omega, upTo_add, List.flatMap_append]
      rw [List.flatMap_eq_nil_iff.2 (fun k hk => by
        rw [mem_upTo] at hk
        rw [List.map_eq_nil_iff]
        exact allp_nil hc.tail (by omega)), List.nil_append, show (0 : Int) + ((n - min n cs.sum).toNat : Int) = n - min n cs.sum by omega]
    rw [e]
    obtain ⟨r, e1, h2⟩ := h
    refine ⟨r, ?_, h2⟩
    rw [e1]
    show _ = ((n - min n cs.sum) :: fpart cs (min n cs.sum)) :: r
    rw [show n - (n - min n cs.sum) = min n cs.sum by omega]

/-! the same list, made row by row -/
def pre : List Int → Int → List (List Int)
  | [], _ => [[]]
  | c :: cs, n => (upTo 0 (min c n + 1).toNat).flatMap fun k => (pre cs (n - k)).map (k :: ·)
def stp (n c : Int) (rows : List (List Int)) : List (List Int) := rows.flatMap fun r => (upTo 0 (min c (n - r.sum) + 1).toNat).map fun k => r ++ [k]
theorem stp_all (n : Int) : ∀ (cs : List Int) (R : List (List Int)), cs.foldl (fun rows c => stp n c rows) R = R.flatMap fun r => (pre cs (n - r.sum)).map (r ++ ·)
  | [], R => by
    simp only [List.foldl_nil, pre, List.map_cons, List.map_nil, List.append_nil]
    induction R with
    | nil => rfl
    | cons r R ih => rw [List.flatMap_cons, ← ih]; rfl
  | c :: cs, R => by
    rw [List.foldl_cons, stp_all n cs]
    unfold stp
    rw [List.flatMap_assoc]
    congr 1
    funext r
    rw [List.flatMap_map]
    show _ = (((upTo 0 (min c (n - r.sum) + 1).toNat).flatMap fun k => (pre cs (n - r.sum - k)).map (k :: ·))).map (r ++ ·)
    rw [List.map_flatMap]
    congr 1
    funext k
    rw [List.map_map]
    simp only [List.sum_append, List.sum_cons, List.sum_nil, Int.add_zero]
    rw [show n - (r.sum + k) = n - r.sum - k by omega]
    apply List.map_congr_left
    intro q _
    simp
theorem pre_allp : ∀ (cs : List Int) (n : Int), (pre cs n).filter (fun p => decide (p.sum = n)) = allp cs n
  | [], n => by
    unfold pre allp
    by_cases h : n = 0
    · subst h; rfl
    · rw [if_neg h]
      have : decide (([] : List Int).sum = n) = false := decide_eq_false fun e => h (by rw [← e]; rfl)
      simp only [List.filter_cons, this, List.filter_nil]
      rfl
  | c :: cs, n => by
    unfold pre allp
    rw [List.filter_flatMap]
    congr 1
    funext k
    rw [List.filter_map, ← pre_allp cs (n - k)]
    congr 1
    apply List.filter_congr
    intro q _
    have e : (k :: q).sum = k + q.sum := List.sum_cons
    show decide ((k :: q).sum = n) = decide (q.sum = n - k)
    by_cases z : q.sum = n - k
    · rw [decide_eq_true z, decide_eq_true (by omega)]
    · rw [decide_eq_false z, decide_eq_false (by omega)]
/-- what the law lists -/
def lparts (cs : List Int) (n : Int) : List (List Int) := (cs.foldl (fun rows c => stp n c rows) [[]]).filter fun p => decide (p.sum = n)
theorem lparts_eq (cs : List Int) (n : Int) : lparts cs n = allp cs n := by
  unfold lparts
  rw [stp_all, ← pre_allp]
  congr 1
  simp
/-- a part of just its own size -/
theorem allp_self : ∀ {p : List Int}, Nn p → allp p p.sum = [p]
  | [], _ => rfl
  | k :: ps, h => by
    have h0 := h.head
    have hs := h.tail.sum
    unfold allp
    simp only [List.sum_cons]
    rw [show (min k (k + ps.sum) + 1).toNat = k.toNat + 1 by omega, upTo_add, List.flatMap_append]
    rw [List.flatMap_eq_nil_iff.2 (fun j hj => by
      rw [mem_upTo] at hj
      rw [List.map_eq_nil_iff]
      exact allp_nil h.tail (by omega)), List.nil_append]
    have e : upTo (0 + (k.toNat : Int)) 1 = [k] := by
      have := upTo_succ (0 + (k.toNat : Int)) 0
      rw [Nat.zero_add] at this
      rw [this]
      simp [upTo]
      omega
    rw [e, List.flatMap_cons, List.flatMap_nil, List.append_nil, show k + ps.sum - k = ps.sum by omega, allp_self h.tail]
    rfl
/-! the first part, made from the last kind on -/
def fr : List Int → Int → List Int × Int
  | [], n => ([], n)
  | c :: cs, n => (min c (fr cs n).2 :: (fr cs n).1, (fr cs n).2 - min c (fr cs n).2)
def fstep (s : List Int × Int) (r : Int) : List Int × Int := (s.1 ++ [min r s.2], s.2 - min r s.2)
theorem fr_rev (n : Int) : ∀ cs : List Int, cs.reverse.foldl fstep ([], n) = ((fr cs n).1.reverse, (fr cs n).2)
  | [] => rfl
  | c :: cs => by
    rw [List.reverse_cons, List.foldl_append, fr_rev n cs]
    simp [fstep, fr]
theorem fr_eq : ∀ (cs : List Int) (n : Int), Nn cs → 0 ≤ n → (fr cs n).2 = n - min n cs.sum ∧ (fr cs n).1 = fpart cs (min n cs.sum)
  | [], n, _, h => by
    refine ⟨?_, rfl⟩
    simp [fr]
    omega
  | c :: cs, n, hc, h => by
    obtain ⟨h1, h2⟩ := fr_eq cs n hc.tail h
    have hs := hc.tail.sum
    have hh := hc.head
    unfold fr fpart
    simp only [List.sum_cons]
    constructor
    · rw [h1]; omega
    · rw [h1, h2]
      congr 1
      · omega
      · congr 1; omega
theorem fr_part (cs : List Int) (n : Int) (hc : Nn cs) (h : 0 ≤ n) (h2 : n ≤ cs.sum) : (fr cs n).1 = fpart cs n := by
  rw [(fr_eq cs n hc h).2, show min n cs.sum = n by omega]
/-! the next part, looked for from the last kind on -/
theorem np_lift : ∀ (i : Nat) (cs ps q : List Int), cs.length = ps.length → npart (cs.drop i) (ps.drop i) = some q → npart cs ps = some (ps.take i ++ q)
  | 0, cs, ps, q, _, h => by simpa using h
  | i + 1, [], [], q, _, h => by simp [npart] at h
  | i + 1, c :: cs, p :: ps, q, hl, h => by
    have := np_lift i cs ps q (by simpa using hl) (by simpa using h)
    rw [np_some this]
    simp
  | i + 1, [], _ :: _, _, hl, _ => by simp at hl
  | i + 1, _ :: _, [], _, hl, _ => by simp at hl
theorem np_at (i : Nat) (cs ps : List Int) (hl : cs.length = ps.length) (hi : i < ps.length) (h : npart (cs.drop (i + 1)) (ps.drop (i + 1)) = none) :
    npart (cs.drop i) (ps.drop i) = if 0 < (ps.drop (i + 1)).sum ∧ ps[i] < cs[i]'(by omega) then some ((ps[i] + 1) :: fpart (cs.drop (i + 1)) ((ps.drop (i + 1)).sum - 1)) else none := by
  rw [List.drop_eq_getElem_cons (show i < cs.length by omega), List.drop_eq_getElem_cons hi, np_none h]
/-- how many parts there can be -/
theorem allp_len (N : Nat) : ∀ (cs : List Int) (n : Int), n ≤ N → (allp cs n).length ≤ (N + 1) ^ (cs.length - 1)
  | [], n, _ => by
    unfold allp
    split <;> simp
  | [c], n, hn => by
    have : ∀ (m : Nat) (lo : Int), ((upTo lo m).flatMap fun k => (allp [] (n - k)).map (k :: ·)).length ≤ 1 ∧ (n < lo → ((upTo lo m).flatMap fun k => (allp [] (n - k)).map (k :: ·)).length = 0) := by
      intro m
      induction m with
      | zero => intro lo; simp [upTo]
      | succ m ih =>
        intro lo
        rw [upTo_succ, List.flatMap_cons, List.length_append, List.length_map]
        obtain ⟨a, b⟩ := ih (lo + 1)
        unfold allp at *
        by_cases z : n - lo = 0
        · rw [if_pos z]
          have := b (by omega)
          simp only [List.length_cons, List.length_nil]
          omega
        · rw [if_neg z]
          simp only [List.length_nil]
          exact ⟨by omega, fun h => by have := b (by omega); omega⟩
    exact (this (min c n + 1).toNat 0).1
  | c :: d :: cs, n, hn => by
    have h : ∀ l : List Int, (∀ k ∈ l, 0 ≤ k) → (l.flatMap fun k => (allp (d :: cs) (n - k)).map (k :: ·)).length ≤ l.length * (N + 1) ^ cs.length := by
      intro l
      induction l with
      | nil => intro _; simp
      | cons k l ih =>
        intro hk
        have h1 := ih fun x hx => hk x (List.mem_cons_of_mem _ hx)
        have h2 := allp_len N (d :: cs) (n - k) (by have := hk k List.mem_cons_self; omega)
        simp only [List.length_cons, Nat.add_sub_cancel] at h2
        rw [List.flatMap_cons, List.length_append, List.length_map, List.length_cons, Nat.succ_mul]
        omega
    have h1 := h (upTo 0 (min c n + 1).toNat) fun k hk => by rw [mem_upTo] at hk; exact hk.1
    have h2 : (upTo 0 (min c n + 1).toNat).length ≤ N + 1 := by simp [upTo]; omega
    show ((upTo 0 (min c n + 1).toNat).flatMap _).length ≤ _
    simp only [List.length_cons, Nat.add_sub_cancel]
    rw [Nat.pow_succ, Nat.mul_comm ((N + 1) ^ cs.length)]
    exact Nat.le_trans h1 (Nat.mul_le_mul_right _ h2)

theorem sums_le : ∀ {p cs : List Int}, p.length = cs.length → (∀ (i : Nat) x y, p[i]? = some x → cs[i]? = some y → x ≤ y) → p.sum ≤ cs.sum
  | [], [], _, _ => by simp
  | x :: p, c :: cs, hl, h => by
    have a := h 0 x c rfl rfl
    have b := sums_le (p := p) (cs := cs) (by simpa using hl) fun i u v hu hv => h (i + 1) u v (by simpa using hu) (by simpa using hv)
    simp only [List.sum_cons]
    omega
  | [], _ :: _, hl, _ => by simp at hl
  | _ :: _, [], hl, _ => by simp at hl
theorem allp_at : ∀ {cs : List Int} {n : Int} {p : List Int}, p ∈ allp cs n → ∀ (i : Nat) x y, p[i]? = some x → cs[i]? = some y → x ≤ y
  | [], n, p, h, i, x, y, hx, hy => by simp at hy
  | c :: cs, n, p, h, i, x, y, hx, hy => by
    unfold allp at h
    rw [List.mem_flatMap] at h
    obtain ⟨k, hk, h⟩ := h
    rw [List.mem_map] at h
    obtain ⟨q, hq, rfl⟩ := h
    rw [mem_upTo] at hk
    cases i with
    | zero => cases hx; cases hy; omega
    | succ i => exact allp_at hq i x y (by simpa using hx) (by simpa using hy)
theorem allp_le {cs : List Int} {n : Int} {p : List Int} (h : p ∈ allp cs n) (i : Nat) : (p.drop i).sum ≤ (cs.drop i).sum := by
  have hl := (mem_allp h).1
  refine sums_le (by simp [hl]) fun j x y hx hy => ?_
  rw [List.getElem?_drop] at hx hy
  exact allp_at h _ x y hx hy
end FCP

set_option Elab.async false
set_option linter.all false
set_option maxRecDepth 100000
namespace FC
open PySem PySem.Spec L2
/-! ### data without names -/
@[simp] theorem okO_non {n} : okO n .non = true := rfl
@[simp] theorem okO_bl {n b} : okO n (.bl b) = true := rfl
@[simp] theorem okO_int {n i} : okO n (.int i) = true := rfl
@[simp] theorem okO_str {n x} : okO n (.str x) = true := rfl
@[simp] theorem okO_cls {n x} : okO n (.cls x) = true := rfl
@[simp] theorem okO_tup {n xs} : okO n (.tup xs) = okOs n xs := rfl
@[simp] theorem okO_lst {n xs} : okO n (.lst xs) = okOs n xs := rfl
@[simp] theorem okO_obj {n k} : okO n (.obj k) = decide (k < n) := rfl
@[simp] theorem okO_ins {n c fs} : okO n (.ins c fs) = okOs n (fs.map Prod.snd) := okOf_eq fs
@[simp] theorem okO_dic {n fs} : okO n (.dic fs) = okOs n (fs.map Prod.snd) := okOk_eq fs
@[simp] theorem okO_dit {n fs} : okO n (.dit fs) = okOs n (fs.map Prod.snd) := okOt_eq fs
@[simp] theorem okOs_nil {n} : okOs n [] = true := rfl
@[simp] theorem okOs_cons {n d r} : okOs n (d :: r) = (okO n d && okOs n r) := rfl
@[simp] theorem okOs_app {n} : ∀ {xs ys : List Dv}, okOs n (xs ++ ys) = (okOs n xs && okOs n ys)
  | [], ys => by simp
  | x :: xs, ys => by simp [okOs_app (xs := xs), Bool.and_assoc]
theorem okOs_iff {n} : ∀ {xs : List Dv}, okOs n xs = true ↔ ∀ d ∈ xs, okO n d = true
  | [] => by simp
  | x :: xs => by simp [okOs_iff (xs := xs)]
theorem okOs_map {α : Type} {n} {enc : α → Dv} (h : ∀ x, okO n (enc x) = true) (xs : List α) : okOs n (xs.map enc) = true := okOs_iff.mpr fun d hd => by
  obtain ⟨x, _, rfl⟩ := List.mem_map.1 hd
  exact h x
@[simp] theorem okOs_ints {n} (xs : List Int) : okOs n (xs.map Dv.int) = true := okOs_map (fun _ => rfl) xs
@[simp] theorem okOs_bls {n} (xs : List Bool) : okOs n (xs.map Dv.bl) = true := okOs_map (fun _ => rfl) xs
/-- lists of tuples of ints -/
abbrev tIs (xss : List (List Int)) : List Dv := xss.map fun xs => tIn xs
@[simp] theorem okOs_tIs {n} (xss : List (List Int)) : okOs n (xss.map fun xs => Dv.tup (xs.map Dv.int)) = true := okOs_map (fun _ => by simp) xss
/-! ### what is left behind -/
theorem zip_fs {κ : Type} {fs : List (κ × Dv)} : (fs.map Prod.fst).zip (fs.map Prod.snd) = fs := by
  induction fs with
  | nil => rfl
  | cons a r ih => simp [ih]
theorem StOk.app {S G : Store} : StOk S (S ++ G) := ⟨by simp, fun i d h q => .inl (by rwa [List.getElem?_append_left h] at q)⟩
theorem StOk.refl {S : Store} : StOk S S := ⟨Nat.le_refl _, fun i d h q => .inl q⟩
theorem take_app (S G : Store) : (S ++ G).take S.length = S := by simp
theorem fzd_ok0 {n f : Nat} {S : Store} {d : Dv} (h : okO n d = true) : fzd n S f d = some d := by
  cases f <;> (unfold fzd; rw [if_pos h])
theorem fzs_id {g : Dv → Option Dv} : ∀ {xs : List Dv}, (∀ d ∈ xs, g d = some d) → fzs g xs = some xs
  | [], _ => rfl
  | x :: xs, h => by
    unfold fzs
    rw [h x List.mem_cons_self, fzs_id fun d hd => h d (List.mem_cons_of_mem _ hd)]
theorem fzs_ok0 {n f : Nat} {S : Store} {xs : List Dv} (h : okOs n xs = true) : fzs (fzd n S f) xs = some xs := fzs_id fun d hd => fzd_ok0 (okOs_iff.mp h d hd)
theorem gcR_ok0 {S G : Store} {d : Dv} (h : okO S.length d = true) : gcR S (some (.ok d (S ++ G))) = some (.ok d S) := by
  unfold gcR
  simp only [if_pos (StOk.app (S := S) (G := G)), fzd_ok0 h, take_app]
theorem gcR_okS {S S' : Store} {d : Dv} (hs : StOk S S') (hl : S'.length = S.length) (h : okO S.length d = true) : gcR S (some (.ok d S')) = some (.ok d S') := by
  unfold gcR
  simp only [if_pos hs, fzd_ok0 h]
  rw [List.take_of_length_le (by omega)]
theorem gcR_exc0 {S G : Store} {c : Str} {fs : List (Str × Dv)} (h : okOs S.length (fs.map Prod.snd) = true) : gcR S (some (.exc c fs (S ++ G))) = some (.exc c fs S) := by
  unfold gcR fzf
  simp only [if_pos (StOk.app (S := S) (G := G)), fzs_ok0 h, take_app]
  rw [zip_fs]
theorem gcR_lst {S G : Store} {xs : List Dv} (h : okOs S.length xs = true) : gcR S (some (.ok (.obj S.length) (S ++ .lst xs :: G))) = some (.ok (.lst xs) S) := by
  unfold gcR
  simp only [if_pos (StOk.app (S := S) (G := .lst xs :: G)), take_app]
  unfold fzd
  rw [if_neg (by simp)]
  simp [fzs_ok0 h]
theorem gcR_ins {S G : Store} {c : Str} {fs : List (Str × Dv)} (h : okOs S.length (fs.map Prod.snd) = true) : gcR S (some (.ok (.obj S.length) (S ++ .ins c fs :: G))) = some (.ok (.ins c fs) S) := by
  unfold gcR
  simp only [if_pos (StOk.app (S := S) (G := .ins c fs :: G)), take_app]
  unfold fzd
  rw [if_neg (by simp)]
  simp [fzs_ok0 h]
  rw [zip_fs]
theorem gcMR_lst {S G : Store} {xs : List Dv} (h : okOs S.length xs = true) : gcMR S (some (.ok (.obj S.length) (S ++ .lst xs :: G))) = some (.ok (.obj S.length) (S ++ [.lst xs])) := by
  unfold gcMR
  simp only [if_pos (And.intro (StOk.app (S := S) (G := .lst xs :: G)) (Nat.le_refl S.length)), take_app]
  simp [fzo, fzs_ok0 h]

/-! ### defs -/
section
variable {n : Nat} {fs : FS} {ds : List Dv} {S G : Store} {d : Dv}
theorem gcD_of (h : bodyF n fs ds S = some (.ok d (S ++ G))) (hd : okO S.length d = true) : gcD (bodyF n fs) ds S = some (.ok d S) := by
  show gcR S (bodyF n fs ds S) = _
  rw [h]
  exact gcR_ok0 hd
theorem gcD_pure (h : bodyF n fs ds S = some (.ok d S)) (hd : okO S.length d = true) : gcD (bodyF n fs) ds S = some (.ok d S) := gcD_of (G := []) (by rw [h, List.append_nil]) hd
theorem gcD_exc {c : Str} {fl : List (Str × Dv)} (h : bodyF n fs ds S = some (.exc c fl S)) (hd : okOs S.length (fl.map Prod.snd) = true) : gcD (bodyF n fs) ds S = some (.exc c fl S) := by
  show gcR S (bodyF n fs ds S) = _
  rw [h]
  exact (by have := gcR_exc0 (S := S) (G := []) (c := c) hd; rwa [List.append_nil] at this)
theorem gcD_list {xs : List Dv} (h : bodyF n fs ds S = some (.ok (.obj S.length) (S ++ .lst xs :: G))) (hd : okOs S.length xs = true) : gcD (bodyF n fs) ds S = some (.ok (.lst xs) S) := by
  show gcR S (bodyF n fs ds S) = _
  rw [h]
  exact gcR_lst hd
theorem gcM_list {xs : List Dv} (h : bodyF n fs ds S = some (.ok (.obj S.length) (S ++ .lst xs :: G))) (hd : okOs S.length xs = true) : gcM (bodyF n fs) ds S = some (.ok (.obj S.length) (S ++ [.lst xs])) := by
  show gcMR S (bodyF n fs ds S) = _
  rw [h]
  exact gcMR_lst hd
end
/-! ### loops -/
section
variable {b : Bd} {fb : FS}
theorem forM_fold {α σ : Type} (enc : α → Dv) (E : σ → DEnv) (St : σ → Store) (step : σ → α → σ) (I : Nat → σ → Prop) : ∀ (xs : List α) (i : Nat) (s : σ), I i s →
    (∀ (j : Nat) (x : α) (s : σ), xs[j]? = some x → I (i + j) s → ∃ env1, b (enc x) (E s) = some env1 ∧ fb env1 (St s) = some (.nx (E (step s x)) (St (step s x))) ∧ I (i + j + 1) (step s x)) →
    forM' b fb (xs.map enc) (E s) (St s) = some (.nx (E (xs.foldl step s)) (St (xs.foldl step s))) ∧ I (i + xs.length) (xs.foldl step s)
  | [], i, s, hI, _ => ⟨by simp [forM'], by simpa using hI⟩
  | x :: xs, i, s, hI, h => by
    obtain ⟨env1, h1, h2, h3⟩ := h 0 x s rfl (by simpa using hI)
    obtain ⟨e1, e2⟩ := forM_fold enc E St step I xs (i + 1) (step s x) (by simpa using h3) fun j y s hj hI => by
      have := h (j + 1) y s (by simpa using hj) (by rw [show i + (j + 1) = i + 1 + j by omega]; exact hI)
      rw [show i + (j + 1) = i + 1 + j by omega] at this
      exact this
    refine ⟨?_, by rw [List.length_cons, show i + (xs.length + 1) = i + 1 + xs.length by omega]; exact e2⟩
    show forM' b fb (enc x :: xs.map enc) (E s) (St s) = _
    unfold forM'
    simp only [h1, h2, e1, List.foldl_cons]
theorem forM_const {α : Type} (enc : α → Dv) (env : DEnv) (S : Store) (xs : List α) (h : ∀ x ∈ xs, ∃ env1, b (enc x) env = some env1 ∧ fb env1 S = some (.nx env S)) : forM' b fb (xs.map enc) env S = some (.nx env S) :=
  (forM_fold (b := b) (fb := fb) enc (fun _ : Unit => env) (fun _ => S) (fun s _ => s) (fun _ _ => True) xs 0 () True.intro fun j x s hj _ => by
    obtain ⟨env1, h1, h2⟩ := h x (List.mem_of_getElem? hj)
    exact ⟨env1, h1, h2, True.intro⟩).1
/-- does it leave the loop? -/
def isOut : Rf → Prop
  | .rt _ _ => True
  | .exc _ _ _ _ => True
  | _ => False
theorem forM_find {α : Type} (enc : α → Dv) (env : DEnv) (S : Store) (p : α → Bool) (g : α → Rf) : ∀ (xs : List α), (∀ x, isOut (g x)) → (∀ x ∈ xs, ∃ env1, b (enc x) env = some env1 ∧ fb env1 S = some (if p x = true then g x else .nx env S)) →
    forM' b fb (xs.map enc) env S = some (match xs.find? p with | some x => g x | none => .nx env S)
  | [], _, _ => rfl
  | x :: xs, hg, h => by
    obtain ⟨env1, h1, h2⟩ := h x List.mem_cons_self
    show forM' b fb (enc x :: xs.map enc) env S = _
    unfold forM'
    simp only [h1, h2]
    by_cases hp : p x = true
    · rw [if_pos hp, List.find?_cons_of_pos hp]
      have := hg x
      cases hgx : g x with
      | rt _ _ => simp only [hgx]
      | exc _ _ _ _ => simp only [hgx]
      | nx _ _ => rw [hgx] at this; exact this.elim
      | bk _ _ => rw [hgx] at this; exact this.elim
      | ct _ _ => rw [hgx] at this; exact this.elim
    · rw [if_neg hp, List.find?_cons_of_neg hp]
      exact forM_find enc env S p g xs hg fun z hz => h z (List.mem_cons_of_mem _ hz)
end
/-- a comprehension whose parts change nothing, no test -/
theorem compM_map' {α : Type} {b : Bd} {fe : FE} {env0 : DEnv} {S : Store} {enc : α → Dv} {xs : List α} (g : α → Dv) (hl : xs.length ≤ 1000000) (h : ∀ x ∈ xs, ∃ env1, b (enc x) env0 = some env1 ∧ fe env1 S = some (.ok (g x) S)) : compM b fYes fe env0 (xs.map enc) [] S = some (.ok (xs.map g) S) := compM_map enc g xs hl h
theorem compM_filter {α : Type} {b : Bd} {ft : FT} {fe : FE} {env0 : DEnv} {S : Store} {enc : α → Dv} {xs : List α} (p : α → Bool) (g : α → Dv) (hl : xs.length ≤ 1000000) (h : ∀ x ∈ xs, ∃ env1, b (enc x) env0 = some env1 ∧ ft env1 S = some (.ok (p x) S) ∧ (p x = true → fe env1 S = some (.ok (g x) S))) : compM b ft fe env0 (xs.map enc) [] S = some (.ok ((xs.filter p).map g) S) := by
  have := compM_pure (b := b) (ft := ft) (fe := fe) (env0 := env0) (S := S) enc p g xs [] (by simpa using hl) h
  simpa using this
@[simp] theorem clS_nx {ks env S} : clS ks (some (.nx env S)) = some (.nx (fgt ks env) S) := rfl
@[simp] theorem clS_rt {ks d S} : clS ks (some (.rt d S)) = some (.rt d S) := rfl
@[simp] theorem clS_exc {ks c fs env S} : clS ks (some (.exc c fs env S)) = some (.exc c fs env S) := rfl
@[simp] theorem fgt_nil {env} : fgt [] env = env := rfl
@[simp] theorem fgt_cons {k r env} : fgt (k :: r) env = (fgt r env).set k none := rfl
theorem gcS_nx {ks : List Nat} {S G : Store} {env env' : DEnv} (h : fzE S.length (S ++ G) (fgt ks env) = some env') : gcS ks S (some (.nx env (S ++ G))) = some (.nx env' S) := by
  unfold gcS
  simp only [if_pos (StOk.app (S := S) (G := G)), h, take_app]
theorem fzE_cons {n : Nat} {S : Store} {d d' : Dv} {r r' : DEnv} (h1 : fzd n S 6 d = some d') (h2 : fzE n S r = some r') : fzE n S (some d :: r) = some (some d' :: r') := by
  unfold fzE
  rw [h1, h2]
theorem fzE_none {n : Nat} {S : Store} {r r' : DEnv} (h2 : fzE n S r = some r') : fzE n S (none :: r) = some (none :: r') := by
  unfold fzE
  rw [h2]
theorem fzE_nil {n : Nat} {S : Store} : fzE n S [] = some [] := rfl
section
variable {α : Type}
@[simp] theorem asBls_comp (f : α → Bool) (xs : List α) : asBls (xs.map (Dv.bl ∘ f)) = some (xs.map f) := by rw [← List.map_map]; exact asBls_map _
@[simp] theorem asBls_fun (f : α → Bool) (xs : List α) : asBls (xs.map fun x => Dv.bl (f x)) = some (xs.map f) := asBls_comp f xs
@[simp] theorem asInts_comp (f : α → Int) (xs : List α) : asInts (xs.map (Dv.int ∘ f)) = some (xs.map f) := by rw [← List.map_map]; exact asInts_map _
@[simp] theorem asInts_fun (f : α → Int) (xs : List α) : asInts (xs.map fun x => Dv.int (f x)) = some (xs.map f) := asInts_comp f xs
end
@[simp] theorem insOf_ins {c fs S} : insOf (.ins c fs) S = some (c, fs) := rfl
@[simp] theorem insOf_obj {n S} : insOf (.obj n) S = match S[n]? with
    | some (.ins c fs) => some (c, fs)
    | _ => none := rfl
@[simp] theorem beq_str (a b : Str) : (a == b) = decide (a = b) := by
  cases h : a == b with
  | true => simp at h; simp [h]
  | false => simp at h; simp [h]
@[simp] theorem lk_cons {β : Type} {k a : Str} {b : β} {es : List (Str × β)} : List.lookup k ((a, b) :: es) = if k = a then some b else List.lookup k es := by
  rw [List.lookup_cons]
  by_cases h : k = a
  · simp [h]
  · simp [h]
end FC
namespace FC
open PySem PySem.Spec L2
/-! ### comprehensions with two clauses -/
section
variable {α β : Type} {b b1 : Bd} {fi1 : FI} {vs1 : List Nat} {fe : FE} {env0 : DEnv} {S : Store} (enc : α → Dv) (enc2 : β → Dv) (ys : α → List β) (g : α → β → Dv)
theorem compM2_flat : ∀ (xs : List α) (acc : List Dv), acc.length + (xs.flatMap ys).length ≤ 1000000 →
    (∀ x ∈ xs, ∃ env1, b (enc x) env0 = some env1 ∧ fi1 env1 S = some (.ok ((ys x).map enc2) S) ∧ ∀ y ∈ ys x, ∃ env2, b1 (enc2 y) (wipeD env1 vs1) = some env2 ∧ fe env2 S = some (.ok (g x y) S)) →
    compM2 b fYes fi1 vs1 b1 fYes fe env0 (xs.map enc) acc S = some (.ok (acc ++ xs.flatMap fun x => (ys x).map (g x)) S)
  | [], acc, _, _ => by simp [compM2]
  | x :: xs, acc, hl, h => by
    obtain ⟨env1, h1, h2, h3⟩ := h x List.mem_cons_self
    simp only [List.flatMap_cons, List.length_append] at hl
    have c1 := compM_pure (b := b1) (ft := fYes) (fe := fe) (env0 := wipeD env1 vs1) (S := S) enc2 (fun _ => true) (g x) (ys x) acc (by simp; omega) fun y hy => by
      obtain ⟨env2, e1, e2⟩ := h3 y hy
      exact ⟨env2, e1, rfl, fun _ => e2⟩
    rw [List.filter_eq_self.mpr (by simp)] at c1
    have ih := compM2_flat xs (acc ++ (ys x).map (g x)) (by rw [List.length_append, List.length_map]; omega) fun y hy => h y (List.mem_cons_of_mem _ hy)
    show compM2 b fYes fi1 vs1 b1 fYes fe env0 (enc x :: xs.map enc) acc S = _
    unfold compM2
    simp only [h1, fYes, FC.ret, h2]
    rw [c1]
    simp only
    rw [ih]
    simp
theorem compM2O_flat {n0 : Nat} {all : List Dv} (hS : S[n0]? = some (.lst all)) : ∀ (xs : List α) (acc : List Dv), acc.length + (xs.flatMap ys).length ≤ 1000000 →
    (∀ x ∈ xs, ∃ env1, b (enc x) env0 = some env1 ∧ fi1 env1 S = some (.ok ((ys x).map enc2) S) ∧ ∀ y ∈ ys x, ∃ env2, b1 (enc2 y) (wipeD env1 vs1) = some env2 ∧ fe env2 S = some (.ok (g x y) S)) →
    compM2O n0 all b fYes fi1 vs1 b1 fYes fe env0 (xs.map enc) acc S = some (.ok (acc ++ xs.flatMap fun x => (ys x).map (g x)) S)
  | [], acc, _, _ => by
    show compM2O n0 all b fYes fi1 vs1 b1 fYes fe env0 [] acc S = _
    unfold compM2O stands
    rw [if_pos hS]
    simp
  | x :: xs, acc, hl, h => by
    obtain ⟨env1, h1, h2, h3⟩ := h x List.mem_cons_self
    simp only [List.flatMap_cons, List.length_append] at hl
    have c1 := compM_pure (b := b1) (ft := fYes) (fe := fe) (env0 := wipeD env1 vs1) (S := S) enc2 (fun _ => true) (g x) (ys x) acc (by simp; omega) fun y hy => by
      obtain ⟨env2, e1, e2⟩ := h3 y hy
      exact ⟨env2, e1, rfl, fun _ => e2⟩
    rw [List.filter_eq_self.mpr (by simp)] at c1
    have ih := compM2O_flat hS xs (acc ++ (ys x).map (g x)) (by rw [List.length_append, List.length_map]; omega) fun y hy => h y (List.mem_cons_of_mem _ hy)
    show compM2O n0 all b fYes fi1 vs1 b1 fYes fe env0 (enc x :: xs.map enc) acc S = _
    unfold compM2O stands
    rw [if_pos hS]
    simp only [h1, fYes, FC.ret, h2]
    rw [c1]
    simp only
    rw [ih]
    simp
end
theorem gcM_obj {n : Nat} {fs : FS} {ds : List Dv} {S G : Store} {k : Nat} {xs : List Dv} (h : bodyF n fs ds S = some (.ok (.obj (S.length + k)) (S ++ G))) (hk : G[k]? = some (.lst xs)) (hd : okOs S.length xs = true) : gcM (bodyF n fs) ds S = some (.ok (.obj S.length) (S ++ [.lst xs])) := by
  show gcMR S (bodyF n fs ds S) = _
  rw [h]
  unfold gcMR
  simp only [if_pos (And.intro (StOk.app (S := S) (G := G)) (Nat.le_add_right S.length k)), take_app]
  have e : (S ++ G)[S.length + k]? = some (.lst xs) := by rw [List.getElem?_append_right (by omega), Nat.add_sub_cancel_left]; exact hk
  rw [e]
  simp [fzo, fzs_ok0 hd]
end FC
namespace FC
open PySem PySem.Spec L2
theorem fzs_nil {g : Dv → Option Dv} : fzs g [] = some [] := rfl
theorem fzs_cons {g : Dv → Option Dv} {d d' : Dv} {r r' : List Dv} (h1 : g d = some d') (h2 : fzs g r = some r') : fzs g (d :: r) = some (d' :: r') := by
  unfold fzs
  rw [h1, h2]
theorem fzd_tup {n f : Nat} {S : Store} {xs ys : List Dv} (h : fzs (fzd n S f) xs = some ys) (hn : okOs n xs = false) : fzd n S (f + 1) (.tup xs) = some (.tup ys) := by
  unfold fzd
  rw [if_neg (by rw [okO_tup, hn]; decide)]
  simp only [h]
theorem fzd_lst {n f : Nat} {S : Store} {xs ys : List Dv} (h : fzs (fzd n S f) xs = some ys) (hn : okOs n xs = false) : fzd n S (f + 1) (.lst xs) = some (.lst ys) := by
  unfold fzd
  rw [if_neg (by rw [okO_lst, hn]; decide)]
  simp only [h]
theorem fzd_obj {n f k : Nat} {S : Store} {xs ys : List Dv} (hk : n ≤ k) (hS : S[k]? = some (.lst xs)) (h : fzs (fzd n S f) xs = some ys) : fzd n S (f + 1) (.obj k) = some (.lst ys) := by
  unfold fzd
  rw [if_neg (by rw [okO_obj, decide_eq_true_eq]; omega)]
  simp only [hS, h]
theorem gcD_fz {n : Nat} {fs : FS} {ds : List Dv} {S G : Store} {d d' : Dv} (h : bodyF n fs ds S = some (.ok d (S ++ G))) (hf : fzd S.length (S ++ G) 6 d = some d') : gcD (bodyF n fs) ds S = some (.ok d' S) := by
  show gcR S (bodyF n fs ds S) = _
  rw [h]
  unfold gcR
  simp only [if_pos (StOk.app (S := S) (G := G)), hf, take_app]
end FC

set_option Elab.async false
set_option linter.all false
set_option maxRecDepth 100000
set_option maxHeartbeats 4000000
namespace FC
open PySem PySem.Spec L2
/-! ### == of data -/
theorem toPys_ints : ∀ xs : List Int, toPys (xs.map Dv.int) = some (xs.map PyData.int)
  | [] => rfl
  | x :: xs => by
    rw [List.map_cons]
    unfold toPys
    rw [toPys_ints xs]
    rfl
theorem canAll_ints : ∀ xs : List Int, PyData.canLayAll0 (xs.map PyData.int) = true
  | [] => rfl
  | x :: xs => by
    rw [List.map_cons]
    unfold PyData.canLayAll0
    rw [canAll_ints xs]
    rfl
theorem depthAll_ints : ∀ xs : List Int, PyData.depthAll (xs.map PyData.int) = 0
  | [] => rfl
  | x :: xs => by
    rw [List.map_cons, PyData.depthAll, depthAll_ints xs]
    rfl
theorem eqvAll_ints : ∀ xs ys : List Int, PyData.eqvAll (xs.map PyData.int) (ys.map PyData.int) = decide (xs = ys)
  | [], [] => by simp [PyData.eqvAll]
  | [], _ :: _ => by simp [PyData.eqvAll]
  | _ :: _, [] => by simp [PyData.eqvAll]
  | x :: xs, y :: ys => by
    rw [List.map_cons, List.map_cons, PyData.eqvAll, eqvAll_ints xs ys]
    simp [PyData.eqv]
    by_cases h : x = y <;> simp [h]
theorem shaped_ints (xs : List Int) : SeqAt.shaped (.tuple (xs.map PyData.int)) = true ∧ SeqAt.shaped (.list (xs.map PyData.int)) = true := by
  unfold SeqAt.shaped
  simp [PyData.canLay0, canAll_ints, PyData.depth, depthAll_ints]
theorem eqD_tIn (xs ys : List Int) : eqD (.tup (xs.map Dv.int)) (.tup (ys.map Dv.int)) = some (decide (xs = ys)) := by
  unfold eqD eqS toPy
  simp [toPys_ints, (shaped_ints xs).1, (shaped_ints ys).1, PyData.eqv, eqvAll_ints]
theorem eqD_lIn (xs ys : List Int) : eqD (.lst (xs.map Dv.int)) (.lst (ys.map Dv.int)) = some (decide (xs = ys)) := by
  unfold eqD eqS toPy
  simp [toPys_ints, (shaped_ints xs).2, (shaped_ints ys).2, PyData.eqv, eqvAll_ints]
section
variable {S : Store}
@[simp] theorem oEq_tIn (xs ys : List Int) : oEq (.tup (xs.map Dv.int)) (.tup (ys.map Dv.int)) S = some (.ok (.bl (decide (xs = ys))) S) := by
  unfold oEq; rw [eqD_tIn]; rfl
@[simp] theorem oNe_tIn (xs ys : List Int) : oNe (.tup (xs.map Dv.int)) (.tup (ys.map Dv.int)) S = some (.ok (.bl (!decide (xs = ys))) S) := by
  unfold oNe; rw [eqD_tIn]; rfl
@[simp] theorem oEq_lIn (xs ys : List Int) : oEq (.lst (xs.map Dv.int)) (.lst (ys.map Dv.int)) S = some (.ok (.bl (decide (xs = ys))) S) := by
  unfold oEq; rw [eqD_lIn]; rfl
@[simp] theorem oNe_lIn (xs ys : List Int) : oNe (.lst (xs.map Dv.int)) (.lst (ys.map Dv.int)) S = some (.ok (.bl (!decide (xs = ys))) S) := by
  unfold oNe; rw [eqD_lIn]; rfl
@[simp] theorem oEq_b {i j : Bool} : oEq (.bl i) (.bl j) S = some (.ok (.bl (decide (i = j))) S) := rfl
@[simp] theorem oNe_b {i j : Bool} : oNe (.bl i) (.bl j) S = some (.ok (.bl (!decide (i = j))) S) := rfl
@[simp] theorem oEq_s {i j : Str} : oEq (.str i) (.str j) S = some (.ok (.bl (decide (i = j))) S) := rfl
@[simp] theorem oNe_s {i j : Str} : oNe (.str i) (.str j) S = some (.ok (.bl (!decide (i = j))) S) := rfl
end
end FC
namespace FC
open PySem PySem.Spec L2
/-- a walk whose steps are known only to keep something -/
theorem forM_ex {b : Bd} {fb : FS} {α σ : Type} (enc : α → Dv) (E : σ → DEnv) (St : σ → Store) (I : Nat → σ → Prop) : ∀ (xs : List α) (i : Nat) (s : σ), I i s →
    (∀ (j : Nat) (x : α) (s : σ), x ∈ xs → i ≤ j → j < i + xs.length → I j s → ∃ env1 s', b (enc x) (E s) = some env1 ∧ fb env1 (St s) = some (.nx (E s') (St s')) ∧ I (j + 1) s') →
    ∃ s', forM' b fb (xs.map enc) (E s) (St s) = some (.nx (E s') (St s')) ∧ I (i + xs.length) s'
  | [], i, s, hI, _ => ⟨s, by simp [forM'], by simpa using hI⟩
  | x :: xs, i, s, hI, h => by
    obtain ⟨env1, s1, h1, h2, h3⟩ := h i x s List.mem_cons_self (Nat.le_refl _) (by simp) hI
    obtain ⟨s', e1, e2⟩ := forM_ex (b := b) (fb := fb) enc E St I xs (i + 1) s1 h3 fun j y s hy hj1 hj2 hI => h j y s (List.mem_cons_of_mem _ hy) (by omega) (by simp; omega) hI
    refine ⟨s', ?_, by rw [List.length_cons, show i + (xs.length + 1) = i + 1 + xs.length by omega]; exact e2⟩
    show forM' b fb (enc x :: xs.map enc) (E s) (St s) = _
    unfold forM'
    simp only [h1, h2, e1]
/-- .. and a comprehension -/
theorem compM_ex {b : Bd} {fe : FE} {env0 : DEnv} {α σ : Type} (enc : α → Dv) (St : σ → Store) (I : Nat → σ → List Dv → Prop) : ∀ (xs : List α) (i : Nat) (s : σ) (acc : List Dv), I i s acc → acc.length + xs.length ≤ 1000000 →
    (∀ (j : Nat) (x : α) (s : σ) (acc : List Dv), xs[j]? = some x → I (i + j) s acc → ∃ env1 s' d, b (enc x) env0 = some env1 ∧ fe env1 (St s) = some (.ok d (St s')) ∧ I (i + j + 1) s' (acc ++ [d])) →
    ∃ s' ys, compM b fYes fe env0 (xs.map enc) acc (St s) = some (.ok ys (St s')) ∧ I (i + xs.length) s' ys
  | [], i, s, acc, hI, _, _ => ⟨s, acc, by simp [compM], by simpa using hI⟩
  | x :: xs, i, s, acc, hI, hl, h => by
    obtain ⟨env1, s1, d, h1, h2, h3⟩ := h 0 x s acc rfl (by simpa using hI)
    simp only [List.length_cons] at hl
    obtain ⟨s', ys, e1, e2⟩ := compM_ex (b := b) (fe := fe) (env0 := env0) enc St I xs (i + 1) s1 (acc ++ [d]) (by simpa using h3) (by simp; omega) fun j y s acc hj hI => by
      have := h (j + 1) y s acc (by simpa using hj) (by rw [show i + (j + 1) = i + 1 + j by omega]; exact hI)
      rw [show i + (j + 1) = i + 1 + j by omega] at this
      exact this
    refine ⟨s', ys, ?_, by rw [List.length_cons, show i + (xs.length + 1) = i + 1 + xs.length by omega]; exact e2⟩
    show compM b fYes fe env0 (enc x :: xs.map enc) acc (St s) = _
    unfold compM
    simp only [h1, fYes, FC.ret, h2]
    rw [if_pos (show acc.length ≤ big by have : big = 1000000 := rfl; omega)]
    exact e1
end FC

set_option Elab.async false
set_option linter.all false
set_option maxRecDepth 100000
set_option maxHeartbeats 4000000
namespace FC
open PySem PySem.Spec L2
/-! ### what a run comes to: rules from the front -/
/-- what is not looked into -/
structure Dum {α : Sort u} (Q : α) : Type where
  mk ::
def We {α : Type} (r : Option (Rs α)) (Q : Rs α → Prop) (_u : Dum Q := Dum.mk) : Prop := ∃ x, r = some x ∧ Q x
def Ws (r : Option Rf) (Q : Rf → Prop) (_u : Dum Q := Dum.mk) : Prop := ∃ x, r = some x ∧ Q x
def Wb (r : Option DEnv) (Q : DEnv → Prop) (_u : Dum Q := Dum.mk) : Prop := ∃ x, r = some x ∧ Q x
def Br (c : Bool) (A B : Prop) (_u : Dum A := Dum.mk) (_v : Dum B := Dum.mk) : Prop := (c = true → A) ∧ (c = false → B)
def Hd {α : Type} (P : α → Prop) (x : α) (_u : Dum P := Dum.mk) : Prop := P x
theorem Hd_i {α : Type} {P : α → Prop} {x : α} (h : P x) : Hd P x := h
def Hi (I : Nat → DEnv → Store → Prop) (i : Nat) (e : DEnv) (s : Store) (_u : Dum I := Dum.mk) : Prop := I i e s
theorem Hi_i {I : Nat → DEnv → Store → Prop} {i : Nat} {e : DEnv} {s : Store} (h : I i e s) : Hi I i e s := h
theorem We_cong {α : Type} {r : Option (Rs α)} {Q Q' : Rs α → Prop} (h : ∀ x, Q x = Q' x) : We r Q = We r Q' := by
  have : Q = Q' := funext h
  subst this
  rfl
@[simp] theorem We_some {α : Type} {x : Rs α} {Q : Rs α → Prop} : We (some x) Q = Q x := by simp [We]
@[simp] theorem Ws_some {x : Rf} {Q : Rf → Prop} : Ws (some x) Q = Q x := by simp [Ws]
@[simp] theorem Wb_some {x : DEnv} {Q : DEnv → Prop} : Wb (some x) Q = Q x := by simp [Wb]
@[simp] theorem Br_true {A B : Prop} : Br true A B = A := by simp [Br]
@[simp] theorem Br_false {A B : Prop} : Br false A B = B := by simp [Br]
@[simp] theorem Br_not {c : Bool} {A B : Prop} : Br (!c) A B = Br c B A := by cases c <;> simp
theorem Br_of {c : Bool} {A B : Prop} (h1 : c = true → A) (h2 : c = false → B) : Br c A B := ⟨h1, h2⟩
theorem Br_dec {p : Prop} [Decidable p] {A B : Prop} (h1 : p → A) (h2 : ¬ p → B) : Br (decide p) A B := ⟨fun h => h1 (of_decide_eq_true h), fun h => h2 (of_decide_eq_false h)⟩
theorem Br_mid {c : Bool} {r1 r2 : Option Rf} {P : Rf → Prop} (R : Rf → Prop) (h1 : c = true → Ws r1 (Hd R)) (h2 : c = false → Ws r2 (Hd R)) (k : ∀ x, R x → P x) : Br c (Ws r1 P) (Ws r2 P) := by
  refine ⟨fun h => ?_, fun h => ?_⟩
  · obtain ⟨x, e, q⟩ := h1 h
    exact ⟨x, e, k x q⟩
  · obtain ⟨x, e, q⟩ := h2 h
    exact ⟨x, e, k x q⟩
theorem Br_midE {α : Type} {c : Bool} {r1 r2 : Option (Rs α)} {P : Rs α → Prop} (R : Rs α → Prop) (h1 : c = true → We r1 (Hd R)) (h2 : c = false → We r2 (Hd R)) (k : ∀ x, R x → P x) : Br c (We r1 P) (We r2 P) := by
  refine ⟨fun h => ?_, fun h => ?_⟩
  · obtain ⟨x, e, q⟩ := h1 h
    exact ⟨x, e, k x q⟩
  · obtain ⟨x, e, q⟩ := h2 h
    exact ⟨x, e, k x q⟩
theorem We_ok {α : Type} {r : Option (Rs α)} {d : α} {S : Store} {Q : Rs α → Prop} (h : r = some (.ok d S)) (k : Q (.ok d S)) : We r Q := ⟨_, h, k⟩
theorem We_of {α : Type} {r : Option (Rs α)} {x : Rs α} {Q : Rs α → Prop} (h : r = some x) (k : Q x) : We r Q := ⟨_, h, k⟩
theorem We_eq {α : Type} {r : Option (Rs α)} {x : Rs α} (h : We r (fun y => y = x)) : r = some x := by obtain ⟨y, h1, rfl⟩ := h; exact h1
theorem We_imp {α : Type} {r : Option (Rs α)} {P Q : Rs α → Prop} (h : We r P) (k : ∀ x, P x → Q x) : We r Q := by obtain ⟨y, h1, h2⟩ := h; exact ⟨y, h1, k y h2⟩
theorem Ws_imp {r : Option Rf} {P Q : Rf → Prop} (h : Ws r P) (k : ∀ x, P x → Q x) : Ws r Q := by obtain ⟨y, h1, h2⟩ := h; exact ⟨y, h1, k y h2⟩
theorem Ws_of {r : Option Rf} {x : Rf} {Q : Rf → Prop} (h : r = some x) (k : Q x) : Ws r Q := ⟨_, h, k⟩
theorem Ws_eq {r : Option Rf} {x : Rf} (h : Ws r (fun y => y = x)) : r = some x := by obtain ⟨y, h1, rfl⟩ := h; exact h1
/-! ### what follows -/
section
variable {α β : Type}
def bnK (k : α → Mm β) (Q : Rs β → Prop) : Rs α → Prop
  | .ok a S => We (k a S) Q
  | .exc c fs S => Q (.exc c fs S)
def sbK (k : α → FS) (env : DEnv) (Q : Rf → Prop) : Rs α → Prop
  | .ok a S => Ws (k a env S) Q
  | .exc c fs S => Q (.exc c fs env S)
def ifK (m1 m2 : Mm β) (Q : Rs β → Prop) : Rs Bool → Prop
  | .ok c S => Br c (We (m1 S) Q) (We (m2 S) Q)
  | .exc c fs S => Q (.exc c fs S)
def ivK (m1 m2 : Mm Dv) (Q : Rs Dv → Prop) : Rs Dv → Prop
  | .ok d S => We (ofO (asB d) S) (ifK m1 m2 Q)
  | .exc c fs S => Q (.exc c fs S)
def sqK (g : FS) (Q : Rf → Prop) : Rf → Prop
  | .nx e s => Ws (g e s) Q
  | x => Q x
def sifK (f g : FS) (env : DEnv) (Q : Rf → Prop) : Rs Bool → Prop
  | .ok c S => Br c (Ws (f env S) Q) (Ws (g env S) Q)
  | .exc c fs S => Q (.exc c fs env S)
def asK (b : Bd) (env : DEnv) (Q : Rf → Prop) : Rs Dv → Prop
  | .ok d S => Wb (b d env) (fun e => Q (.nx e S))
  | .exc c fs S => Q (.exc c fs env S)
def rtK (env : DEnv) (Q : Rf → Prop) : Rs Dv → Prop
  | .ok d S => Q (.rt d S)
  | .exc c fs S => Q (.exc c fs env S)
def xpK (env : DEnv) (Q : Rf → Prop) : Rs Dv → Prop
  | .ok _ S => Q (.nx env S)
  | .exc c fs S => Q (.exc c fs env S)
def lpK (b : Bd) (fb : FS) (r : List Dv) (Q : Rf → Prop) : Rf → Prop
  | .nx e s => Ws (forM' b fb r e s) Q
  | .ct e s => Ws (forM' b fb r e s) Q
  | .bk e s => Q (.nx e s)
  | x => Q x
def clK (ks : List Nat) (Q : Rf → Prop) : Rf → Prop
  | .nx e s => Q (.nx (fgt ks e) s)
  | .bk e s => Q (.bk (fgt ks e) s)
  | .ct e s => Q (.ct (fgt ks e) s)
  | x => Q x
def gsK (ks : List Nat) (S : Store) (Q : Rf → Prop) (x : Rf) : Prop := Ws (gcS ks S (some x)) Q
def erK (i : Nat) (Q : Rf → Prop) : Rf → Prop
  | .nx e s => Q (.nx (e.set i none) s)
  | .rt d s => Q (.rt d s)
  | .bk e s => Q (.bk (e.set i none) s)
  | .ct e s => Q (.ct (e.set i none) s)
  | .exc _ _ _ _ => False
def tyK (cn : Str → Option Bool) (i : Nat) (fsu : Str → List (Str × Dv) → FS) (Q : Rf → Prop) : Rf → Prop
  | .exc c flds e s => match cn c with
    | some true => i < e.length ∧ Ws (fsu c flds (e.set i none) s) (erK i Q)
    | some false => Q (.exc c flds e s)
    | none => False
  | x => Q x
def mtK (x f : Str) (n : Nat) (F : DFn) (la : FA) (env : DEnv) (Q : Rs Dv → Prop) : Rs Dv → Prop
  | .ok o S => match insOf o S with
    | some (c', fs) => (c' = x ∧ fs.lookup f = none) ∧ We (la env S) (bnK (fun ds => if ds.length = n then F (o :: ds) else stuck) Q)
    | none => False
  | .exc c fs S => Q (.exc c fs S)
def mrK (kk : List Dv → List Dv → Mm Dv) (la : FA) (env : DEnv) (Q : Rs Dv → Prop) : Rs Dv → Prop
  | .ok o S => isLst o S = true ∧ We (la env S) (bnK (fun ds S => match listOf o S with
    | some xs => kk xs ds S
    | none => none) Q)
  | .exc c fs S => Q (.exc c fs S)
def m1K (kk : Nat → List Dv → Mm Dv) (la : FA) (env : DEnv) (Q : Rs Dv → Prop) : Rs Dv → Prop
  | .ok o S => match isL o S with
    | some n => We (la env S) (bnK (kk n) Q)
    | none => False
  | .exc c fs S => Q (.exc c fs S)
def m0K (kk : Nat → Mm Dv) (Q : Rs Dv → Prop) : Rs Dv → Prop
  | .ok o S => match isL o S with
    | some n => We (kk n S) Q
    | none => False
  | .exc c fs S => Q (.exc c fs S)
def ch2K (o o' : DOp) (fc : FE) (env : DEnv) (x : Dv) (Q : Rs Dv → Prop) : Rs Dv → Prop
  | .ok y S => We (o x y S) (ivK (bnd (fc env) fun u => o' y u) (ret (.bl false)) Q)
  | .exc c fs S => Q (.exc c fs S)
def chK (o o' : DOp) (fb fc : FE) (env : DEnv) (Q : Rs Dv → Prop) : Rs Dv → Prop
  | .ok x S => We (fb env S) (ch2K o o' fc env x Q)
  | .exc c fs S => Q (.exc c fs S)
def otK (fb : FE) (env : DEnv) (Q : Rs Dv → Prop) : Rs Dv → Prop
  | .ok x S => We (tru x S) (ifK (ret x) (fb env) Q)
  | .exc c fs S => Q (.exc c fs S)
def atK (fb : FE) (env : DEnv) (Q : Rs Dv → Prop) : Rs Dv → Prop
  | .ok x S => We (tru x S) (ifK (fb env) (ret x) Q)
  | .exc c fs S => Q (.exc c fs S)
def mkK (F : DFn) (c : Str) (n : Nat) (dds : List Dv) (Q : Rs Dv → Prop) : Rs (List Dv) → Prop
  | .ok ds S => ds.length = n ∧ We (gcR S (mkR F c (fun o => o :: (ds ++ dds)) S)) Q
  | .exc _ _ _ => False
def lcK (m : Bool) (own : List Nat) (b : Bd) (ft : FT) (fe : FE) (env : DEnv) (Q : Rs Dv → Prop) : Rs (List Dv) → Prop
  | .ok items S => We (compM b ft fe (wipeD env own) items [] S) (bnK (newL m) Q)
  | .exc c fs S => Q (.exc c fs S)
def cmK2 (b : Bd) (ft : FT) (fe : FE) (env0 : DEnv) (r acc : List Dv) (Q : Rs (List Dv) → Prop) : Rs Dv → Prop
  | .ok y S => acc.length ≤ big ∧ We (compM b ft fe env0 r (acc ++ [y]) S) Q
  | .exc _ _ _ => False
def cmK (b : Bd) (ft : FT) (fe : FE) (env0 env1 : DEnv) (r acc : List Dv) (Q : Rs (List Dv) → Prop) : Rs Bool → Prop
  | .ok c S => Br c (We (fe env1 S) (cmK2 b ft fe env0 r acc Q)) (We (compM b ft fe env0 r acc S) Q)
  | .exc _ _ _ => False
variable {k : α → Mm β} {kf : α → FS} {Q : Rs β → Prop} {P : Rf → Prop} {QD : Rs Dv → Prop} {QL : Rs (List Dv) → Prop} {a : α} {S : Store} {c : Str} {fs : List (Str × Dv)} {env e : DEnv} {m1 m2 : Mm β} {n1 n2 : Mm Dv} {t : Bool} {d : Dv} {g f : FS} {b : Bd} {fb : FS} {r : List Dv} {ks : List Nat} {cn : Str → Option Bool} {i : Nat} {fsu : Str → List (Str × Dv) → FS} {F : DFn} {n : Nat} {dds ds acc : List Dv} {m : Bool} {own : List Nat} {ft : FT} {fe : FE} {env0 env1 : DEnv}
@[simp ↓] theorem bnK_ok : bnK k Q (.ok a S) = We (k a S) Q := rfl
@[simp ↓] theorem bnK_exc : bnK k Q (.exc c fs S) = Q (.exc c fs S) := rfl
@[simp ↓] theorem sbK_ok : sbK kf env P (.ok a S) = Ws (kf a env S) P := rfl
@[simp ↓] theorem sbK_exc : sbK kf env P (.exc c fs S) = P (.exc c fs env S) := rfl
@[simp ↓] theorem ifK_ok : ifK m1 m2 Q (.ok t S) = Br t (We (m1 S) Q) (We (m2 S) Q) := rfl
@[simp ↓] theorem ifK_exc : ifK m1 m2 Q (.exc c fs S) = Q (.exc c fs S) := rfl
@[simp ↓] theorem ivK_ok : ivK n1 n2 QD (.ok d S) = We (ofO (asB d) S) (ifK n1 n2 QD) := rfl
@[simp ↓] theorem ivK_exc : ivK n1 n2 QD (.exc c fs S) = QD (.exc c fs S) := rfl
@[simp ↓] theorem sqK_nx : sqK g P (.nx e S) = Ws (g e S) P := rfl
@[simp ↓] theorem sqK_rt : sqK g P (.rt d S) = P (.rt d S) := rfl
@[simp ↓] theorem sqK_bk : sqK g P (.bk e S) = P (.bk e S) := rfl
@[simp ↓] theorem sqK_ct : sqK g P (.ct e S) = P (.ct e S) := rfl
@[simp ↓] theorem sqK_exc : sqK g P (.exc c fs e S) = P (.exc c fs e S) := rfl
@[simp ↓] theorem sifK_ok : sifK f g env P (.ok t S) = Br t (Ws (f env S) P) (Ws (g env S) P) := rfl
@[simp ↓] theorem sifK_exc : sifK f g env P (.exc c fs S) = P (.exc c fs env S) := rfl
@[simp ↓] theorem asK_ok : asK b env P (.ok d S) = Wb (b d env) (fun e => P (.nx e S)) := rfl
@[simp ↓] theorem asK_exc : asK b env P (.exc c fs S) = P (.exc c fs env S) := rfl
@[simp ↓] theorem rtK_ok : rtK env P (.ok d S) = P (.rt d S) := rfl
@[simp ↓] theorem rtK_exc : rtK env P (.exc c fs S) = P (.exc c fs env S) := rfl
@[simp ↓] theorem xpK_ok : xpK env P (.ok d S) = P (.nx env S) := rfl
@[simp ↓] theorem xpK_exc : xpK env P (.exc c fs S) = P (.exc c fs env S) := rfl
@[simp ↓] theorem lpK_nx : lpK b fb r P (.nx e S) = Ws (forM' b fb r e S) P := rfl
@[simp ↓] theorem lpK_ct : lpK b fb r P (.ct e S) = Ws (forM' b fb r e S) P := rfl
@[simp ↓] theorem lpK_bk : lpK b fb r P (.bk e S) = P (.nx e S) := rfl
@[simp ↓] theorem lpK_rt : lpK b fb r P (.rt d S) = P (.rt d S) := rfl
@[simp ↓] theorem lpK_exc : lpK b fb r P (.exc c fs e S) = P (.exc c fs e S) := rfl
@[simp ↓] theorem clK_nx : clK ks P (.nx e S) = P (.nx (fgt ks e) S) := rfl
@[simp ↓] theorem clK_bk : clK ks P (.bk e S) = P (.bk (fgt ks e) S) := rfl
@[simp ↓] theorem clK_ct : clK ks P (.ct e S) = P (.ct (fgt ks e) S) := rfl
@[simp ↓] theorem clK_rt : clK ks P (.rt d S) = P (.rt d S) := rfl
@[simp ↓] theorem clK_exc : clK ks P (.exc c fs e S) = P (.exc c fs e S) := rfl
@[simp ↓] theorem tyK_nx : tyK cn i fsu P (.nx e S) = P (.nx e S) := rfl
@[simp ↓] theorem tyK_rt : tyK cn i fsu P (.rt d S) = P (.rt d S) := rfl
@[simp ↓] theorem tyK_exc : tyK cn i fsu P (.exc c fs e S) = (match cn c with
    | some true => i < e.length ∧ Ws (fsu c fs (e.set i none) S) (erK i P)
    | some false => P (.exc c fs e S)
    | none => False) := rfl
@[simp ↓] theorem erK_nx : erK i P (.nx e S) = P (.nx (e.set i none) S) := rfl
@[simp ↓] theorem erK_rt : erK i P (.rt d S) = P (.rt d S) := rfl
@[simp ↓] theorem mtK_ok {x f : Str} {la : FA} : mtK x f n F la env QD (.ok d S) = (match insOf d S with
    | some (c', fs) => (c' = x ∧ fs.lookup f = none) ∧ We (la env S) (bnK (fun ds => if ds.length = n then F (d :: ds) else stuck) QD)
    | none => False) := rfl
@[simp ↓] theorem mrK_ok {kk : List Dv → List Dv → Mm Dv} {la : FA} : mrK kk la env QD (.ok d S) = (isLst d S = true ∧ We (la env S) (bnK (fun ds S => match listOf d S with
    | some xs => kk xs ds S
    | none => none) QD)) := rfl
@[simp ↓] theorem m1K_ok {kk : Nat → List Dv → Mm Dv} {la : FA} : m1K kk la env QD (.ok d S) = (match isL d S with
    | some n => We (la env S) (bnK (kk n) QD)
    | none => False) := rfl
@[simp ↓] theorem m0K_ok {kk : Nat → Mm Dv} : m0K kk QD (.ok d S) = (match isL d S with
    | some n => We (kk n S) QD
    | none => False) := rfl
@[simp ↓] theorem chK_ok {o o' : DOp} {fb fc : FE} : chK o o' fb fc env QD (.ok d S) = We (fb env S) (ch2K o o' fc env d QD) := rfl
@[simp ↓] theorem ch2K_ok {o o' : DOp} {fc : FE} {x : Dv} : ch2K o o' fc env x QD (.ok d S) = We (o x d S) (ivK (bnd (fc env) fun u => o' d u) (ret (.bl false)) QD) := rfl
@[simp ↓] theorem otK_ok {fb : FE} : otK fb env QD (.ok d S) = We (tru d S) (ifK (ret d) (fb env) QD) := rfl
@[simp ↓] theorem atK_ok {fb : FE} : atK fb env QD (.ok d S) = We (tru d S) (ifK (fb env) (ret d) QD) := rfl
@[simp ↓] theorem mkK_ok : mkK F c n dds QD (.ok ds S) = (ds.length = n ∧ We (gcR S (mkR F c (fun o => o :: (ds ++ dds)) S)) QD) := rfl
@[simp ↓] theorem lcK_ok : lcK m own b ft fe env QD (.ok ds S) = We (compM b ft fe (wipeD env own) ds [] S) (bnK (newL m) QD) := rfl
@[simp ↓] theorem lcK_exc : lcK m own b ft fe env QD (.exc c fs S) = QD (.exc c fs S) := rfl
@[simp ↓] theorem cmK_ok : cmK b ft fe env0 env1 r acc QL (.ok t S) = Br t (We (fe env1 S) (cmK2 b ft fe env0 r acc QL)) (We (compM b ft fe env0 r acc S) QL) := rfl
@[simp ↓] theorem cmK2_ok : cmK2 b ft fe env0 r acc QL (.ok d S) = (acc.length ≤ big ∧ We (compM b ft fe env0 r (acc ++ [d]) S) QL) := rfl
end
/-! ### the parts -/
section
variable {α β : Type} {m : Mm α} {k : α → Mm β} {Q : Rs β → Prop} {QD : Rs Dv → Prop} {QL : Rs (List Dv) → Prop} {QB : Rs Bool → Prop} {QO : Rs (Option Int) → Prop} {P : Rf → Prop} {S : Store} {env env0 : DEnv} {fa fb fc fo fi fe : FE} {ta tb tc : FT} {la lb : FA} {oa ob : FO} {ia : FI} {o o' : DOp} {cl : DCl} {u : Dv → Mm Dv} {x f : Str} {n i : Nat} {F : DFn} {mm : Bool} {own : List Nat} {b : Bd} {s1 s2 : FS} {dds r acc : List Dv} {d : Dv}
theorem We_bnd : We (bnd m k S) Q = We (m S) (bnK k Q) := by
  unfold bnd
  cases h : m S with
  | none => simp [We]
  | some r => cases r <;> simp
theorem Ws_bnd {f : DEnv → Mm α} {k : α → FS} : Ws (sBnd f k env S) P = We (f env S) (sbK k env P) := by
  unfold sBnd
  cases h : f env S with
  | none => simp [Ws, We]
  | some r => cases r <;> simp
@[simp ↓] theorem We_bnd' : We (bnd m k S) Q = We (m S) (bnK k Q) := We_bnd
@[simp ↓] theorem Ws_bnd' {f : DEnv → Mm α} {k : α → FS} : Ws (sBnd f k env S) P = We (f env S) (sbK k env P) := Ws_bnd
theorem We_ite {c : Bool} {m1 m2 : Mm β} : We ((if c = true then m1 else m2) S) Q = Br c (We (m1 S) Q) (We (m2 S) Q) := by cases c <;> simp
@[simp ↓] theorem w_fOp : We (fOp o fa fb env S) QD = We (fa env S) (bnK (fun x => bnd (fb env) fun y => o x y) QD) := We_bnd
@[simp ↓] theorem w_fUn : We (fUn u fa env S) QD = We (fa env S) (bnK u QD) := We_bnd
@[simp ↓] theorem w_fTest : We (fTest fa env S) QB = We (fa env S) (bnK (fun x => ofO (asB x)) QB) := We_bnd
@[simp ↓] theorem w_fTru : We (fTru fa env S) QB = We (fa env S) (bnK tru QB) := We_bnd
theorem bnK_if {c1 c2 : Mm β} : bnK (fun c : Bool => if c = true then c1 else c2) Q = ifK c1 c2 Q := by
  funext x
  cases x with
  | ok c S => show We ((if c = true then c1 else c2) S) Q = _; rw [We_ite]; rfl
  | exc => rfl
@[simp ↓] theorem w_fAnd : We (fAnd ta tb env S) QB = We (ta env S) (ifK (tb env) (ret false) QB) := by unfold fAnd; rw [We_bnd, bnK_if]
@[simp ↓] theorem w_fOr : We (fOr ta tb env S) QB = We (ta env S) (ifK (ret true) (tb env) QB) := by unfold fOr; rw [We_bnd, bnK_if]
@[simp ↓] theorem w_fNot : We (fNot ta env S) QB = We (ta env S) (bnK (fun c => ret (!c)) QB) := We_bnd
@[simp ↓] theorem w_fIfE : We (fIfE ta fa fb env S) QD = We (ta env S) (ifK (fa env) (fb env) QD) := by unfold fIfE; rw [We_bnd, bnK_if]
theorem bnK_iv {c1 c2 : Mm Dv} : bnK (fun x => bnd (ofO (asB x)) fun c => if c = true then c1 else c2) QD = ivK c1 c2 QD := by
  funext x
  cases x with
  | ok d S => show We (bnd _ _ S) QD = _; rw [We_bnd, bnK_if]; rfl
  | exc => rfl
@[simp ↓] theorem w_fAndV : We (fAndV fa fb env S) QD = We (fa env S) (ivK (fb env) (ret (.bl false)) QD) := by unfold fAndV; rw [We_bnd, bnK_iv]
@[simp ↓] theorem w_fOrV : We (fOrV fa fb env S) QD = We (fa env S) (ivK (ret (.bl true)) (fb env) QD) := by unfold fOrV; rw [We_bnd, bnK_iv]
@[simp ↓] theorem w_fNotV : We (fNotV fa env S) QD = We (fa env S) (bnK (fun x => bnd (ofO (asB x)) fun c => ret (.bl (!c))) QD) := We_bnd
@[simp ↓] theorem w_fCons : We (fCons fa la env S) QL = We (fa env S) (bnK (fun x => bnd (la env) fun xs => ret (x :: xs)) QL) := We_bnd
@[simp ↓] theorem w_fCall : We (fCall cl la env S) QD = We (la env S) (bnK cl QD) := We_bnd
@[simp ↓] theorem w_fTup : We (fTup la env S) QD = We (la env S) (bnK (fun xs => lim xs.length (ret (.tup xs))) QD) := We_bnd
@[simp ↓] theorem w_fLst : We (fLst mm la env S) QD = We (la env S) (bnK (fun xs => lim xs.length (newL mm xs)) QD) := We_bnd
@[simp ↓] theorem w_fSo : We (fSo fa env S) QO = We (fa env S) (bnK (fun x => bnd (ofO (asI x)) fun i => ret (some i)) QO) := We_bnd
@[simp ↓] theorem w_fSl : We (fSl mm fa oa ob env S) QD = We (fa env S) (bnK (fun x => bnd (oa env) fun lo => bnd (ob env) fun hi => oSl mm x lo hi) QD) := We_bnd
@[simp ↓] theorem w_fIt : We (fIt fa env S) QL = We (fa env S) (bnK (fun x => ofO (frozen x)) QL) := We_bnd
@[simp ↓] theorem w_fRng1 : We (fRng1 la env S) QL = We (la env S) (bnK rng1 QL) := We_bnd
@[simp ↓] theorem w_fRng2 : We (fRng2 la env S) QL = We (la env S) (bnK rng2 QL) := We_bnd
@[simp ↓] theorem w_fEnum : We (fEnum la env S) QL = We (la env S) (bnK (fun ds => match ds with
  | [d] => bnd (ofO (frozen d)) fun xs => ret (numbered xs)
  | _ => stuck) QL) := We_bnd
@[simp ↓] theorem w_fZip : We (fZip la env S) QL = We (la env S) (bnK (fun ds => match ds with
  | [.tup xs, .tup ys] => ret (pairs xs ys)
  | [.lst xs, .lst ys] => ret (pairs xs ys)
  | _ => stuck) QL) := We_bnd
@[simp ↓] theorem w_fRev : We (fRev fa env S) QL = We (fa env S) (bnK (fun x => bnd (ofO (frozen x)) fun xs => ret xs.reverse) QL) := We_bnd
@[simp ↓] theorem w_fLc : We (fLc mm ia own b ta fe env S) QD = We (ia env S) (lcK mm own b ta fe env QD) := by
  unfold fLc
  rw [We_bnd]
  refine We_cong fun x => ?_
  cases x with
  | ok d S => show We (bnd _ _ S) QD = _; rw [We_bnd]; rfl
  | exc => rfl
@[simp ↓] theorem w_fFld : We (fFld x f fa env S) QD = We (fa env S) (bnK (fun d S => match insOf d S with
  | some (c', fs) => if c' = x then (match fs.lookup f with
    | some d => some (.ok d S)
    | none => none) else none
  | none => none) QD) := We_bnd
@[simp ↓] theorem w_fMt : We (fMt x f n F fa la env S) QD = We (fa env S) (mtK x f n F la env QD) := by
  unfold fMt
  rw [We_bnd]
  refine We_cong fun x => ?_
  cases x with
  | ok d S =>
    show We _ QD = _
    rw [mtK_ok]
    cases h : insOf d S with
    | none => simp only [h]; simp [We]
    | some p =>
      obtain ⟨c', fs⟩ := p
      simp only [h]
      by_cases z : c' = x ∧ fs.lookup f = none
      · rw [if_pos z, We_bnd]; simp only [z, true_and, and_self]
      · rw [if_neg z]; simp only [z, false_and]; simp [We]
  | exc => rfl
@[simp ↓] theorem w_fProp : We (fProp x F fa env S) QD = We (fa env S) (bnK (fun o S => match insOf o S with
  | some (c', _) => if c' = x then (match F [o] S with
    | some (.ok d S') => some (.ok d S')
    | _ => none) else none
  | none => none) QD) := We_bnd
def mgK (S : Store) (F : DFn) (x : Str) (n : Nat) (dds : List Dv) (Q : Rs Dv → Prop) : Rs (List Dv) → Prop
  | .ok ds S1 => We (gcR S (if ds.length = n then mkR F x (fun o => o :: (ds ++ dds)) S1 else none)) Q
  | .exc c fs S1 => We (gcR S (some (.exc c fs S1))) Q
@[simp ↓] theorem mgK_ok {S0 S1 : Store} {ds : List Dv} : mgK S0 F x n dds QD (.ok ds S1) = We (gcR S0 (if ds.length = n then mkR F x (fun o => o :: (ds ++ dds)) S1 else none)) QD := rfl
@[simp ↓] theorem w_fGcMk : We (fGc (fMk x n dds F la) env S) QD = We (la env S) (mgK S F x n dds QD) := by
  unfold fGc fMk
  simp only [bnd]
  cases h : la env S with
  | none => simp [We, gcR]
  | some r => rw [We_some]; cases r <;> rfl
@[simp ↓] theorem w_fIsi {t : String} : We (fIsi t fa env S) QD = We (fa env S) (bnK (fun x S => match tyOf x S with
  | some t' => match isTy t' t with
    | some r => some (.ok (.bl r) S)
    | none => none
  | none => none) QD) := We_bnd
@[simp ↓] theorem w_fChain : We (fChain o o' fa fb fc env S) QD = We (fa env S) (chK o o' fb fc env QD) := by
  unfold fChain
  rw [We_bnd]
  refine We_cong fun x => ?_
  cases x with
  | ok d S =>
    show We (bnd _ _ S) QD = _
    rw [We_bnd, chK_ok]
    refine We_cong fun y => ?_
    cases y with
    | ok e S => show We (bnd _ _ S) QD = _; rw [We_bnd, bnK_iv]; rfl
    | exc => rfl
  | exc => rfl
@[simp ↓] theorem w_fMR {kk : List Dv → List Dv → Mm Dv} : We (fMR kk fa la env S) QD = We (fa env S) (mrK kk la env QD) := by
  unfold fMR
  rw [We_bnd]
  refine We_cong fun x => ?_
  cases x with
  | ok d S =>
    show We _ QD = _
    rw [mrK_ok]
    by_cases z : isLst d S = true
    · simp only [if_pos z]; rw [We_bnd]; (simp only [z, true_and]; try rfl)
    · simp only [if_neg z]; simp [We, z]
  | exc => rfl
@[simp ↓] theorem w_fMeth1 {kk : Nat → List Dv → Mm Dv} : We (fMeth1 kk fa la env S) QD = We (fa env S) (m1K kk la env QD) := by
  unfold fMeth1
  rw [We_bnd]
  refine We_cong fun x => ?_
  cases x with
  | ok d S =>
    show We _ QD = _
    rw [m1K_ok]
    cases h : isL d S with
    | none => simp only [h]; simp [We]
    | some p => simp only [h]; rw [We_bnd]
  | exc => rfl
@[simp ↓] theorem w_fMeth0 {kk : Nat → Mm Dv} : We (fMeth0 kk fa env S) QD = We (fa env S) (m0K kk QD) := by
  unfold fMeth0
  rw [We_bnd]
  refine We_cong fun x => ?_
  cases x with
  | ok d S =>
    show We _ QD = _
    rw [m0K_ok]
    cases h : isL d S with
    | none => simp only [h]; simp [We]
    | some p => simp only [h]
  | exc => rfl
@[simp ↓] theorem w_fRevL : We (fRevL mm fa env S) QD = We (fa env S) (bnK (fun x S => match listOf x S with
  | some xs => newL mm xs.reverse S
  | none => none) QD) := We_bnd
@[simp ↓] theorem w_fRep : We (fRep mm fa fb env S) QD = We (fa env S) (bnK (fun x => bnd (fb env) fun y => bnd (ofO (asI y)) fun n => if n.natAbs ≤ 100000 then newL mm (List.replicate n.toNat x) else stuck) QD) := We_bnd
@[simp ↓] theorem w_fOrT : We (fOrT fa fb env S) QD = We (fa env S) (otK fb env QD) := by
  unfold fOrT
  rw [We_bnd]
  refine We_cong fun x => ?_
  cases x with
  | ok d S => show We (bnd _ _ S) QD = _; rw [We_bnd, bnK_if]; rfl
  | exc => rfl
@[simp ↓] theorem w_fAndT : We (fAndT fa fb env S) QD = We (fa env S) (atK fb env QD) := by
  unfold fAndT
  rw [We_bnd]
  refine We_cong fun x => ?_
  cases x with
  | ok d S => show We (bnd _ _ S) QD = _; rw [We_bnd, bnK_if]; rfl
  | exc => rfl
@[simp ↓] theorem w_fCm : We (fCm x n dds F la env S) QD = We (la env S) (bnK (fun ds => if ds.length = n then F (.cls x :: ds ++ dds) else stuck) QD) := We_bnd
@[simp ↓] theorem w_fSm : We (fSm n dds F la env S) QD = We (la env S) (bnK (fun ds => if ds.length = n then F (ds ++ dds) else stuck) QD) := We_bnd
/-! statements -/
@[simp ↓] theorem w_sSeq : Ws (sSeq s1 s2 env S) P = Ws (s1 env S) (sqK s2 P) := by
  unfold sSeq
  cases h : s1 env S with
  | none => simp [Ws]
  | some r => cases r <;> simp
@[simp ↓] theorem w_sIf : Ws (sIf ta s1 s2 env S) P = We (ta env S) (sifK s1 s2 env P) := by
  unfold sIf
  rw [Ws_bnd]
  refine We_cong fun x => ?_
  cases x with
  | ok c S => cases c <;> simp
  | exc => rfl
@[simp ↓] theorem w_sAsg : Ws (sAsg fa b env S) P = We (fa env S) (asK b env P) := by
  unfold sAsg
  rw [Ws_bnd]
  refine We_cong fun x => ?_
  cases x with
  | ok d S =>
    show Ws (match b d env with | some env' => some (.nx env' S) | none => none) P = _
    cases h : b d env <;> simp [h, Ws, Wb]
  | exc => rfl
@[simp ↓] theorem w_sRet : Ws (sRet fa env S) P = We (fa env S) (rtK env P) := by
  unfold sRet
  rw [Ws_bnd]
  refine We_cong fun x => ?_
  cases x with
  | ok d S => show Ws (some _) P = _; rw [Ws_some]; rfl
  | exc => rfl
@[simp ↓] theorem w_sExpr : Ws (sExpr fa env S) P = We (fa env S) (xpK env P) := by
  unfold sExpr
  rw [Ws_bnd]
  refine We_cong fun x => ?_
  cases x with
  | ok d S => show Ws (some _) P = _; rw [Ws_some]; rfl
  | exc => rfl
@[simp ↓] theorem w_sFor : Ws (sFor ia b s1 env S) P = We (ia env S) (sbK (fun items => forM' b s1 items) env P) := Ws_bnd
@[simp ↓] theorem w_for_nil : Ws (forM' b s1 [] env S) P = P (.nx env S) := by unfold forM'; rw [Ws_some]
@[simp ↓] theorem w_for_cons : Ws (forM' b s1 (d :: r) env S) P = Wb (b d env) (fun e => Ws (s1 e S) (lpK b s1 r P)) := by
  conv => lhs; unfold forM'
  cases h : b d env with
  | none => simp [Ws, Wb]
  | some e =>
    simp only [Wb_some]
    cases h2 : s1 e S with
    | none => simp [Ws]
    | some x => cases x <;> simp
@[simp ↓] theorem w_sRaise {name : Str} {flds : List Str} : Ws (sRaise name flds la env S) P = We (la env S) (sbK (fun ds env S => if ds.length = flds.length then some (.exc name (flds.zip ds) env S) else none) env P) := Ws_bnd
@[simp ↓] theorem w_sSetIx : Ws (sSetIx fo fi fe env S) P = We (fe env S) (sbK (fun v => sBnd fo fun o => sBnd fi fun i => fun env S => match setIx o i v S with
  | some S' => some (.nx env S')
  | none => none) env P) := Ws_bnd
@[simp ↓] theorem w_sSetFld : Ws (sSetFld x f fo fe env S) P = We (fe env S) (sbK (fun v => sBnd fo fun o => fun env S => match setFld x f o v S with
  | some S' => some (.nx env S')
  | none => none) env P) := Ws_bnd
@[simp ↓] theorem w_sTryAs {cn : Str → Option Bool} {fsu : Str → List (Str × Dv) → FS} : Ws (sTryAs s1 cn i fsu env S) P = Ws (s1 env S) (tyK cn i fsu P) := by
  unfold sTryAs
  cases h : s1 env S with
  | none => simp [Ws]
  | some x =>
    rw [Ws_some]
    cases x with
    | exc c f e s =>
      rw [tyK_exc]
      simp only
      cases h1 : cn c with
      | none => simp [Ws]
      | some t =>
        cases t with
        | false => simp
        | true =>
          simp only
          by_cases z : i < e.length
          · rw [if_pos z]
            simp only [z, true_and]
            cases h2 : fsu c f (e.set i none) s with
            | none => simp [Ws]
            | some y => rw [Ws_some]; cases y <;> simp [erK, Ws]
          · rw [if_neg z]
            simp [Ws, z]
    | _ => simp [tyK]
@[simp ↓] theorem w_sCl {ks : List Nat} : Ws (sCl ks s1 env S) P = Ws (s1 env S) (clK ks P) := by
  unfold sCl
  cases h : s1 env S with
  | none => simp [Ws, clS]
  | some x => cases x <;> simp [clS]
@[simp ↓] theorem w_sGc {ks : List Nat} : Ws (sGc ks s1 env S) P = Ws (s1 env S) (gsK ks S P) := by
  unfold sGc
  cases h : s1 env S with
  | none => simp [Ws, gcS]
  | some x => rw [Ws_some]; rfl
@[simp ↓] theorem w_sPre {ks : List Nat} : Ws (sPre ks s1 env S) P = Ws (s1 (fgt ks env) S) P := rfl
@[simp ↓] theorem w_comp_nil : We (compM b ta fe env0 [] acc S) QL = QL (.ok acc S) := by unfold compM; exact We_some
@[simp ↓] theorem w_comp_cons : We (compM b ta fe env0 (d :: r) acc S) QL = Wb (b d env0) (fun e => We (ta e S) (cmK b ta fe env0 e r acc QL)) := by
  conv => lhs; unfold compM
  cases h : b d env0 with
  | none => simp [We, Wb]
  | some e =>
    simp only [Wb_some]
    cases h2 : ta e S with
    | none => simp [We]
    | some x =>
      cases x with
      | exc => simp [We, cmK]
      | ok t S1 =>
        cases t with
        | false => simp
        | true =>
          simp only [We_some, cmK_ok, Br_true]
          cases h3 : fe e S1 with
          | none => simp [We]
          | some y =>
            cases y with
            | exc => simp [We, cmK2]
            | ok y S2 =>
              by_cases hl : acc.length ≤ big
              · simp [hl]
              · simp only [if_neg hl, We_some, cmK2_ok]
                simp [We, hl]
end
/-! ### loops and comprehensions as a whole -/
section
variable {α σ : Type} {b : Bd} {fb : FS} {P : Rf → Prop} {QL : Rs (List Dv) → Prop} {S : Store} {env env0 : DEnv} {ft : FT} {fe : FE}
def fwK (I : Nat → DEnv → Store → Prop) (i : Nat) (P : Rf → Prop) : Rf → Prop
  | .nx e s => Hi I i e s
  | .ct e s => Hi I i e s
  | .bk e s => P (.nx e s)
  | x => P x
@[simp ↓] theorem fwK_nx {I : Nat → DEnv → Store → Prop} {i : Nat} {e : DEnv} {s : Store} : fwK I i P (.nx e s) = Hi I i e s := rfl
@[simp ↓] theorem fwK_ct {I : Nat → DEnv → Store → Prop} {i : Nat} {e : DEnv} {s : Store} : fwK I i P (.ct e s) = Hi I i e s := rfl
@[simp ↓] theorem fwK_bk {I : Nat → DEnv → Store → Prop} {i : Nat} {e : DEnv} {s : Store} : fwK I i P (.bk e s) = P (.nx e s) := rfl
@[simp ↓] theorem fwK_rt {I : Nat → DEnv → Store → Prop} {i : Nat} {d : Dv} {s : Store} : fwK I i P (.rt d s) = P (.rt d s) := rfl
@[simp ↓] theorem fwK_exc {I : Nat → DEnv → Store → Prop} {i : Nat} {c : Str} {f : List (Str × Dv)} {e : DEnv} {s : Store} : fwK I i P (.exc c f e s) = P (.exc c f e s) := rfl
theorem w_for (I : Nat → DEnv → Store → Prop) {xs : List Dv} (h0 : I 0 env S) (hs : ∀ (i : Nat) (d : Dv) (env : DEnv) (S : Store), xs[i]? = some d → I i env S → Wb (b d env) (fun e => Ws (fb e S) (fwK I (i + 1) P))) (hQ : ∀ env S, I xs.length env S → P (.nx env S)) : Ws (forM' b fb xs env S) P := by
  induction xs generalizing I env S with
  | nil => rw [w_for_nil]; exact hQ env S h0
  | cons d r ih =>
    rw [w_for_cons]
    obtain ⟨e, h1, x, h2, h3⟩ := hs 0 d env S rfl h0
    refine ⟨e, h1, x, h2, ?_⟩
    have go : ∀ e s, I 1 e s → Ws (forM' b fb r e s) P := fun e s hI => ih (I := fun i => I (i + 1)) hI (fun i d env S hd hI => hs (i + 1) d env S hd hI) hQ
    cases x with
    | nx e s => exact go e s h3
    | ct e s => exact go e s h3
    | bk e s => exact h3
    | rt d s => exact h3
    | exc c f e s => exact h3
/-- .. by a function of what it keeps -/
theorem w_fold (enc : α → Dv) (E : σ → DEnv) (St : σ → Store) (step : σ → α → σ) (I : Nat → σ → Prop) (xs : List α) (s0 : σ) (he : env = E s0) (hS : S = St s0) (hI : I 0 s0)
    (hs : ∀ (j : Nat) (x : α) (s : σ), xs[j]? = some x → I j s → Wb (b (enc x) (E s)) (fun e => Ws (fb e (St s)) (fun r => r = .nx (E (step s x)) (St (step s x)))) ∧ I (j + 1) (step s x))
    (hQ : I xs.length (xs.foldl step s0) → P (.nx (E (xs.foldl step s0)) (St (xs.foldl step s0)))) : Ws (forM' b fb (xs.map enc) env S) P := by
  subst he hS
  have := forM_fold (b := b) (fb := fb) enc E St step I xs 0 s0 hI fun j x s hj hI => by
    obtain ⟨⟨e, h1, h2⟩, h3⟩ := hs j x s hj (by simpa using hI)
    exact ⟨e, h1, Ws_eq h2, by simpa using h3⟩
  exact ⟨_, this.1, hQ (by simpa using this.2)⟩
/-- a comprehension whose parts change nothing -/
theorem w_lc (enc : α → Dv) (p : α → Bool) (g : α → Dv) (xs : List α) (hl : xs.length ≤ 1000000)
    (h : ∀ x ∈ xs, Wb (b (enc x) env0) (fun e => We (ft e S) (fun r => r = .ok (p x) S) ∧ (p x = true → We (fe e S) (fun r => r = .ok (g x) S))))
    (hQ : QL (.ok ((xs.filter p).map g) S)) : We (compM b ft fe env0 (xs.map enc) [] S) QL :=
  ⟨_, compM_filter p g hl fun x hx => by
    obtain ⟨e, h1, h2, h3⟩ := h x hx
    exact ⟨e, h1, We_eq h2, fun hp => We_eq (h3 hp)⟩, hQ⟩
theorem w_lcm (enc : α → Dv) (g : α → Dv) (xs : List α) (hl : xs.length ≤ 1000000)
    (h : ∀ x ∈ xs, Wb (b (enc x) env0) (fun e => We (fe e S) (fun r => r = .ok (g x) S)))
    (hQ : QL (.ok (xs.map g) S)) : We (compM b fYes fe env0 (xs.map enc) [] S) QL :=
  ⟨_, compM_map' g hl fun x hx => by
    obtain ⟨e, h1, h2⟩ := h x hx
    exact ⟨e, h1, We_eq h2⟩, hQ⟩
/-- .. whose parts make draws: what is kept, what each one is -/
theorem w_lcx (enc : α → Dv) (R : α → Dv → Prop) (I : Nat → Store → Prop) (xs : List α) (hl : xs.length ≤ 1000000) (h0 : I 0 S)
    (h : ∀ (i : Nat) (x : α) (S : Store), xs[i]? = some x → I i S → Wb (b (enc x) env0) (fun e => We (fe e S) (Hd fun r => ∃ d S', r = .ok d S' ∧ I (i + 1) S' ∧ R x d)))
    (hQ : ∀ ys S', I xs.length S' → ys.length = xs.length → (∀ (i : Nat) (x : α) (y : Dv), xs[i]? = some x → ys[i]? = some y → R x y) → QL (.ok ys S')) : We (compM b fYes fe env0 (xs.map enc) [] S) QL := by
  have key : ∀ (xs : List α) (acc : List Dv) (I : Nat → Store → Prop) (S : Store), acc.length + xs.length ≤ 1000000 → I 0 S →
      (∀ (i : Nat) (x : α) (S : Store), xs[i]? = some x → I i S → Wb (b (enc x) env0) (fun e => We (fe e S) (Hd fun r => ∃ d S', r = .ok d S' ∧ I (i + 1) S' ∧ R x d))) →
      ∃ ys S', compM b fYes fe env0 (xs.map enc) acc S = some (.ok (acc ++ ys) S') ∧ I xs.length S' ∧ ys.length = xs.length ∧ ∀ (i : Nat) (x : α) (y : Dv), xs[i]? = some x → ys[i]? = some y → R x y := by
    intro xs
    induction xs with
    | nil => intro acc I S _ h0 _; exact ⟨[], S, by simp [compM], h0, rfl, by simp⟩
    | cons x xs ih =>
      intro acc I S hl h0 h
      obtain ⟨e, h1, r, h2, d, S1, rfl, h3, h4⟩ := h 0 x S rfl h0
      simp only [List.length_cons] at hl
      obtain ⟨ys, S', e1, e2, e3, e4⟩ := ih (acc ++ [d]) (fun i => I (i + 1)) S1 (by simp; omega) h3 fun i x S hx hI => h (i + 1) x S hx hI
      refine ⟨d :: ys, S', ?_, e2, by simp [e3], fun i => ?_⟩
      · show compM b fYes fe env0 (enc x :: xs.map enc) acc S = _
        unfold compM
        simp only [h1, fYes, FC.ret, h2]
        rw [if_pos (show acc.length ≤ big by have : big = 1000000 := rfl; omega), e1, List.append_assoc]
        rfl
      · cases i with
        | zero => intro x' y' hx hy; simp at hx hy; subst hx; subst hy; exact h4
        | succ i => simpa using e4 i
  obtain ⟨ys, S', e1, e2, e3, e4⟩ := key xs [] I S (by simpa using hl) h0 h
  exact ⟨_, e1, by simpa using hQ ys S' e2 e3 e4⟩
end
/-! ### a def's answer -/
section
variable {n : Nat} {fs : FS} {ds : List Dv} {S S' G : Store} {d : Dv} {Q : Rs Dv → Prop} {env : DEnv} {c : Str} {fl : List (Str × Dv)}
def bdK (Q : Rs Dv → Prop) : Rf → Prop
  | .nx _ s => Q (.ok .non s)
  | .rt d s => Q (.ok d s)
  | .exc c fs _ s => Q (.exc c fs s)
  | _ => False
@[simp ↓] theorem bdK_nx : bdK Q (.nx env S) = Q (.ok .non S) := rfl
@[simp ↓] theorem bdK_rt : bdK Q (.rt d S) = Q (.ok d S) := rfl
@[simp ↓] theorem bdK_exc : bdK Q (.exc c fl env S) = Q (.exc c fl S) := rfl
theorem w_body : We (bodyF n fs ds S) Q = Ws (fs (ds.map some ++ List.replicate (n - ds.length) none) S) (bdK Q) := by
  unfold bodyF
  cases h : fs (ds.map some ++ List.replicate (n - ds.length) none) S with
  | none => simp [We, Ws]
  | some r => cases r <;> simp [We, bdK]
/-- a def's answer that names nothing new -/
theorem w_def (h : Ws (fs (ds.map some ++ List.replicate (n - ds.length) none) S) (bdK fun r => ∃ G, r = .ok d (S ++ G))) (hd : okO S.length d = true) : gcD (bodyF n fs) ds S = some (.ok d S) := by
  rw [← w_body] at h
  obtain ⟨_, h, G, rfl⟩ := h
  exact gcD_of h hd
theorem w_defP (h : Ws (fs (ds.map some ++ List.replicate (n - ds.length) none) S) (bdK fun r => r = .ok d S)) (hd : okO S.length d = true) : gcD (bodyF n fs) ds S = some (.ok d S) := w_def (Ws_imp h fun x h => by
  cases x <;> first | exact h.elim | exact ⟨[], by rw [List.append_nil]; exact h⟩) hd
theorem w_defL {xs : List Dv} (h : Ws (fs (ds.map some ++ List.replicate (n - ds.length) none) S) (bdK fun r => ∃ G, r = .ok (.obj S.length) (S ++ .lst xs :: G))) (hd : okOs S.length xs = true) : gcD (bodyF n fs) ds S = some (.ok (.lst xs) S) := by
  rw [← w_body] at h
  obtain ⟨_, h, G, rfl⟩ := h
  exact gcD_list h hd
theorem w_defX (h : Ws (fs (ds.map some ++ List.replicate (n - ds.length) none) S) (bdK fun r => r = .exc c fl S)) (hd : okOs S.length (fl.map Prod.snd) = true) : gcD (bodyF n fs) ds S = some (.exc c fl S) := by
  rw [← w_body] at h
  obtain ⟨_, h, rfl⟩ := h
  exact gcD_exc h hd
end
/-! ### a store with a pool, and what was made beside it -/
def stP (S0 : Store) (j : Nat) (d : Dv) (L : List Dv) : Store := S0.set j d ++ L
section
variable {S0 : Store} {j i : Nat} {d d' x : Dv} {L G : List Dv}
@[simp high] theorem stP_len : (stP S0 j d L).length = S0.length + L.length := by simp [stP]
@[simp high] theorem stP_app : stP S0 j d L ++ G = stP S0 j d (L ++ G) := by simp [stP]
@[simp high] theorem stP_get : (stP S0 j d L)[S0.length + i]? = L[i]? := by
  unfold stP
  rw [List.getElem?_append_right (by simp)]
  simp
@[simp high] theorem stP_get0 : (stP S0 j d L)[S0.length]? = L[0]? := stP_get (i := 0)
@[simp high] theorem stP_set : (stP S0 j d L).set (S0.length + i) x = stP S0 j d (L.set i x) := by
  unfold stP
  rw [List.set_append_right _ _ (by simp)]
  simp
@[simp high] theorem stP_set0 : (stP S0 j d L).set S0.length x = stP S0 j d (L.set 0 x) := stP_set (i := 0)
theorem stP_old (h : i < S0.length) (hn : j ≠ i) : (stP S0 j d L)[i]? = S0[i]? := by
  unfold stP
  rw [List.getElem?_append_left (by simpa using h), List.getElem?_set_ne hn]
theorem stP_self (h : j < S0.length) : (stP S0 j d L)[j]? = some d := by
  unfold stP
  rw [List.getElem?_append_left (by simpa using h), List.getElem?_set_self h]
theorem stP_setJ (h : j < S0.length) : (stP S0 j d L).set j d' = stP S0 j d' L := by
  unfold stP
  rw [List.set_append_left _ _ (by simpa using h)]
  simp
@[simp high] theorem app_get : (L ++ G)[L.length + i]? = G[i]? := by rw [List.getElem?_append_right (by omega)]; simp
@[simp high] theorem app_get0 : (L ++ G)[L.length]? = G[0]? := app_get (i := 0)
@[simp high] theorem app_set : (L ++ G).set (L.length + i) x = L ++ G.set i x := by rw [List.set_append_right _ _ (by omega)]; simp
@[simp high] theorem app_set0 : (L ++ G).set L.length x = L ++ G.set 0 x := app_set (i := 0)
end
theorem rngN (n : Nat) (h : n ≤ 1000000) (S : Store) : rng1 [.int n] S = some (.ok ((upTo 0 n).map .int) S) := rng1_len h
@[simp] theorem rng_2 {S : Store} : rng1 [.int 2] S = some (.ok [.int 0, .int 1] S) := by rw [rng1_e (by decide)]; rfl
@[simp] theorem rng_3 {S : Store} : rng1 [.int 3] S = some (.ok [.int 0, .int 1, .int 2] S) := by rw [rng1_e (by decide)]; rfl
theorem atI0 {α : Type} {a : α} {r : List α} : atI (a :: r) 0 = some a := by
  unfold atI ixN
  rw [if_pos (by decide), if_pos (by simp)]
  rfl
@[simp] theorem at3_0 {a b c : Dv} : atI [a, b, c] 0 = some a := rfl
@[simp] theorem at3_1 {a b c : Dv} : atI [a, b, c] 1 = some b := rfl
@[simp] theorem at3_2 {a b c : Dv} : atI [a, b, c] 2 = some c := rfl
@[simp] theorem at2_0 {a b : Dv} : atI [a, b] 0 = some a := rfl
@[simp] theorem at2_1 {a b : Dv} : atI [a, b] 1 = some b := rfl
@[simp] theorem at1_0 {a : Dv} : atI [a] 0 = some a := rfl
@[simp] theorem at4_0 {a b c d : Dv} : atI [a, b, c, d] 0 = some a := rfl
@[simp] theorem at4_1 {a b c d : Dv} : atI [a, b, c, d] 1 = some b := rfl
@[simp] theorem at4_2 {a b c d : Dv} : atI [a, b, c, d] 2 = some c := rfl
@[simp] theorem at4_3 {a b c d : Dv} : atI [a, b, c, d] 3 = some d := rfl
@[simp] theorem asInts_1 {a : Int} : asInts [.int a] = some [a] := rfl
@[simp] theorem asInts_2 {a b : Int} : asInts [.int a, .int b] = some [a, b] := rfl
@[simp] theorem asInts_3 {a b c : Int} : asInts [.int a, .int b, .int c] = some [a, b, c] := rfl
@[simp] theorem asInts_0 : asInts [] = some [] := rfl
@[simp] theorem ix3_0 : ixN 3 0 = some 0 := rfl
@[simp] theorem ix3_1 : ixN 3 1 = some 1 := rfl
@[simp] theorem ix3_2 : ixN 3 2 = some 2 := rfl
end FC

set_option Elab.async false
set_option linter.all false
set_option maxRecDepth 100000
set_option maxHeartbeats 4000000
namespace FCL
open PySem PySem.Spec L2 FC
/-! ### the pool, its draws -/
theorem mem_upTo {n : Nat} {i : Int} (h : i ∈ upTo 0 n) : ∃ k : Nat, k < n ∧ i = k := by
  rw [upTo_range] at h
  simp at h
  obtain ⟨k, hk, e⟩ := h
  exact ⟨k, hk, e.symm⟩
theorem atI_nat {α : Type} (xs : List α) (k : Nat) : atI xs (k : Int) = xs[k]? := by
  unfold atI ixN
  by_cases h : k < xs.length
  · rw [if_pos (by omega), if_pos (by omega)]; simp
  · rw [if_pos (by omega), if_neg (by omega)]; simp; omega
/-- a pool from which at most k draws were made -/
def Pool (k : Nat) (d : Dv) : Prop := ∃ a b c : Int, 0 ≤ a ∧ 0 ≤ b ∧ b ≤ k ∧ 0 ≤ c ∧ c < 999999937 ∧ d = .lst [.int a, .int b, .int c]
theorem Pool.mono {k m : Nat} {d : Dv} (h : Pool k d) (hk : k ≤ m) : Pool m d := by
  obtain ⟨a, b, c, h1, h2, h3, h4⟩ := h
  exact ⟨a, b, c, h1, h2, by omega, h4⟩
/-- the store S0 with a pool at j -/
def PlS (j k : Nat) (S0 S : Store) : Prop := ∃ d, Pool k d ∧ j < S0.length ∧ S = S0.set j d
theorem PlS.mono {j k m : Nat} {S0 S : Store} (h : PlS j k S0 S) (hk : k ≤ m) : PlS j m S0 S := by
  obtain ⟨d, h1, h2⟩ := h
  exact ⟨d, h1.mono hk, h2⟩
theorem PlS.len {j k : Nat} {S0 S : Store} (h : PlS j k S0 S) : S.length = S0.length := by
  obtain ⟨d, h1, h2, rfl⟩ := h
  simp
theorem PlS.st {j k : Nat} {S0 S : Store} (h : PlS j k S0 S) (S1 : Store) {k1 : Nat} (h1 : PlS j k1 S0 S1) : StOk S1 S := by
  obtain ⟨d, ⟨a, b, c, _, _, _, _, _, rfl⟩, h2, rfl⟩ := h
  obtain ⟨d1, _, _, rfl⟩ := h1
  refine ⟨by simp, fun i x hi hx => ?_⟩
  by_cases z : j = i
  · subst z
    rw [List.getElem?_set_self (by simpa using h2)] at hx
    cases hx
    exact .inr rfl
  · rw [List.getElem?_set_ne z] at hx
    exact .inl (by rw [List.getElem?_set_ne z]; exact hx)
theorem g_pool (ns : List Int) (k : Nat) (S : Store) (hn : ns.length ≤ 63) : ∃ d, Pool 0 d ∧ M__law_pool [.lst (ns.map .int), .int k] S = some (.ok (.obj S.length) (S ++ [d])) := by
  have e : atI (ns.map Dv.int) (k : Int) = (ns[k]?).map Dv.int := by rw [atI_nat]; simp
  have hl : ns.length ≤ 1000000 := by omega
  obtain ⟨a, c, ha, hc, hc2, h⟩ : ∃ a c : Int, 0 ≤ a ∧ 0 ≤ c ∧ c < 999999937 ∧ bodyF 3 fsM__law_pool [.lst (ns.map .int), .int k] S = some (.ok (.obj S.length) (S ++ .lst [.int a, .int 0, .int c] :: [])) := by
    cases q : ns[k]? with
    | none =>
      have hk : ¬ ((k : Int) < ns.length) := by have := List.getElem?_eq_none_iff.1 q; omega
      exact ⟨0, 0, by decide, by decide, by decide, by simp [fsM__law_pool, newM, CO, hl, hk]⟩
    | some n =>
      have hk : ((k : Int) < ns.length) := by have := (List.getElem?_eq_some_iff.1 q).1; omega
      rw [q] at e
      by_cases h : (1000000000000000000 : Int) ≤ n.natAbs
      · refine ⟨n.natAbs - 1000000000000000000, n.natAbs % 999999937, by omega, by omega, by omega, ?_⟩
        simp [fsM__law_pool, newM, e, h, hl, hk]
      · refine ⟨0, n.natAbs % 999999937, by omega, by omega, by omega, ?_⟩
        simp [fsM__law_pool, newM, e, h, hl, hk]
  refine ⟨.lst [.int a, .int 0, .int c], ⟨a, 0, c, ha, by decide, by simp, hc, hc2, rfl⟩, ?_⟩
  show gcMR S (bodyF 3 fsM__law_pool _ S) = _
  rw [h]
  exact gcMR_lst rfl
theorem g_draw {j k : Nat} {S0 S : Store} (m : Int) (h : PlS j k S0 S) (hk : k ≤ 1000000) (hm : 0 < m) (hm2 : m < 2 ^ 100) : ∃ v S', F__law_draw [.obj j, .int m] S = some (.ok (.int v) S') ∧ 0 ≤ v ∧ v < m ∧ PlS j (k + 1) S0 S' := by
  have h0 := h
  obtain ⟨d, ⟨a, b, c, ha, hb, hbk, hc, hc2, rfl⟩, hj, rfl⟩ := h
  obtain ⟨v, S', hB, hv0, hv1, hP⟩ : ∃ v S', bodyF 6 fsF__law_draw [.obj j, .int m] (S0.set j (.lst [.int a, .int b, .int c])) = some (.ok (.int v) S') ∧ 0 ≤ v ∧ v < m ∧ PlS j (k + 1) S0 S' := by
    have e0 : atI [Dv.int a, Dv.int (b + 1), Dv.int c] 0 = some (.int a) := rfl
    have e1 : atI [Dv.int a, Dv.int (b + 1), Dv.int c] 1 = some (.int (b + 1)) := rfl
    have e2 : atI [Dv.int a, Dv.int (b + 1), Dv.int c] 2 = some (.int c) := rfl
    have f1 : atI [Dv.int a, Dv.int b, Dv.int c] 1 = some (.int b) := rfl
    have x0 : ixN 3 0 = some 0 := rfl
    have x1 : ixN 3 1 = some 1 := rfl
    by_cases z : 0 < a
    · refine ⟨a % m, S0.set j (.lst [.int (a / m), .int (b + 1), .int c]), ?_, Int.emod_nonneg _ (by omega), Int.emod_lt_of_pos _ hm, _, ⟨a / m, b + 1, c, Int.ediv_nonneg ha (by omega), by omega, by omega, hc, hc2, rfl⟩, hj, rfl⟩
      have hd : ∀ S, oDiv (.int a) (.int m) S = _ := fun S => oDiv_i hm (log2_lt (k := 100) (by omega) (by decide) (by decide))
      simp [fsF__law_draw, e0, e1, e2, f1, x0, x1, z, hm, hd, hj]
    · generalize hS : (S0.set j (Dv.lst [Dv.int a, Dv.int (b + 1), Dv.int c]) : Store) = S1
      have g0 : S1[j]? = some (Dv.lst [Dv.int a, Dv.int (b + 1), Dv.int c]) := by rw [← hS]; simp [hj]
      have m1 : oMul (.int c) (.int 7919) S1 = _ := oMul_b hc (by omega) (by decide) (by decide)
      have m2 : oMul (.int (b + 1)) (.int 104729) S1 = _ := oMul_b (by omega) (by omega) (by decide) (by decide)
      have m3 : oMul (.int (b + 1)) (.int 31) S1 = _ := oMul_b (by omega) (by omega) (by decide) (by decide)
      have m4 : oMul (.int (b + 1)) (.int (b + 1)) S1 = _ := oMul_b (by omega) (by omega) (by omega) (by omega)
      have d1 : ∀ i, oDiv (.int i) (.int 1000) S1 = _ := fun i => oDiv_b (by decide) (by decide)
      have d2 : ∀ i, oDiv (.int i) (.int 1009) S1 = _ := fun i => oDiv_b (by decide) (by decide)
      have d3 : ∀ i, oDiv (.int i) (.int 7) S1 = _ := fun i => oDiv_b (by decide) (by decide)
      generalize hx : (c * 7919 + (b + 1) * 104729 + 12345) % 1000003 = x
      have hx0 : 0 ≤ x ∧ x < 1000003 := by omega
      have m5 : oMul (.int x) (.int x) S1 = _ := oMul_b hx0.1 (by omega) hx0.1 (by omega)
      generalize hy : (x * x + (b + 1) * 31 + c / 1000 + 7) % 998244353 = y
      have hy0 : 0 ≤ y ∧ y < 998244353 := by rw [← hy]; exact ⟨Int.emod_nonneg _ (by decide), Int.emod_lt_of_pos _ (by decide)⟩
      have m6 : oMul (.int y) (.int 48271) S1 = _ := oMul_b hy0.1 (by omega) (by decide) (by decide)
      refine ⟨(y * 48271 + y / 1009 + (b + 1) * (b + 1)) % 2147483647 / 7 % m, S1, ?_, Int.emod_nonneg _ (by omega), Int.emod_lt_of_pos _ hm, _, ⟨a, b + 1, c, ha, by omega, by omega, hc, hc2, rfl⟩, hj, hS.symm⟩
      simp [fsF__law_draw, e0, e1, e2, f1, x0, x1, z, hm, hS, g0, m1, m2, m3, m4, hx, m5, d1, hy, m6, d2, d3, hj]
  refine ⟨v, S', ?_, hv0, hv1, hP⟩
  show gcR _ (bodyF 6 fsF__law_draw _ _) = _
  rw [hB]
  exact gcR_okS (hP.st _ h0) (by rw [hP.len]; simp) rfl
/-! ### draws, from the front -/
theorem w_draw {S0 L : Store} {d : Dv} {j k : Nat} {m : Int} {Q : Rs Dv → Prop} (hj : j < S0.length) (hp : Pool k d) (hk : k ≤ 1000000) (hm : 0 < m) (hm2 : m < 2 ^ 100) (h : ∀ (v : Int) (d' : Dv), 0 ≤ v → v < m → Pool (k + 1) d' → Q (.ok (.int v) (stP S0 j d' L))) : We (F__law_draw [.obj j, .int m] (stP S0 j d L)) Q := by
  have P0 : PlS j k (S0 ++ L) (stP S0 j d L) := ⟨d, hp, by simp; omega, by unfold stP; rw [List.set_append_left _ _ hj]⟩
  obtain ⟨v, S', e, v0, v1, d', hp', _, rfl⟩ := g_draw m P0 hk hm hm2
  refine We_ok e ?_
  rw [show (S0 ++ L).set j d' = stP S0 j d' L by unfold stP; rw [List.set_append_left _ _ hj]]
  exact h v d' v0 v1 hp'
theorem Pool.okO {k n : Nat} {d : Dv} (h : Pool k d) : okO n d = true := by
  obtain ⟨a, b, c, _, _, _, _, _, rfl⟩ := h
  rfl
theorem stP_ok {S0 L G : Store} {j k : Nat} {d d' : Dv} (h : Pool k d') : StOk (stP S0 j d L) (stP S0 j d' (L ++ G)) := by
  refine ⟨by simp, fun i x hi hx => ?_⟩
  by_cases z : j < S0.length
  · by_cases y : i < S0.length
    · by_cases u : j = i
      · subst u
        rw [stP_self z] at hx
        cases hx
        exact .inr h.okO
      · rw [stP_old y u] at hx
        exact .inl (by rw [stP_old y u]; exact hx)
    · obtain ⟨q, rfl⟩ : ∃ q, i = S0.length + q := ⟨i - S0.length, by omega⟩
      rw [stP_get] at hx
      simp at hi
      rw [List.getElem?_append_left hi] at hx
      exact .inl (by rw [stP_get]; exact hx)
  · unfold stP at *
    rw [List.set_eq_of_length_le (by omega)] at *
    rw [← List.append_assoc] at hx
    exact .inl (by rwa [List.getElem?_append_left hi] at hx)
theorem gcR_P {S0 L G : Store} {j k : Nat} {d d' v : Dv} (h : Pool k d') (hv : okO (S0.length + L.length) v = true) : gcR (stP S0 j d L) (some (.ok v (stP S0 j d' (L ++ G)))) = some (.ok v (stP S0 j d' L)) := by
  unfold gcR
  simp only [if_pos (stP_ok (S0 := S0) (L := L) (G := G) (j := j) (d := d) h), fzd_ok0 (show okO (stP S0 j d L).length v = true by simpa using hv)]
  rw [show stP S0 j d' (L ++ G) = stP S0 j d' L ++ G by simp, List.take_append_of_le_length (by simp), List.take_of_length_le (by simp)]
/-- a def that draws -/
def PD (S0 : Store) (j : Nat) (L : List Dv) (Q : Rs Dv → Prop) (r : Rs Dv) : Prop := ∃ v d' k G, r = .ok v (stP S0 j d' (L ++ G)) ∧ Pool k d' ∧ okO (S0.length + L.length) v = true ∧ Q (.ok v (stP S0 j d' L))
theorem PD_end {S0 : Store} {j k : Nat} {L : List Dv} {Q : Rs Dv → Prop} {v d : Dv} (G : List Dv) (hp : Pool k d) (hv : okO (S0.length + L.length) v = true) (hQ : Q (.ok v (stP S0 j d L))) : PD S0 j L Q (.ok v (stP S0 j d (L ++ G))) := ⟨v, d, k, G, rfl, hp, hv, hQ⟩
theorem PD_end0 {S0 : Store} {j k : Nat} {L : List Dv} {Q : Rs Dv → Prop} {v d : Dv} (hp : Pool k d) (hv : okO (S0.length + L.length) v = true) (hQ : Q (.ok v (stP S0 j d L))) : PD S0 j L Q (.ok v (stP S0 j d L)) := ⟨v, d, k, [], by simp, hp, hv, hQ⟩
theorem w_defD {n : Nat} {fs : FS} {ds : List Dv} {S0 L : Store} {j : Nat} {d : Dv} {Q : Rs Dv → Prop} (h : Ws (fs (ds.map some ++ List.replicate (n - ds.length) none) (stP S0 j d L)) (bdK (PD S0 j L Q))) : We (gcD (bodyF n fs) ds (stP S0 j d L)) Q := by
  rw [← w_body] at h
  obtain ⟨_, h, v, d', k, G, rfl, h1, h2, h3⟩ := h
  refine We_ok ?_ h3
  show gcR _ (bodyF n fs ds _) = _
  rw [h]
  exact gcR_P h1 h2
/-- .. whose answer is a list made on the way -/
def PL (S0 : Store) (j : Nat) (L : List Dv) (Q : Rs Dv → Prop) (r : Rs Dv) : Prop := ∃ xs d' k i G, r = .ok (.obj (S0.length + (L.length + i))) (stP S0 j d' (L ++ G)) ∧ G[i]? = some (.lst xs) ∧ Pool k d' ∧ okOs (S0.length + L.length) xs = true ∧ Q (.ok (.lst xs) (stP S0 j d' L))
theorem PL_end {S0 : Store} {j k : Nat} {L : List Dv} {Q : Rs Dv → Prop} {d : Dv} {xs : List Dv} (i : Nat) (G : List Dv) (hi : G[i]? = some (.lst xs)) (hp : Pool k d) (hv : okOs (S0.length + L.length) xs = true) (hQ : Q (.ok (.lst xs) (stP S0 j d L))) : PL S0 j L Q (.ok (.obj (S0.length + (L.length + i))) (stP S0 j d (L ++ G))) := ⟨xs, d, k, i, G, rfl, hi, hp, hv, hQ⟩
theorem PL_end0 {S0 : Store} {j k : Nat} {L : List Dv} {Q : Rs Dv → Prop} {d : Dv} {xs : List Dv} (G : List Dv) (hp : Pool k d) (hv : okOs (S0.length + L.length) xs = true) (hQ : Q (.ok (.lst xs) (stP S0 j d L))) : PL S0 j L Q (.ok (.obj (S0.length + L.length)) (stP S0 j d (L ++ .lst xs :: G))) := PL_end 0 _ rfl hp hv hQ
theorem w_defDL {n : Nat} {fs : FS} {ds : List Dv} {S0 L : Store} {j : Nat} {d : Dv} {Q : Rs Dv → Prop} (h : Ws (fs (ds.map some ++ List.replicate (n - ds.length) none) (stP S0 j d L)) (bdK (PL S0 j L Q))) : We (gcD (bodyF n fs) ds (stP S0 j d L)) Q := by
  rw [← w_body] at h
  obtain ⟨_, h, xs, d', k, i, G, rfl, h0, h1, h2, h3⟩ := h
  refine We_ok ?_ h3
  show gcR _ (bodyF n fs ds _) = _
  rw [h]
  unfold gcR
  have e1 : fzd (stP S0 j d L).length (stP S0 j d' (L ++ G)) 6 (.obj (S0.length + (L.length + i))) = some (.lst xs) := by
    refine fzd_obj (by simp) ?_ (fzs_ok0 (by simpa using h2))
    rw [stP_get, app_get, h0]
  simp only [if_pos (stP_ok (S0 := S0) (L := L) (G := G) (j := j) (d := d) h1), e1]
  rw [show stP S0 j d' (L ++ G) = stP S0 j d' L ++ G by simp, List.take_append_of_le_length (by simp), List.take_of_length_le (by simp)]
end FCL

set_option Elab.async false
set_option linter.all false
set_option maxRecDepth 100000
set_option maxHeartbeats 4000000
namespace FCL
open PySem PySem.Spec L2 FC
/-! ### words of stretches -/
abbrev Wrd := List (Int × Int)
def wD (w : Wrd) : Dv := .tup (w.map encP)
def stR (w : Wrd) (x : Int) : Wrd := match w.getLast? with
  | some p => if p.1 = x then w.dropLast ++ [(x, p.2 + 1)] else w ++ [(x, 1)]
  | none => w ++ [(x, 1)]
def rle (l : List Int) : Wrd := l.foldl stR []
def expand (w : Wrd) : List Int := w.flatMap fun p => List.replicate p.2.toNat p.1
/-- no letter twice in a row -/
def Adj (w : Wrd) : Prop := ∀ (i : Nat) (p q : Int × Int), w[i]? = some p → w[i + 1]? = some q → p.1 ≠ q.1
structure RleOk (w : Wrd) (l : List Int) : Prop where
  ex : expand w = l
  pos : ∀ p ∈ w, 1 ≤ p.2
  adj : Adj w
  mem : ∀ p ∈ w, p.1 ∈ l
  sum : (w.map Prod.snd).sum = (l.length : Int)
  len : w.length ≤ l.length
theorem stR_nil (x : Int) : stR [] x = [(x, 1)] := rfl
theorem stR_app (u : Wrd) (p : Int × Int) (x : Int) : stR (u ++ [p]) x = if p.1 = x then u ++ [(x, p.2 + 1)] else u ++ [p] ++ [(x, 1)] := by
  unfold stR
  simp
theorem expand_app (u v : Wrd) : expand (u ++ v) = expand u ++ expand v := by simp [expand]
theorem adj_app {u : Wrd} {p q : Int × Int} (h : Adj (u ++ [p])) (hn : p.1 ≠ q.1) : Adj (u ++ [p] ++ [q]) := by
  intro i a b h1 h2
  by_cases z : i + 1 < (u ++ [p]).length
  · rw [List.getElem?_append_left (by omega)] at h1
    rw [List.getElem?_append_left z] at h2
    exact h i a b h1 h2
  · have hl := (List.getElem?_eq_some_iff.1 h2).1
    simp at hl z
    have e : i = u.length := by omega
    subst e
    simp at h1 h2
    subst h1 h2
    exact hn
theorem adj_last {u : Wrd} {p q : Int × Int} (h : Adj (u ++ [p])) (he : p.1 = q.1) : Adj (u ++ [q]) := by
  intro i a b h1 h2
  have hl := (List.getElem?_eq_some_iff.1 h2).1
  simp at hl
  rw [List.getElem?_append_left (by omega)] at h1
  by_cases z : i + 1 < u.length
  · rw [List.getElem?_append_left z] at h2
    exact h i a b (by rw [List.getElem?_append_left (by omega)]; exact h1) (by rw [List.getElem?_append_left z]; exact h2)
  · have e : i + 1 = u.length := by omega
    rw [e] at h2
    simp at h2
    subst h2
    have := h i a p (by rw [List.getElem?_append_left (by omega)]; exact h1) (by rw [e]; simp)
    rwa [he] at this
theorem rle_step {w : Wrd} {l : List Int} (x : Int) (h : RleOk w l) : RleOk (stR w x) (l ++ [x]) := by
  obtain ⟨h1, h2, h3, h4, h5, h6⟩ := h
  obtain rfl | ⟨u, p, rfl⟩ := List.eq_nil_or_concat w
  · rw [stR_nil]
    have hl : l = [] := by rw [← h1]; rfl
    subst hl
    exact ⟨by simp [expand], by simp, by intro i a b q1 q2; simp at q2, by simp, by simp, by simp⟩
  · rw [List.concat_eq_append] at *
    rw [stR_app]
    by_cases z : p.1 = x
    · rw [if_pos z]
      have hp := h2 p (by simp)
      refine ⟨?_, fun q hq => ?_, adj_last h3 z, fun q hq => ?_, ?_, ?_⟩
      · rw [← h1, expand_app, expand_app, List.append_assoc]
        congr 1
        simp [expand, z]
        rw [show (p.2 + 1).toNat = p.2.toNat + 1 by omega, List.replicate_succ']
      · rcases List.mem_append.1 hq with hq | hq
        · exact h2 q (by simp [hq])
        · simp at hq; subst hq; show 1 ≤ p.2 + 1; omega
      · rcases List.mem_append.1 hq with hq | hq
        · exact List.mem_append_left _ (h4 q (by simp [hq]))
        · simp at hq; subst hq; simp
      · simp at h5 ⊢
        omega
      · simp at h6 ⊢
        omega
    · rw [if_neg z]
      refine ⟨?_, fun q hq => ?_, adj_app h3 z, fun q hq => ?_, ?_, ?_⟩
      · rw [expand_app, h1]; simp [expand]
      · rcases List.mem_append.1 hq with hq | hq
        · exact h2 q hq
        · simp at hq; subst hq; exact Int.le_refl 1
      · rcases List.mem_append.1 hq with hq | hq
        · exact List.mem_append_left _ (h4 q hq)
        · simp at hq; subst hq; simp
      · simp at h5 ⊢
        omega
      · simp at h6 ⊢
        omega
theorem rle_ok (l : List Int) : RleOk (rle l) l := by
  have : ∀ (r : List Int) (w : Wrd) (l : List Int), RleOk w l → RleOk (r.foldl stR w) (l ++ r) := by
    intro r
    induction r with
    | nil => intro w l h; simpa using h
    | cons x r ih =>
      intro w l h
      have := ih (stR w x) (l ++ [x]) (rle_step x h)
      simpa using this
  have := this l [] [] ⟨rfl, by simp, by intro i a b q1 q2; simp at q2, by simp, by simp, by simp⟩
  rw [List.nil_append] at this
  exact this
/-! ### .. as the program makes them -/
theorem atI_last {α : Type} (u : List α) (p : α) : atI (u ++ [p]) (-1) = some p := by
  unfold atI ixN
  rw [if_neg (by decide), if_pos (by simp; omega)]
  simp
  rw [show (-1 + ((u.length : Int) + 1)).toNat = u.length by omega]
  simp
theorem ixN_last (n : Nat) : ixN (n + 1) (-1) = some n := by
  unfold ixN
  simp
  omega
theorem okOs_encP {n : Nat} (w : Wrd) : okOs n (w.map encP) = true := okOs_map (fun _ => rfl) w
/-! ### words of stretches: longer, shorter -/
@[simp] theorem ten9 {S : Store} : oPow (.int 10) (.int 9) S = some (.ok (.int 1000000000) S) := oPow_i (by decide) (by decide) (by decide)
def ln (w : Wrd) : Int := (w.map Prod.snd).sum
def longer (w : Wrd) (x m : Int) : Wrd := if m = 0 then w else match w.getLast? with
  | some p => if p.1 = x then w.dropLast ++ [(x, p.2 + m)] else w ++ [(x, m)]
  | none => w ++ [(x, m)]
def shorter (w : Wrd) : Wrd := match w.getLast? with
  | some p => if p.2 = 1 then w.dropLast else w.dropLast ++ [(p.1, p.2 - 1)]
  | none => w
theorem longer_nil (x m : Int) (h : m ≠ 0) : longer [] x m = [(x, m)] := if_neg h
theorem longer_app (u : Wrd) (p : Int × Int) (x m : Int) (h : m ≠ 0) : longer (u ++ [p]) x m = if p.1 = x then u ++ [(x, p.2 + m)] else u ++ [p] ++ [(x, m)] := by
  unfold longer
  rw [if_neg h]
  simp
theorem shorter_app (u : Wrd) (p : Int × Int) : shorter (u ++ [p]) = if p.2 = 1 then u else u ++ [(p.1, p.2 - 1)] := by
  unfold shorter
  simp
structure WG (w : Wrd) (k : Int) : Prop where
  kind : ∀ p ∈ w, 0 ≤ p.1 ∧ p.1 < 3 ∧ p.1 ≠ k
  pos : ∀ p ∈ w, 1 ≤ p.2
  adj : Adj w
@[simp] theorem ln_app (u v : Wrd) : ln (u ++ v) = ln u + ln v := by simp [ln]
@[simp] theorem ln_one (x m : Int) : ln [(x, m)] = m := by simp [ln]
@[simp] theorem ln_nil : ln [] = 0 := rfl
theorem ln_cons (p : Int × Int) (w : Wrd) : ln (p :: w) = p.2 + ln w := by simp [ln]
theorem ln_nn {w : Wrd} (h : ∀ p ∈ w, 1 ≤ p.2) : (w.length : Int) ≤ ln w := by
  induction w with
  | nil => simp
  | cons p w ih =>
    have h1 := h p List.mem_cons_self
    have h2 := ih fun q hq => h q (List.mem_cons_of_mem _ hq)
    rw [ln_cons]
    simp
    omega
theorem Adj.head {u : Wrd} {p : Int × Int} (h : Adj (u ++ [p])) : Adj u := fun i a b h1 h2 => by
  have := (List.getElem?_eq_some_iff.1 h2).1
  exact h i a b (by rw [List.getElem?_append_left (by omega)]; exact h1) (by rw [List.getElem?_append_left this]; exact h2)
theorem WG.nil {k : Int} : WG [] k := ⟨by simp, by simp, by intro i a b q1 q2; simp at q2⟩
theorem longer_ok {w : Wrd} {k x m : Int} (h : WG w k) (hx : 0 ≤ x ∧ x < 3 ∧ x ≠ k) (hm : 0 ≤ m) : WG (longer w x m) k ∧ ln (longer w x m) = ln w + m ∧ (longer w x m).length ≤ w.length + 1 ∧ w.length ≤ (longer w x m).length := by
  by_cases z : m = 0
  · subst z
    have e : longer w x 0 = w := if_pos rfl
    rw [e]
    exact ⟨h, by omega, by omega, by omega⟩
  · obtain rfl | ⟨u, p, rfl⟩ := List.eq_nil_or_concat w
    · rw [longer_nil x m z]
      exact ⟨⟨by simpa using hx, by simp; omega, by intro i a b q1 q2; simp at q2⟩, by simp, by simp, by simp⟩
    · rw [List.concat_eq_append] at *
      rw [longer_app _ _ _ _ z]
      obtain ⟨h1, h2, h3⟩ := h
      have hp := h2 p (by simp)
      by_cases y : p.1 = x
      · rw [if_pos y]
        refine ⟨⟨fun q hq => ?_, fun q hq => ?_, adj_last h3 y⟩, ?_, by simp, by simp⟩
        · rcases List.mem_append.1 hq with hq | hq
          · exact h1 q (by simp [hq])
          · simp at hq; subst hq; exact hx
        · rcases List.mem_append.1 hq with hq | hq
          · exact h2 q (by simp [hq])
          · simp at hq; subst hq; show 1 ≤ p.2 + m; omega
        · obtain ⟨a, n⟩ := p
          simp; omega
      · rw [if_neg y]
        refine ⟨⟨fun q hq => ?_, fun q hq => ?_, adj_app h3 y⟩, ?_, by simp, by simp⟩
        · rcases List.mem_append.1 hq with hq | hq
          · exact h1 q hq
          · simp at hq; subst hq; exact hx
        · rcases List.mem_append.1 hq with hq | hq
          · exact h2 q hq
          · simp at hq; subst hq; show 1 ≤ m; omega
        · rw [ln_app, ln_one]
theorem shorter_ok {w : Wrd} {k : Int} (h : WG w k) (hn : w ≠ []) : WG (shorter w) k ∧ ln (shorter w) = ln w - 1 ∧ (shorter w).length ≤ w.length := by
  obtain rfl | ⟨u, p, rfl⟩ := List.eq_nil_or_concat w
  · exact absurd rfl hn
  · rw [List.concat_eq_append] at *
    rw [shorter_app]
    obtain ⟨h1, h2, h3⟩ := h
    have hp := h2 p (by simp)
    obtain ⟨a, n⟩ := p
    by_cases y : n = 1
    · rw [if_pos y]
      refine ⟨⟨fun q hq => h1 q (by simp [hq]), fun q hq => h2 q (by simp [hq]), h3.head⟩, by simp [y], by simp⟩
    · rw [if_neg y]
      refine ⟨⟨fun q hq => ?_, fun q hq => ?_, adj_last h3 rfl⟩, by simp; omega, by simp⟩
      · rcases List.mem_append.1 hq with hq | hq
        · exact h1 q (by simp [hq])
        · simp at hq; subst hq; exact h1 (a, n) (by simp)
      · rcases List.mem_append.1 hq with hq | hq
        · exact h2 q (by simp [hq])
        · simp at hq; subst hq; show 1 ≤ n - 1; simp at hp; omega
@[simp] theorem okO_wD {n : Nat} {w : Wrd} : okO n (wD w) = true := by unfold wD; rw [okO_tup]; exact okOs_encP w
@[simp ↓] theorem seqOf_wD {w : Wrd} {S : Store} : seqOf (wD w) S = some (w.map encP) := rfl
@[simp ↓] theorem frozen_wD {w : Wrd} : frozen (wD w) = some (w.map encP) := rfl
theorem sl_init (u : List Dv) (p : Dv) (S : Store) : oSl false (.tup (u ++ [p])) none (some (-1)) S = some (.ok (.tup u) S) := by
  have n0 : HT.sIx (u.length + 1) 0 none = 0 := rfl
  have n2 : HT.sIx (u.length + 1) (u.length + 1) (some (-1)) = u.length := by
    unfold HT.sIx
    simp
    omega
  simp [oSl, cutD, n0, n2]
/-! ### words drawn -/
theorem z_long (w : Wrd) (S : Store) (hw : w.length ≤ 1000) : F__law_long [wD w] S = some (.ok (.int (ln w)) S) := by
  refine w_defP ?_ rfl
  unfold fsF__law_long wD
  simp -dsimp
  refine w_lcm encP (fun p => .int p.2) w (by omega) (fun p _ => by simp [encP]) ?_
  have e : w.map (fun p : Int × Int => Dv.int p.2) = (w.map Prod.snd).map Dv.int := by simp
  rw [e]
  unfold ln
  generalize w.map Prod.snd = l at *
  simp -dsimp
def K3 (k : Int) : Prop := k = 0 ∨ k = 1 ∨ k = 2
theorem K3.o1 {k : Int} (h : K3 k) (v : Int) (h0 : 0 ≤ v) (h1 : v < 2) : 0 ≤ (k + 1 + v) % 3 ∧ (k + 1 + v) % 3 < 3 ∧ (k + 1 + v) % 3 ≠ k := by
  rcases h with rfl | rfl | rfl <;> omega
theorem K3.o2 {k x : Int} (h : K3 k) (hx : 0 ≤ x ∧ x < 3 ∧ x ≠ k) : 0 ≤ 3 - k - x ∧ 3 - k - x < 3 ∧ 3 - k - x ≠ k := by
  rcases h with rfl | rfl | rfl <;> omega
/-! ### three words -/
abbrev W3 := Int → Wrd
def wsD (u : W3) : Dv := .tup [wD (u 0), wD (u 1), wD (u 2)]
def put (u : W3) (k : Int) (w : Wrd) : W3 := fun i => if i = k then w else u i
def tot (u : W3) : Int := ln (u 0) + (ln (u 1) + ln (u 2))
/-- words of at most m stretches -/
structure WOk (u : W3) (m : Nat) : Prop where
  g : ∀ k, K3 k → WG (u k) k
  l : ∀ k, K3 k → (u k).length ≤ m
theorem WOk.mono {u : W3} {m n : Nat} (h : WOk u m) (hm : m ≤ n) : WOk u n := ⟨h.g, fun k hk => Nat.le_trans (h.l k hk) hm⟩
theorem WOk.put {u : W3} {m n : Nat} {k : Int} {w : Wrd} (h : WOk u m) (hm : m ≤ n) (hw : WG w k) (hl : w.length ≤ n) : WOk (put u k w) n := ⟨fun i hi => by
  unfold FCL.put
  by_cases z : i = k
  · rw [if_pos z, z]; exact hw
  · rw [if_neg z]; exact h.g i hi, fun i hi => by
  unfold FCL.put
  by_cases z : i = k
  · rw [if_pos z]; exact hl
  · rw [if_neg z]; exact Nat.le_trans (h.l i hi) hm⟩
theorem tot_put {u : W3} {k : Int} {w : Wrd} (hk : K3 k) : tot (put u k w) = tot u - ln (u k) + ln w := by
  rcases hk with rfl | rfl | rfl <;> simp [tot, put] <;> omega
theorem tot_nn {u : W3} {m : Nat} (h : WOk u m) : 0 ≤ ln (u 0) ∧ 0 ≤ ln (u 1) ∧ 0 ≤ ln (u 2) := by
  have h0 := ln_nn (h.g 0 (.inl rfl)).pos
  have h1 := ln_nn (h.g 1 (.inr (.inl rfl))).pos
  have h2 := ln_nn (h.g 2 (.inr (.inr rfl))).pos
  omega
theorem at_ws {u : W3} {k : Int} (hk : K3 k) : atI [wD (u 0), wD (u 1), wD (u 2)] k = some (wD (u k)) := by
  rcases hk with rfl | rfl | rfl <;> rfl
theorem K3.ix {k : Int} (hk : K3 k) : ixN 3 k = some k.toNat := by
  rcases hk with rfl | rfl | rfl <;> rfl
theorem set_ws {u : W3} {k : Int} {w : Wrd} (hk : K3 k) : [wD (u 0), wD (u 1), wD (u 2)].set k.toNat (wD w) = [wD (put u k w 0), wD (put u k w 1), wD (put u k w 2)] := by
  rcases hk with rfl | rfl | rfl <;> rfl
theorem K3.of {k : Int} (h0 : 0 ≤ k) (h1 : k < 3) : K3 k := by unfold K3; omega
@[simp] theorem okO_wsD {n : Nat} {u : W3} : okO n (wsD u) = true := by unfold wsD; simp
theorem w_great {S0 L : Store} {d : Dv} {j k : Nat} {Q : Rs Dv → Prop} (hj : j < S0.length) (hp : Pool k d) (hk : k ≤ 100000) (h : ∀ (v : Int) (d' : Dv), 0 ≤ v → v < 100000000000000000000 → Pool (k + 2) d' → Q (.ok (.int v) (stP S0 j d' L))) : We (F__law_great [.obj j] (stP S0 j d L)) Q := by
  have ten10 : ∀ S : Store, oPow (.int 10) (.int 10) S = some (.ok (.int 10000000000) S) := fun S => oPow_i (by decide) (by decide) (by decide)
  refine w_defD (j := j) ?_
  unfold fsF__law_great
  simp -dsimp [ten10]
  refine w_draw hj hp (by omega) (by decide) (by decide) fun v d1 v0 v1 p1 => ?_
  have m1 : ∀ S, oMul (.int v) (.int 10000000000) S = _ := fun S => oMul_b v0 (by omega) (by decide) (by decide)
  simp -dsimp [m1, ten10]
  refine w_draw hj p1 (by omega) (by decide) (by decide) fun v2 d2 u0 u1 p2 => ?_
  simp -dsimp
  exact PD_end0 p2 rfl (h _ _ (by omega) (by omega) p2)
/-- the two other kinds by turns -/
def altn (x : Int) (i : Int) : Int := if i % 2 = 0 then (if x = 0 then 1 else 0) else (if x = 2 then 1 else 2)
theorem K3.altk {x : Int} (h : K3 x) (i : Int) : 0 ≤ altn x i ∧ altn x i < 3 ∧ altn x i ≠ x := by
  unfold FCL.altn
  rcases h with rfl | rfl | rfl <;> by_cases z : i % 2 = 0 <;> simp [z]
theorem K3.alt_ne {x : Int} (h : K3 x) (i : Int) : altn x i ≠ altn x (i + 1) := by
  unfold FCL.altn
  by_cases z : i % 2 = 0
  · rw [if_pos z, if_neg (show ¬ (i + 1) % 2 = 0 by omega)]
    rcases h with rfl | rfl | rfl <;> decide
  · rw [if_neg z, if_pos (show (i + 1) % 2 = 0 by omega)]
    rcases h with rfl | rfl | rfl <;> decide
theorem oth_alt {x : Int} (h : K3 x) : (([0, 1, 2] : List Int).filter fun y => !decide (y = x)).map Dv.int = [.int (altn x 0), .int (altn x 1)] := by
  rcases h with rfl | rfl | rfl <;> rfl
theorem at_alt (x i : Int) : atI [Dv.int (altn x 0), Dv.int (altn x 1)] (i % 2) = some (.int (altn x i)) := by
  by_cases z : i % 2 = 0
  · rw [z, at2_0]
    unfold altn
    rw [if_pos z, if_pos (by decide)]
  · rw [show i % 2 = 1 by omega, at2_1]
    unfold altn
    rw [if_neg z, if_neg (by decide)]
theorem longer_ne {w : Wrd} {x m : Int} (hm : m ≠ 0) (h : ∀ p, w.getLast? = some p → p.1 ≠ x) : longer w x m = w ++ [(x, m)] := by
  unfold longer
  rw [if_neg hm]
  cases hw : w.getLast? with
  | none => rfl
  | some p => simp only; rw [if_neg (h p hw)]
theorem w_word {S0 L : Store} {d : Dv} {j k : Nat} {x n : Int} {pl : Bool} {Q : Rs Dv → Prop} (hj : j < S0.length) (hp : Pool k d) (hk : k ≤ 10000) (hx : K3 x) (hn : 0 ≤ n) (hn2 : n ≤ 10 ^ 18) (h : ∀ (w : Wrd) (d' : Dv), WG w x → ln w ≤ n → w.length ≤ 198 → Pool (k + 2000) d' → Q (.ok (wD w) (stP S0 j d' L))) : We (F__law_drawn_word [.obj j, .int x, .int n, .bl pl] (stP S0 j d L)) Q := by
  have ten15 : ∀ S : Store, oPow (.int 10) (.int 15) S = some (.ok (.int 1000000000000000) S) := fun S => oPow_i (by decide) (by decide) (by decide)
  refine w_defD (j := j) ?_
  unfold fsF__law_drawn_word
  simp -dsimp [-FC.w_comp_cons]
  refine w_lc Dv.int (fun y => !decide (y = x)) Dv.int [0, 1, 2] (by simp) (fun y hy => ?_) ?_
  · simp -dsimp
  rw [oth_alt hx]
  simp -dsimp
  refine w_draw hj hp (by omega) (by decide) (by decide) fun c d1 v0 v1 p1 => ?_
  simp -dsimp
  refine w_draw hj p1 (by omega) (by decide) (by decide) fun t d2 t0 t1 p2 => ?_
  simp -dsimp
  refine Br_mid (fun y => ∃ c d3, y = .nx [some (.obj j), some (.int x), some (.int n), some (.bl pl), some (.lst [.int (altn x 0), .int (altn x 1)]), some (.int c), none, none, none, none, none, none] (stP S0 j d3 L) ∧ 0 ≤ c ∧ c ≤ 198 ∧ Pool (k + 3) d3) (fun _ => ?_) (fun _ => ?_) ?_
  · simp -dsimp
    refine w_draw hj p2 (by omega) (by decide) (by decide) fun c d3 c0 c1 p3 => ?_
    simp -dsimp
    exact Hd_i ⟨_, _, rfl, c0, by omega, p3⟩
  · simp -dsimp
    exact Hd_i ⟨_, _, rfl, v0, by omega, p2.mono (by omega)⟩
  rintro _ ⟨c, d3, rfl, c0, c1, p3⟩
  simp -dsimp
  refine w_draw hj p3 (by omega) (by decide) (by decide) fun u d4 u0 u1 p4 => ?_
  have r1 : ∀ S, rng1 [.int c] S = some (.ok ((upTo 0 c.toNat).map .int) S) := fun S => rng1_e (rngOk_of c0 (by omega))
  simp -dsimp [r1]
  have hcl : ((upTo 0 c.toNat).map Dv.int).length = c.toNat := by simp [upTo_range]
  refine w_for (fun i env S => ∃ w d' m, env = [some (.obj j), some (.int x), some (.int n), some (.bl pl), some (.lst [.int (altn x 0), .int (altn x 1)]), some (.int c), some (.int u), some (.obj (S0.length + L.length)), some (.int m), none, none, none] ∧ S = stP S0 j d' (L ++ [.lst (w.map encP)]) ∧ m = n - ln w ∧ 0 ≤ m ∧ WG w x ∧ w.length ≤ i ∧ (0 < m → ∀ p, w.getLast? = some p → p.1 ≠ altn x (u + i)) ∧ Pool (k + 4 + 8 * i) d') ⟨[], d4, n, rfl, rfl, by simp, hn, WG.nil, by simp, by simp, p4⟩ ?_ ?_
  · rintro i y _ _ hi ⟨w, d5, m, rfl, rfl, hm, m0, hw, hlen, hlast, p5⟩
    have hi2 := (List.getElem?_eq_some_iff.1 hi).1
    rw [hcl] at hi2
    obtain rfl : y = .int i := by
      rw [List.getElem?_map, Option.map_eq_some_iff] at hi
      obtain ⟨q, hq, rfl⟩ := hi
      rw [upTo_range, List.getElem?_map, Option.map_eq_some_iff] at hq
      obtain ⟨r, hr, rfl⟩ := hq
      rw [List.getElem?_range (by omega)] at hr
      cases hr
      rfl
    unfold LF__law_drawn_word_1
    simp -dsimp
    refine w_draw hj p5 (by omega) (by decide) (by decide) fun a d6 a0 a1 p6 => ?_
    simp -dsimp
    refine Br_midE (fun r => ∃ b d7, r = .ok b (stP S0 j d7 (L ++ [.lst (w.map encP)])) ∧ Pool (k + 4 + 8 * i + 2) d7) (fun z => ?_) (fun z => ?_) ?_
    · simp -dsimp
      exact Hd_i ⟨_, d6, rfl, p6.mono (by omega)⟩
    · simp -dsimp
      refine w_draw hj p6 (by omega) (by decide) (by decide) fun b d7 b0 b1 p7 => ?_
      simp -dsimp
      exact Hd_i ⟨_, d7, rfl, p7⟩
    rintro _ ⟨b, d7, rfl, p7⟩
    simp -dsimp
    refine Br_mid (fun z => ∃ l d8, z = .nx [some (.obj j), some (.int x), some (.int n), some (.bl pl), some (.lst [.int (altn x 0), .int (altn x 1)]), some (.int c), some (.int u), some (.obj (S0.length + L.length)), some (.int m), some (.int i), some (.int l), none] (stP S0 j d8 (L ++ [.lst (w.map encP)])) ∧ 1 ≤ l ∧ Pool (k + 4 + 8 * i + 7) d8) (fun z => ?_) (fun z => ?_) ?_
    · simp -dsimp [ten15]
      refine w_great hj p7 (by omega) fun b d8 b0 b1 p8 => ?_
      simp -dsimp [ten15]
      refine w_draw hj p8 (by omega) (by decide) (by decide) fun b2 d9 b20 b21 p9 => ?_
      simp -dsimp
      refine Br_dec (fun z => ?_) (fun z => ?_)
      · simp -dsimp
        refine w_great hj p9 (by omega) fun b d8 b0 b1 p8 => ?_
        simp -dsimp
        exact Hd_i ⟨_, _, rfl, by omega, p8⟩
      · simp -dsimp
        exact Hd_i ⟨_, _, rfl, by omega, p9.mono (by omega)⟩
    · simp -dsimp
      exact Hd_i ⟨_, _, rfl, by omega, p7.mono (by omega)⟩
    rintro _ ⟨l, d8, rfl, hl, p8⟩
    simp -dsimp
    refine Br_dec (fun z => ?_) (fun z => ?_)
    · have lo := longer_ok (m := min l m) hw (hx.altk (u + i)) (by omega)
      rw [longer_ne (by omega) (hlast z)] at lo
      have hl2 : w.length ≤ 1000000 := by omega
      simp -dsimp [at_alt, hl2]
      refine Hi_i ⟨w ++ [(altn x (u + i), min l m)], _, _, rfl, by simp [encP], by omega, by omega, lo.1, by simp; omega, fun _ p hp => ?_, p8.mono (by omega)⟩
      simp at hp
      subst hp
      rw [show u + ((i + 1 : Nat) : Int) = u + i + 1 by omega]
      exact hx.alt_ne _
    · simp -dsimp
      exact Hi_i ⟨w, _, _, rfl, rfl, hm, m0, hw, by omega, fun h => absurd h z, p8.mono (by omega)⟩
  · rintro _ _ ⟨w, d5, m, rfl, rfl, hm, m0, hw, hlen, hlast, p5⟩
    rw [hcl] at hlen p5
    have hl2 : w.length ≤ 1000000 := by omega
    simp -dsimp [hl2]
    exact PD_end _ p5 (okO_wD (w := w)) (h w d5 hw (by omega) (by omega) (p5.mono (by omega)))
end FCL

set_option Elab.async false
set_option linter.all false
set_option maxRecDepth 100000
set_option maxHeartbeats 4000000
namespace FCL
open PySem PySem.Spec L2 FC
/-! ### words, crowds -/
theorem w_words {S0 L : Store} {d : Dv} {j k : Nat} {Q : Rs Dv → Prop} (hj : j < S0.length) (hp : Pool k d) (hk : k ≤ 1000) (h : ∀ (u : W3) (d' : Dv), WOk u 198 → 1 ≤ tot u → tot u ≤ 10 ^ 18 → Pool (k + 7000) d' → Q (.ok (wsD u) (stP S0 j d' L))) : We (F__law_words [.obj j] (stP S0 j d L)) Q := by
  refine w_defD (j := j) ?_
  unfold fsF__law_words
  simp -dsimp
  refine w_draw hj hp (by omega) (by decide) (by decide) fun pl d0 pl0 pl1 p0 => ?_
  simp -dsimp
  unfold LF__law_words_1
  simp -dsimp
  refine w_word hj p0 (by omega) (.inl rfl) (by decide) (by decide) fun w0 d0 g0 n0 l0 p0 => ?_
  simp -dsimp [z_long w0 _ (by omega)]
  have := ln_nn g0.pos
  refine w_word hj p0 (by omega) (.inr (.inl rfl)) (by omega) (by omega) fun w1 d1 g1 n1 l1 p1 => ?_
  simp -dsimp [z_long w1 _ (by omega)]
  have := ln_nn g1.pos
  refine w_word hj p1 (by omega) (.inr (.inr rfl)) (by omega) (by omega) fun w2 d2 g2 n2 l2 p2 => ?_
  simp -dsimp [z_long w2 _ (by omega)]
  have := ln_nn g2.pos
  refine Br_dec (fun z => ?_) (fun z => ?_)
  · let u : W3 := fun i => if i = 0 then [(1, 1)] else if i = 1 then w1 else w2
    have hg : WG [(1, 1)] 0 := ⟨by simp, by simp, by intro i a b q1 q2; simp at q2⟩
    have hu : WOk u 198 := ⟨fun i hi => by rcases hi with rfl | rfl | rfl <;> assumption, fun i hi => by
      rcases hi with rfl | rfl | rfl
      · show List.length [((1 : Int), (1 : Int))] ≤ 198; simp
      · exact l1
      · exact l2⟩
    have htot : tot u = 1 + (ln w1 + ln w2) := rfl
    simp -dsimp
    exact PD_end _ p2 (okO_wsD (u := u)) (h u d2 hu (by omega) (by omega) (p2.mono (by omega)))
  · let u : W3 := fun i => if i = 0 then w0 else if i = 1 then w1 else w2
    have hu : WOk u 198 := ⟨fun i hi => by rcases hi with rfl | rfl | rfl <;> assumption, fun i hi => by rcases hi with rfl | rfl | rfl <;> assumption⟩
    have htot : tot u = ln w0 + (ln w1 + ln w2) := rfl
    simp -dsimp
    exact PD_end _ p2 (okO_wsD (u := u)) (h u d2 hu (by omega) (by omega) (p2.mono (by omega)))
theorem sl_takeW {w : Wrd} {v : Int} {S : Store} (h0 : 0 ≤ v) (h1 : v < w.length) : oSl false (wD w) none (some (1 + v)) S = some (.ok (wD (w.take (1 + v).toNat)) S) := by
  have n0 : HT.sIx w.length 0 none = 0 := rfl
  have z1 : HT.sIx w.length w.length (some (1 + v)) = (1 + v).toNat := by
    rw [show (1 + v) = (((1 + v).toNat : Nat) : Int) by omega, HT.sIx_nat]; omega
  unfold wD
  simp [oSl, cutD, n0, z1]
theorem ln_take {w : Wrd} (h : ∀ p ∈ w, 1 ≤ p.2) (i : Nat) : 0 ≤ ln (w.take i) ∧ ln (w.take i) ≤ ln w := by
  have h1 := ln_nn (w := w.take i) fun p hp => h p (List.mem_of_mem_take hp)
  have h2 := ln_nn (w := w.drop i) fun p hp => h p (List.mem_of_mem_drop hp)
  have e : ln w = ln (w.take i) + ln (w.drop i) := by rw [← ln_app, List.take_append_drop]
  omega
theorem ln_take_succ {w : Wrd} {i : Nat} {p : Int × Int} (h : w[i]? = some p) : ln (w.take (i + 1)) = ln (w.take i) + p.2 := by
  rw [List.take_add_one, h, ln_app]
  obtain ⟨a, n⟩ := p
  simp
theorem w_lack {S0 L : Store} {d : Dv} {j k : Nat} {w : Wrd} {Q : Rs Dv → Prop} (hj : j < S0.length) (hp : Pool k d) (hk : k ≤ 10000) (hl : w.length ≤ 200) (hn : 1 ≤ ln w) (hn2 : ln w ≤ 10 ^ 18) (h : ∀ (v : Int) (d' : Dv), 1 ≤ v → v ≤ ln w → Pool (k + 10) d' → Q (.ok (.int v) (stP S0 j d' L))) : We (F__law_lack [.obj j, wD w] (stP S0 j d L)) Q := by
  have lpos : 0 < w.length := by
    rcases w with _ | ⟨p, r⟩
    · simp at hn
    · simp
  refine w_defD (j := j) ?_
  unfold fsF__law_lack
  simp -dsimp [z_long w _ (by omega)]
  refine w_draw hj hp (by omega) (by decide) (by decide) fun c d1 v0 v1 p1 => ?_
  simp -dsimp
  refine Br_dec (fun z => ?_) (fun z => ?_)
  · simp -dsimp
    refine w_great hj p1 (by omega) fun b d8 b0 b1 p8 => ?_
    simp -dsimp [show 0 < ln w by omega]
    have := Int.emod_nonneg b (show ln w ≠ 0 by omega)
    have := Int.emod_lt_of_pos b (show 0 < ln w by omega)
    exact PD_end0 p8 rfl (h _ _ (by omega) (by omega) (p8.mono (by omega)))
  · simp -dsimp
    refine Br_dec (fun z => ?_) (fun z => ?_)
    · simp -dsimp
      refine w_draw hj p1 (by omega) (by decide) (by decide) fun b d8 b0 b1 p8 => ?_
      simp -dsimp
      exact PD_end0 p8 rfl (h _ _ (by omega) (by omega) (p8.mono (by omega)))
    · simp -dsimp
      refine w_draw hj p1 (by omega) (by omega) (by omega) fun b d8 b0 b1 p8 => ?_
      simp -dsimp [-FC.oSl, sl_takeW b0 b1, z_long (w.take (1 + b).toNat) _ (by simp; omega)]
      refine w_draw hj p8 (by omega) (by decide) (by decide) fun b d8 b0 b1 p8 => ?_
      simp -dsimp
      exact PD_end0 p8 rfl (h _ _ (by omega) (by omega) (p8.mono (by omega)))
end FCL

set_option Elab.async false
set_option linter.all false
set_option maxRecDepth 100000
set_option maxHeartbeats 4000000
namespace FCL
open PySem PySem.Spec L2 FC
theorem StOk_last {S : Store} {d d' : Dv} (h : okO (S.length + 1) d' = true) : StOk (S ++ [d]) (S ++ [d']) := by
  refine ⟨by simp, fun i x hi hx => ?_⟩
  by_cases z : i < S.length
  · rw [List.getElem?_append_left z] at hx
    exact .inl (by rw [List.getElem?_append_left z]; exact hx)
  · have e : i = S.length := by simp at hi; omega
    subst e
    simp at hx
    subst hx
    exact .inr (by simpa using h)
@[simp] theorem fGc_e {fa : FE} {env : DEnv} {S : Store} : fGc fa env S = gcR S (fa env S) := rfl
/-! ### others, shares -/
def oth (k : Int) : List Int := [0, 1, 2].filter fun x => !decide (x = k)
theorem up3 : FC.upTo 0 3 = [0, 1, 2] := by decide
theorem z_others (k : Int) (S : Store) : F_others [.int k] S = some (.ok (lIn (oth k)) S) := by
  have c1 := compM_filter (b := bName 1) (ft := fTest (fOp oNe (fVar 1) (fVar 0))) (fe := fVar 1) (env0 := [some (.int k), none]) (S := S) (enc := Dv.int) (xs := [0, 1, 2]) (fun x => !decide (x = k)) Dv.int (by decide) fun x _ => ⟨_, rfl, by simp, by simp⟩
  have hr : rng1 [.int 3] S = some (.ok ([0, 1, 2].map Dv.int) S) := by rw [rng1_e (by decide)]; rfl
  refine gcD_pure ?_ (by simp)
  simp at c1 hr
  simp [fsF_others, hr, c1, oth]
/-- a word of the kind k that has n letters -/
structure Good (w : Wrd) (k n : Int) : Prop where
  len : w.length ≤ 200
  kind : ∀ p ∈ w, 0 ≤ p.1 ∧ p.1 < 3 ∧ p.1 ≠ k
  pos : ∀ p ∈ w, 1 ≤ p.2
  sum : (w.map Prod.snd).sum = n
  adj : Adj w
theorem z_is_word (w : Wrd) (k n : Int) (S : Store) (h : Good w k n) : F__is_word [wD w, .int k, .int n] S = some (.ok (.bl true) S) := by
  have hl : w.length ≤ 1000000 := by have := h.len; omega
  have hl2 : ¬ (200 : Int) < w.length := by have := h.len; omega
  have c9 := fun o3 o4 => compM_map' (b := bName 9) (fe := fOp oEq (fCall oLen (fCons (fVar 9) fNil)) (fC (.int 2))) (env0 := [some (wD w), some (.int k), some (.int n), o3, o4, none, none, none, none, none]) (S := S) (enc := encP) (xs := w) (fun _ => .bl true) hl fun p _ => ⟨_, rfl, by simp [encP]⟩
  have c5 := fun o3 o4 => compM_map' (b := bTup 2 (bCons (bName 5) (bCons (bName 6) bNil))) (fe := fVar 5) (env0 := [some (wD w), some (.int k), some (.int n), o3, o4, none, none, none, none, none]) (S := S) (enc := encP) (xs := w) (fun p => .int p.1) hl fun p _ => ⟨_, rfl, by simp⟩
  have c6 := fun o3 o4 => compM_map' (b := bTup 2 (bCons (bName 6) (bCons (bName 7) bNil))) (fe := fVar 7) (env0 := [some (wD w), some (.int k), some (.int n), o3, o4, none, none, none, none, none]) (S := S) (enc := encP) (xs := w) (fun p => .int p.2) hl fun p _ => ⟨_, rfl, by simp⟩
  have a1 : w.map (fun _ => Dv.bl true) = (w.map fun _ => true).map Dv.bl := by simp
  have a2 : w.map (fun p : Int × Int => Dv.int p.1) = (w.map Prod.fst).map Dv.int := by simp
  have a3 : w.map (fun p : Int × Int => Dv.int p.2) = (w.map Prod.snd).map Dv.int := by simp
  simp only [a1] at c9
  simp only [a2] at c5
  simp only [a3] at c6
  have d5 := compM_map' (b := bName 5) (fe := fAndV (fChain oLe oLt (fC (.int 0)) (fVar 5) (fC (.int 3))) (fOp oNe (fVar 5) (fVar 1))) (env0 := [some (wD w), some (.int k), some (.int n), some (lIn (w.map Prod.fst)), some (lIn (w.map Prod.snd)), none, none, none, none, none]) (S := S) (enc := Dv.int) (xs := w.map Prod.fst) (fun _ => .bl true) (by simpa using hl) fun x hx => ⟨_, rfl, by
    obtain ⟨p, hp, rfl⟩ := List.mem_map.1 hx
    obtain ⟨q1, q2, q3⟩ := h.kind p hp
    simp [q1, q2, q3]⟩
  have d7 := compM_map' (b := bName 7) (fe := fOp oGe (fVar 7) (fC (.int 1))) (env0 := [some (wD w), some (.int k), some (.int n), some (lIn (w.map Prod.fst)), some (lIn (w.map Prod.snd)), none, none, none, none, none]) (S := S) (enc := Dv.int) (xs := w.map Prod.snd) (fun _ => .bl true) (by simpa using hl) fun x hx => ⟨_, rfl, by
    obtain ⟨p, hp, rfl⟩ := List.mem_map.1 hx
    simp [h.pos p hp]⟩
  have d8 := compM_map' (b := bName 8) (fe := fOp oNe (fOp oIx (fVar 3) (fVar 8)) (fOp oIx (fVar 3) (fOp oSub (fVar 8) (fC (.int 1))))) (env0 := [some (wD w), some (.int k), some (.int n), some (lIn (w.map Prod.fst)), some (lIn (w.map Prod.snd)), none, none, none, none, none]) (S := S) (enc := Dv.int) (xs := FC.upTo 1 (w.length - 1)) (fun _ => .bl true) (by unfold FC.upTo; simp; omega) fun x hx => ⟨_, rfl, by
    unfold FC.upTo at hx
    obtain ⟨i, hi, rfl⟩ := List.mem_map.1 hx
    have hi := List.mem_range.1 hi
    have g1 : atI ((w.map Prod.fst).map Dv.int) (1 + (i : Int)) = some (.int (w[i + 1]'(by omega)).1) := by
      rw [show (1 + (i : Int)) = ((i + 1 : Nat) : Int) by omega, atI_nat]
      simp [show i + 1 < w.length by omega]
    have g2 : atI ((w.map Prod.fst).map Dv.int) (1 + (i : Int) - 1) = some (.int (w[i]'(by omega)).1) := by
      rw [show (1 + (i : Int) - 1) = ((i : Nat) : Int) by omega, atI_nat]
      simp [show i < w.length by omega]
    have hn := h.adj i _ _ (List.getElem?_eq_getElem (by omega)) (List.getElem?_eq_getElem (by omega))
    simp only [List.map_map] at g1 g2
    simp [g1, g2, Ne.symm hn]⟩
  have hr : rng2 [.int 1, .int (w.length : Int)] S = some (.ok ((FC.upTo 1 (w.length - 1)).map Dv.int) S) := by
    rw [rng2_e (by decide) (rngOk_of (by omega) (by omega))]
    congr 4
    omega
  have e5 : (w.map Prod.fst).map (fun _ => Dv.bl true) = ((w.map Prod.fst).map fun _ => true).map Dv.bl := by simp
  have e7 : (w.map Prod.snd).map (fun _ => Dv.bl true) = ((w.map Prod.snd).map fun _ => true).map Dv.bl := by simp
  have e8 : (FC.upTo 1 (w.length - 1)).map (fun _ => Dv.bl true) = ((FC.upTo 1 (w.length - 1)).map fun _ => true).map Dv.bl := by simp
  rw [e5] at d5
  rw [e7] at d7
  rw [e8] at d8
  have hs := h.sum
  have hfl : (w.map Prod.fst).length = w.length := by simp
  refine gcD_pure ?_ rfl
  unfold wD at *
  generalize w.map Prod.fst = fs at *
  generalize w.map Prod.snd = ss at *
  rw [← hfl] at hr d8 hl
  have hl3 : ¬ (200 : Int) < fs.length := by rw [hfl]; exact hl2
  simp [fsF__is_word, hl, hl2, hl3, c9, c5, c6, d5, d7, d8, hr, hs, show w.length ≤ 1000000 by omega]
def shD (a b d : Int) (w0 w1 w2 : Wrd) : Dv := .ins "Shares" [("keep", .tup [.int a, .int b, .int d]), ("words", .tup [wD w0, wD w1, wD w2]), ("chairs", .int (a + (b + d)))]
@[simp] theorem insOf_sh {a b d w0 w1 w2 S} : insOf (shD a b d w0 w1 w2) S = some (("Shares" : Str), [(("keep" : Str), Dv.tup [Dv.int a, Dv.int b, Dv.int d]), (("words" : Str), Dv.tup [wD w0, wD w1, wD w2]), (("chairs" : Str), Dv.int (a + (b + d)))]) := rfl
@[simp] theorem okO_sh {n : Nat} {a b d : Int} {w0 w1 w2 : Wrd} : okO n (shD a b d w0 w1 w2) = true := by unfold shD; simp
structure Shr (a b d : Int) (w0 w1 w2 : Wrd) : Prop where
  ha : 0 ≤ a
  hb : 0 ≤ b
  hd : 0 ≤ d
  h1 : 1 ≤ a + (b + d)
  h2 : a + (b + d) ≤ 1000000000000000000
  g0 : Good w0 0 a
  g1 : Good w1 1 b
  g2 : Good w2 2 d
theorem mk_sh (a b d : Int) (w0 w1 w2 : Wrd) (S : Store) (h : Shr a b d w0 w1 w2) : gcR S (mkR F_Shares___init__ "Shares" (fun o => [o, .tup [.int a, .int b, .int d], .tup [wD w0, wD w1, wD w2]]) S) = some (.ok (shD a b d w0 w1 w2) S) := by
  obtain ⟨ha, hb, hd, h1, h2, g0, g1, g2⟩ := h
  have i0 := fun S => z_is_word w0 0 a S g0
  have i1 := fun S => z_is_word w1 1 b S g1
  have i2 := fun S => z_is_word w2 2 d S g2
  have c3 := compM_map' (b := bName 3) (fe := fOp oGe (fVar 3) (fC (.int 0))) (env0 := [some (.obj S.length), some (.tup [.int a, .int b, .int d]), some (.tup [wD w0, wD w1, wD w2]), none, none]) (S := S ++ [.ins "Shares" []]) (enc := Dv.int) (xs := [a, b, d]) (fun _ => .bl true) (by simp) fun x hx => ⟨_, rfl, by
    simp at hx
    rcases hx with rfl | rfl | rfl <;> simp <;> assumption⟩
  have c4 := compM_map' (b := bName 4) (fe := fCall (clF 3 F__is_word) (fCons (fOp oIx (fVar 2) (fVar 4)) (fCons (fVar 4) (fCons (fOp oIx (fVar 1) (fVar 4)) fNil)))) (env0 := [some (.obj S.length), some (.tup [.int a, .int b, .int d]), some (.tup [wD w0, wD w1, wD w2]), none, none]) (S := S ++ [.ins "Shares" []]) (enc := Dv.int) (xs := [0, 1, 2]) (fun _ => .bl true) (by simp) fun x hx => by
    simp at hx
    rcases hx with rfl | rfl | rfl
    · exact ⟨_, rfl, by simp [show atI [wD w0, wD w1, wD w2] 0 = some (wD w0) from rfl, show atI [Dv.int a, Dv.int b, Dv.int d] 0 = some (.int a) from rfl, i0]⟩
    · exact ⟨_, rfl, by simp [show atI [wD w0, wD w1, wD w2] 1 = some (wD w1) from rfl, show atI [Dv.int a, Dv.int b, Dv.int d] 1 = some (.int b) from rfl, i1]⟩
    · exact ⟨_, rfl, by simp [show atI [wD w0, wD w1, wD w2] 2 = some (wD w2) from rfl, show atI [Dv.int a, Dv.int b, Dv.int d] 2 = some (.int d) from rfl, i2]⟩
  have hr : ∀ S, rng1 [.int 3] S = some (.ok [.int 0, .int 1, .int 2] S) := fun S => by rw [rng1_e (by decide)]; rfl
  have e1 : asInts [Dv.int a, Dv.int b, Dv.int d] = some [a, b, d] := rfl
  have e2 : asBls [Dv.bl true, Dv.bl true, Dv.bl true] = some [true, true, true] := rfl
  have hB : bodyF 5 fsF_Shares___init__ [.obj S.length, .tup [.int a, .int b, .int d], .tup [wD w0, wD w1, wD w2]] (S ++ [.ins "Shares" []]) = some (.ok .non (S ++ [shD a b d w0 w1 w2])) := by
    simp at c3 c4
    simp (decide := true) [fsF_Shares___init__, c3, c4, hr, e1, e2, h1, h2, sSetFld, setFld, putD, shD]
  have hF : F_Shares___init__ [.obj S.length, .tup [.int a, .int b, .int d], .tup [wD w0, wD w1, wD w2]] (S ++ [.ins "Shares" []]) = some (.ok .non (S ++ [shD a b d w0 w1 w2])) := by
    show gcR _ (bodyF 5 fsF_Shares___init__ _ _) = _
    rw [hB]
    exact gcR_okS (StOk_last (by simp)) (by simp) rfl
  unfold mkR
  rw [hF]
  exact gcR_ins (G := []) (by simp)
/-- the word of letters -/
theorem good_rle (l : List Int) (k : Int) (hl : l.length ≤ 200) (h : ∀ x ∈ l, 0 ≤ x ∧ x < 3 ∧ x ≠ k) : Good (rle l) k l.length := by
  obtain ⟨h1, h2, h3, h4, h5, h6⟩ := rle_ok l
  exact ⟨by omega, fun p hp => h _ (h4 p hp), h2, h5, h3⟩
/-! ### ends of three kinds: pure -/
/-- how many of l's first m letters are x -/
def cnt (l : List Int) (x m : Int) : Int := (((l.take m.toNat).filter fun y => decide (y = x)).length : Int)
theorem cnt_step (l : List Int) (x m : Int) (h : 1 ≤ m) : cnt l x (m - 1) ≤ cnt l x m ∧ cnt l x m ≤ cnt l x (m - 1) + 1 := by
  unfold cnt
  obtain ⟨n, rfl⟩ : ∃ n : Nat, m = (n : Int) + 1 := ⟨(m - 1).toNat, by omega⟩
  rw [show ((n : Int) + 1).toNat = n + 1 by omega, show ((n : Int) + 1 - 1).toNat = n by omega]
  by_cases hn : n < l.length
  · rw [List.take_succ_eq_append_getElem hn, List.filter_append, List.length_append]
    by_cases z : l[n] = x
    · simp [z]; omega
    · simp [z]; omega
  · rw [List.take_of_length_le (by omega), List.take_of_length_le (by omega)]
    omega
theorem cnt_nn (l : List Int) (x m : Int) : 0 ≤ cnt l x m := by unfold cnt; omega
theorem cnt_le (l : List Int) (x m : Int) (h : 0 ≤ m) : cnt l x m ≤ m := by
  unfold cnt
  have h1 := List.length_filter_le (fun y => decide (y = x)) (l.take m.toNat)
  simp at h1
  omega
/-- a row of three -/
structure T3 where
  a : Int
  b : Int
  c : Int
def T3.s (t : T3) : Int := t.a + t.b + t.c
/-- what a kind's lack gives -/
structure Gn where
  f01 : Int → Int
  f10 : Int → Int
  f20 : Int → Int
structure GOk (G : Gn) (k : T3) : Prop where
  s01 : ∀ m, 1 ≤ m → G.f01 (m - 1) ≤ G.f01 m ∧ G.f01 m ≤ G.f01 (m - 1) + 1
  s10 : ∀ m, 1 ≤ m → G.f10 (m - 1) ≤ G.f10 m ∧ G.f10 m ≤ G.f10 (m - 1) + 1
  s20 : ∀ m, 1 ≤ m → G.f20 (m - 1) ≤ G.f20 m ∧ G.f20 m ≤ G.f20 (m - 1) + 1
  n01 : ∀ m, 0 ≤ m → 0 ≤ G.f01 m ∧ G.f01 m ≤ m
  n10 : ∀ m, 0 ≤ m → 0 ≤ G.f10 m ∧ G.f10 m ≤ m
  n20 : ∀ m, 0 ≤ m → 0 ≤ G.f20 m ∧ G.f20 m ≤ m
/-- the end, as the program has it -/
def En (G : Gn) (k c : T3) : T3 :=
  if c.s < k.s then c
  else if c.a < k.a then ⟨c.a, min (max (k.b + G.f01 (k.a - c.a)) (k.s - c.a - c.c)) c.b, k.s - c.a - min (max (k.b + G.f01 (k.a - c.a)) (k.s - c.a - c.c)) c.b⟩
  else if c.b < k.b then ⟨min (max (k.a + G.f10 (k.b - c.b)) (k.s - c.b - c.c)) c.a, c.b, k.s - c.b - min (max (k.a + G.f10 (k.b - c.b)) (k.s - c.b - c.c)) c.a⟩
  else if c.c < k.c then ⟨min (max (k.a + G.f20 (k.c - c.c)) (k.s - c.c - c.b)) c.a, k.s - c.c - min (max (k.a + G.f20 (k.c - c.c)) (k.s - c.c - c.b)) c.a, c.c⟩
  else k
def T3.inc (t : T3) (x : Int) : T3 := if x = 0 then ⟨t.a + 1, t.b, t.c⟩ else if x = 1 then ⟨t.a, t.b + 1, t.c⟩ else ⟨t.a, t.b, t.c + 1⟩
def T3.at (t : T3) (x : Int) : Int := if x = 0 then t.a else if x = 1 then t.b else t.c
def T3.Nn (t : T3) : Prop := 0 ≤ t.a ∧ 0 ≤ t.b ∧ 0 ≤ t.c
theorem T3.ext' {s t : T3} (h1 : s.a = t.a) (h2 : s.b = t.b) (h3 : s.c = t.c) : s = t := by
  cases s; cases t; simp at h1 h2 h3; simp [h1, h2, h3]
theorem en_eq {G : Gn} {k c : T3} (h : c.s = k.s) (hG : GOk G k) : En G k c = c := by
  unfold En
  unfold T3.s at *
  rw [if_neg (by omega)]
  split
  · have := hG.n01 (k.a - c.a) (by omega)
    exact T3.ext' rfl (by show min _ _ = _; omega) (by show _ - _ - min _ _ = _; omega)
  · split
    · have := hG.n10 (k.b - c.b) (by omega)
      exact T3.ext' (by show min _ _ = _; omega) rfl (by show _ - _ - min _ _ = _; omega)
    · split
      · have := hG.n20 (k.c - c.c) (by omega)
        exact T3.ext' (by show min _ _ = _; omega) (by show _ - _ - min _ _ = _; omega) rfl
      · exact T3.ext' (by omega) (by omega) (by omega)
/-- an end: as many as there are chairs, none more than there are -/
theorem en_le {G : Gn} {k c : T3} (h : k.s ≤ c.s) (hc : c.Nn) (hk : k.Nn) (hG : GOk G k) : (En G k c).s = k.s ∧ (En G k c).a ≤ c.a ∧ (En G k c).b ≤ c.b ∧ (En G k c).c ≤ c.c ∧ (En G k c).Nn := by
  unfold En
  unfold T3.s T3.Nn at *
  rw [if_neg (by omega)]
  split
  · have := hG.n01 (k.a - c.a) (by omega)
    refine ⟨?_, ?_, ?_, ?_, ?_, ?_, ?_⟩ <;> simp only <;> omega
  · split
    · have := hG.n10 (k.b - c.b) (by omega)
      refine ⟨?_, ?_, ?_, ?_, ?_, ?_, ?_⟩ <;> simp only <;> omega
    · split
      · have := hG.n20 (k.c - c.c) (by omega)
        refine ⟨?_, ?_, ?_, ?_, ?_, ?_, ?_⟩ <;> simp only <;> omega
      · refine ⟨rfl, ?_, ?_, ?_, ?_, ?_, ?_⟩ <;> omega
theorem lA (A A' B c : Int) (h1 : A - 1 ≤ A') (h2 : A' ≤ A) (h3 : B ≤ c) : min (max A' (min (max A B) c - 1)) (min (max A B) c) = min (max A' (B - 1)) c := by omega
theorem lB (A B c : Int) (h3 : B ≤ c) : min (max A (min (max A B) c)) (min (max A B) c + 1) = min (max A B) (c + 1) := by omega
theorem lC (A B c : Int) (h3 : B ≤ c) : min (max A (min (max A B) c - 1)) (min (max A B) c) = min (max A (B - 1)) c := by omega
section
variable {G : Gn} {ka kb kc a b d : Int}
theorem en_a (h : ¬ a + b + d < ka + kb + kc) (z : a < ka) : En G ⟨ka, kb, kc⟩ ⟨a, b, d⟩ = ⟨a, min (max (kb + G.f01 (ka - a)) (ka + kb + kc - a - d)) b, ka + kb + kc - a - min (max (kb + G.f01 (ka - a)) (ka + kb + kc - a - d)) b⟩ := by
  unfold En T3.s; rw [if_neg h, if_pos z]
theorem en_b (h : ¬ a + b + d < ka + kb + kc) (z : ¬ a < ka) (y : b < kb) : En G ⟨ka, kb, kc⟩ ⟨a, b, d⟩ = ⟨min (max (ka + G.f10 (kb - b)) (ka + kb + kc - b - d)) a, b, ka + kb + kc - b - min (max (ka + G.f10 (kb - b)) (ka + kb + kc - b - d)) a⟩ := by
  unfold En T3.s; rw [if_neg h, if_neg z, if_pos y]
theorem en_c (h : ¬ a + b + d < ka + kb + kc) (z : ¬ a < ka) (y : ¬ b < kb) (x : d < kc) : En G ⟨ka, kb, kc⟩ ⟨a, b, d⟩ = ⟨min (max (ka + G.f20 (kc - d)) (ka + kb + kc - d - b)) a, ka + kb + kc - d - min (max (ka + G.f20 (kc - d)) (ka + kb + kc - d - b)) a, d⟩ := by
  unfold En T3.s; rw [if_neg h, if_neg z, if_neg y, if_pos x]
theorem en_k (h : ¬ a + b + d < ka + kb + kc) (z : ¬ a < ka) (y : ¬ b < kb) (x : ¬ d < kc) : En G ⟨ka, kb, kc⟩ ⟨a, b, d⟩ = ⟨ka, kb, kc⟩ := by
  unfold En T3.s; rw [if_neg h, if_neg z, if_neg y, if_neg x]
theorem t3 {a a' b b' d d' : Int} (h1 : a = a') (h2 : b = b') (h3 : d = d') : (⟨a, b, d⟩ : T3) = ⟨a', b', d'⟩ := by rw [h1, h2, h3]
theorem inc0 : (⟨a, b, d⟩ : T3).inc 0 = ⟨a + 1, b, d⟩ := rfl
theorem inc1 : (⟨a, b, d⟩ : T3).inc 1 = ⟨a, b + 1, d⟩ := rfl
theorem inc2 : (⟨a, b, d⟩ : T3).inc 2 = ⟨a, b, d + 1⟩ := rfl
/-- where the first kind lacks -/
theorem inc_a (G : Gn) (hG : GOk G ⟨ka, kb, kc⟩) (h : ka + kb + kc ≤ a + b + d) (hc : 0 ≤ a ∧ 0 ≤ b ∧ 0 ≤ d) (hk : 0 ≤ ka ∧ 0 ≤ kb ∧ 0 ≤ kc) (z : a < ka) (x : Int) (hx : x = 0 ∨ x = 1 ∨ x = 2) :
    En G ⟨ka, kb, kc⟩ ((En G ⟨ka, kb, kc⟩ ⟨a, b, d⟩).inc x) = En G ⟨ka, kb, kc⟩ ((⟨a, b, d⟩ : T3).inc x) := by
  rw [en_a (by omega) z]
  have r1 := hG.s01 (ka - a) (by omega)
  have r2 := hG.n01 (ka - a) (by omega)
  have r3 := hG.n01 (ka - a - 1) (by omega)
  rw [show ka - a - 1 = ka - (a + 1) by omega] at r1 r3
  rcases hx with rfl | rfl | rfl
  · rw [inc0, inc0]
    by_cases y : a + 1 < ka
    · generalize hn : min (max (kb + G.f01 (ka - a)) (ka + kb + kc - a - d)) b = n
      rw [en_a (by omega) y, en_a (by omega) y]
      have e : min (max (kb + G.f01 (ka - (a + 1))) (ka + kb + kc - (a + 1) - (ka + kb + kc - a - n))) n = min (max (kb + G.f01 (ka - (a + 1))) (ka + kb + kc - (a + 1) - d)) b := by
        rw [show ka + kb + kc - (a + 1) - (ka + kb + kc - a - n) = n - 1 by omega, show ka + kb + kc - (a + 1) - d = ka + kb + kc - a - d - 1 by omega, ← hn]
        exact lA _ _ _ _ (by omega) (by omega) (by omega)
      rw [e]
    · have ea : a = ka - 1 := by omega
      subst ea
      rw [show ka - (ka - 1) = 1 by omega] at r1 r2 ⊢
      rw [show ka + kb + kc - (ka - 1) - d = kb + kc + 1 - d by omega, show ka + kb + kc - (ka - 1) - min (max (kb + G.f01 1) (kb + kc + 1 - d)) b = kb + kc + 1 - min (max (kb + G.f01 1) (kb + kc + 1 - d)) b by omega, show ka - 1 + 1 = ka by omega]
      generalize G.f01 1 = g at *
      by_cases yb : b < kb
      · have en : min (max (kb + g) (kb + kc + 1 - d)) b = b := by omega
        rw [en]
        have q := hG.n10 (kb - b) (by omega)
        rw [en_b (by omega) (by omega) yb, en_b (by omega) (by omega) yb]
        generalize G.f10 (kb - b) = g' at *
        exact t3 (by omega) rfl (by omega)
      · by_cases yc : d < kc
        · have en : min (max (kb + g) (kb + kc + 1 - d)) b = kb + kc + 1 - d := by omega
          rw [en, show kb + kc + 1 - (kb + kc + 1 - d) = d by omega]
          have q := hG.n20 (kc - d) (by omega)
          rw [en_c (by omega) (by omega) (by omega) yc, en_c (by omega) (by omega) yb yc]
          generalize G.f20 (kc - d) = g' at *
          exact t3 (by omega) (by omega) rfl
        · rw [en_k (by omega) (by omega) (by omega) (by omega), en_k (by omega) (by omega) yb yc]
  · rw [inc1, inc1]
    generalize hn : min (max (kb + G.f01 (ka - a)) (ka + kb + kc - a - d)) b = n
    rw [en_a (by omega) z, en_a (by omega) z]
    have e : min (max (kb + G.f01 (ka - a)) (ka + kb + kc - a - (ka + kb + kc - a - n))) (n + 1) = min (max (kb + G.f01 (ka - a)) (ka + kb + kc - a - d)) (b + 1) := by
      rw [show ka + kb + kc - a - (ka + kb + kc - a - n) = n by omega, ← hn]
      exact lB _ _ _ (by omega)
    rw [e]
  · rw [inc2, inc2]
    generalize hn : min (max (kb + G.f01 (ka - a)) (ka + kb + kc - a - d)) b = n
    rw [en_a (by omega) z, en_a (by omega) z]
    have e : min (max (kb + G.f01 (ka - a)) (ka + kb + kc - a - (ka + kb + kc - a - n + 1))) n = min (max (kb + G.f01 (ka - a)) (ka + kb + kc - a - (d + 1))) b := by
      rw [show ka + kb + kc - a - (ka + kb + kc - a - n + 1) = n - 1 by omega, show ka + kb + kc - a - (d + 1) = ka + kb + kc - a - d - 1 by omega, ← hn]
      exact lC _ _ _ (by omega)
    rw [e]
/-- .. the second -/
theorem inc_b (G : Gn) (hG : GOk G ⟨ka, kb, kc⟩) (h : ka + kb + kc ≤ a + b + d) (hc : 0 ≤ a ∧ 0 ≤ b ∧ 0 ≤ d) (hk : 0 ≤ ka ∧ 0 ≤ kb ∧ 0 ≤ kc) (z : ¬ a < ka) (y : b < kb) (x : Int) (hx : x = 0 ∨ x = 1 ∨ x = 2) :
    En G ⟨ka, kb, kc⟩ ((En G ⟨ka, kb, kc⟩ ⟨a, b, d⟩).inc x) = En G ⟨ka, kb, kc⟩ ((⟨a, b, d⟩ : T3).inc x) := by
  rw [en_b (by omega) z y]
  have r1 := hG.s10 (kb - b) (by omega)
  have r2 := hG.n10 (kb - b) (by omega)
  have r3 := hG.n10 (kb - b - 1) (by omega)
  rw [show kb - b - 1 = kb - (b + 1) by omega] at r1 r3
  rcases hx with rfl | rfl | rfl
  · rw [inc0, inc0]
    generalize hn : min (max (ka + G.f10 (kb - b)) (ka + kb + kc - b - d)) a = n
    have n1 : ka ≤ n := by omega
    rw [en_b (by omega) (by omega) y, en_b (by omega) (by omega) y]
    have e : min (max (ka + G.f10 (kb - b)) (ka + kb + kc - b - (ka + kb + kc - b - n))) (n + 1) = min (max (ka + G.f10 (kb - b)) (ka + kb + kc - b - d)) (a + 1) := by
      rw [show ka + kb + kc - b - (ka + kb + kc - b - n) = n by omega, ← hn]
      exact lB _ _ _ (by omega)
    rw [e]
  · rw [inc1, inc1]
    by_cases w : b + 1 < kb
    · generalize hn : min (max (ka + G.f10 (kb - b)) (ka + kb + kc - b - d)) a = n
      have n1 : ka ≤ n := by omega
      rw [en_b (by omega) (by omega) w, en_b (by omega) z w]
      have e : min (max (ka + G.f10 (kb - (b + 1))) (ka + kb + kc - (b + 1) - (ka + kb + kc - b - n))) n = min (max (ka + G.f10 (kb - (b + 1))) (ka + kb + kc - (b + 1) - d)) a := by
        rw [show ka + kb + kc - (b + 1) - (ka + kb + kc - b - n) = n - 1 by omega, show ka + kb + kc - (b + 1) - d = ka + kb + kc - b - d - 1 by omega, ← hn]
        exact lA _ _ _ _ (by omega) (by omega) (by omega)
      rw [e]
    · have eb : b = kb - 1 := by omega
      subst eb
      rw [show kb - (kb - 1) = 1 by omega] at r1 r2 ⊢
      rw [show ka + kb + kc - (kb - 1) - d = ka + kc + 1 - d by omega, show ka + kb + kc - (kb - 1) - min (max (ka + G.f10 1) (ka + kc + 1 - d)) a = ka + kc + 1 - min (max (ka + G.f10 1) (ka + kc + 1 - d)) a by omega, show kb - 1 + 1 = kb by omega]
      generalize G.f10 1 = g at *
      by_cases yc : d < kc
      · have en : min (max (ka + g) (ka + kc + 1 - d)) a = ka + kc + 1 - d := by omega
        rw [en, show ka + kc + 1 - (ka + kc + 1 - d) = d by omega]
        have q := hG.n20 (kc - d) (by omega)
        rw [en_c (by omega) (by omega) (by omega) yc, en_c (by omega) z (by omega) yc]
        generalize G.f20 (kc - d) = g' at *
        exact t3 (by omega) (by omega) rfl
      · rw [en_k (by omega) (by omega) (by omega) (by omega), en_k (by omega) z (by omega) yc]
  · rw [inc2, inc2]
    generalize hn : min (max (ka + G.f10 (kb - b)) (ka + kb + kc - b - d)) a = n
    have n1 : ka ≤ n := by omega
    rw [en_b (by omega) (by omega) y, en_b (by omega) z y]
    have e : min (max (ka + G.f10 (kb - b)) (ka + kb + kc - b - (ka + kb + kc - b - n + 1))) n = min (max (ka + G.f10 (kb - b)) (ka + kb + kc - b - (d + 1))) a := by
      rw [show ka + kb + kc - b - (ka + kb + kc - b - n + 1) = n - 1 by omega, show ka + kb + kc - b - (d + 1) = ka + kb + kc - b - d - 1 by omega, ← hn]
      exact lC _ _ _ (by omega)
    rw [e]
/-- .. the third -/
theorem inc_c (G : Gn) (hG : GOk G ⟨ka, kb, kc⟩) (h : ka + kb + kc ≤ a + b + d) (hc : 0 ≤ a ∧ 0 ≤ b ∧ 0 ≤ d) (hk : 0 ≤ ka ∧ 0 ≤ kb ∧ 0 ≤ kc) (z : ¬ a < ka) (y : ¬ b < kb) (w : d < kc) (x : Int) (hx : x = 0 ∨ x = 1 ∨ x = 2) :
    En G ⟨ka, kb, kc⟩ ((En G ⟨ka, kb, kc⟩ ⟨a, b, d⟩).inc x) = En G ⟨ka, kb, kc⟩ ((⟨a, b, d⟩ : T3).inc x) := by
  rw [en_c (by omega) z y w]
  have r1 := hG.s20 (kc - d) (by omega)
  have r2 := hG.n20 (kc - d) (by omega)
  have r3 := hG.n20 (kc - d - 1) (by omega)
  rw [show kc - d - 1 = kc - (d + 1) by omega] at r1 r3
  rcases hx with rfl | rfl | rfl
  · rw [inc0, inc0]
    generalize hn : min (max (ka + G.f20 (kc - d)) (ka + kb + kc - d - b)) a = n
    have n1 : ka ≤ n ∧ kb ≤ ka + kb + kc - d - n := by omega
    rw [en_c (by omega) (by omega) (by omega) w, en_c (by omega) (by omega) y w]
    have e : min (max (ka + G.f20 (kc - d)) (ka + kb + kc - d - (ka + kb + kc - d - n))) (n + 1) = min (max (ka + G.f20 (kc - d)) (ka + kb + kc - d - b)) (a + 1) := by
      rw [show ka + kb + kc - d - (ka + kb + kc - d - n) = n by omega, ← hn]
      exact lB _ _ _ (by omega)
    rw [e]
  · rw [inc1, inc1]
    generalize hn : min (max (ka + G.f20 (kc - d)) (ka + kb + kc - d - b)) a = n
    have n1 : ka ≤ n ∧ kb ≤ ka + kb + kc - d - n := by omega
    rw [en_c (by omega) (by omega) (by omega) w, en_c (by omega) z (by omega) w]
    have e : min (max (ka + G.f20 (kc - d)) (ka + kb + kc - d - (ka + kb + kc - d - n + 1))) n = min (max (ka + G.f20 (kc - d)) (ka + kb + kc - d - (b + 1))) a := by
      rw [show ka + kb + kc - d - (ka + kb + kc - d - n + 1) = n - 1 by omega, show ka + kb + kc - d - (b + 1) = ka + kb + kc - d - b - 1 by omega, ← hn]
      exact lC _ _ _ (by omega)
    rw [e]
  · rw [inc2, inc2]
    by_cases v : d + 1 < kc
    · generalize hn : min (max (ka + G.f20 (kc - d)) (ka + kb + kc - d - b)) a = n
      have n1 : ka ≤ n ∧ kb ≤ ka + kb + kc - d - n := by omega
      rw [en_c (by omega) (by omega) (by omega) v, en_c (by omega) z y v]
      have e : min (max (ka + G.f20 (kc - (d + 1))) (ka + kb + kc - (d + 1) - (ka + kb + kc - d - n))) n = min (max (ka + G.f20 (kc - (d + 1))) (ka + kb + kc - (d + 1) - b)) a := by
        rw [show ka + kb + kc - (d + 1) - (ka + kb + kc - d - n) = n - 1 by omega, show ka + kb + kc - (d + 1) - b = ka + kb + kc - d - b - 1 by omega, ← hn]
        exact lA _ _ _ _ (by omega) (by omega) (by omega)
      rw [e]
    · generalize hn : min (max (ka + G.f20 (kc - d)) (ka + kb + kc - d - b)) a = n
      have n1 : ka ≤ n ∧ kb ≤ ka + kb + kc - d - n := by omega
      rw [en_k (by omega) (by omega) (by omega) (by omega), en_k (by omega) z y v]
end
/-- one more guest: it is the same to have ended before -/
theorem en_inc {G : Gn} {k c : T3} {x : Int} (h : k.s ≤ c.s) (hc : c.Nn) (hk : k.Nn) (hG : GOk G k) (hx : x = 0 ∨ x = 1 ∨ x = 2) : En G k ((En G k c).inc x) = En G k (c.inc x) := by
  obtain ⟨a, b, d⟩ := c
  obtain ⟨ka, kb, kc⟩ := k
  have h' : ka + kb + kc ≤ a + b + d := h
  by_cases z : a < ka
  · exact inc_a G hG h' hc hk z x hx
  · by_cases y : b < kb
    · exact inc_b G hG h' hc hk z y x hx
    · by_cases w : d < kc
      · exact inc_c G hG h' hc hk z y w x hx
      · rw [en_k (by omega) z y w]
        rcases hx with rfl | rfl | rfl
        · rw [inc0, inc0, en_k (by omega) (by omega) (by omega) (by omega), en_k (by omega) (by omega) y w]
        · rw [inc1, inc1, en_k (by omega) (by omega) (by omega) (by omega), en_k (by omega) z (by omega) w]
        · rw [inc2, inc2, en_k (by omega) (by omega) (by omega) (by omega), en_k (by omega) z y (by omega)]
/-! ### gains -/
theorem cnt_rep (n : Nat) (y x : Int) (l : List Int) (m : Int) (h : 0 ≤ m) : cnt (List.replicate n y ++ l) x m = (if y = x then min (n : Int) m else 0) + cnt l x (m - min (n : Int) m) := by
  unfold cnt
  rw [List.take_append, List.filter_append, List.length_append, List.take_replicate, List.length_replicate]
  have e : m.toNat - n = (m - min (n : Int) m).toNat := by omega
  rw [e]
  by_cases z : y = x
  · rw [if_pos z, List.filter_eq_self.mpr (fun a ha => by rw [(List.mem_replicate.1 ha).2]; simpa using z)]
    simp
    omega
  · rw [if_neg z, List.filter_eq_nil_iff.mpr (fun a ha => by rw [(List.mem_replicate.1 ha).2]; simpa using z)]
    simp
/-- one stretch of gains -/
def gnS (s : (Int → Int) × Int) (p : Int × Int) : (Int → Int) × Int := (fun x => s.1 x + (if p.1 = x then min p.2 s.2 else 0), s.2 - min p.2 s.2)
theorem gn_fold : ∀ (w : Wrd) (s : (Int → Int) × Int), (∀ p ∈ w, 1 ≤ p.2) → 0 ≤ s.2 → ∀ x, (w.foldl gnS s).1 x = s.1 x + cnt (expand w) x s.2
  | [], s, _, _, x => by simp [expand, cnt]
  | p :: w, s, hp, h0, x => by
    have h1 := hp p List.mem_cons_self
    rw [List.foldl_cons, gn_fold w (gnS s p) (fun q hq => hp q (List.mem_cons_of_mem _ hq)) (by unfold gnS; simp only; omega) x]
    have e : expand (p :: w) = List.replicate p.2.toNat p.1 ++ expand w := by simp [expand]
    rw [e, cnt_rep _ _ _ _ _ h0]
    unfold gnS
    simp only
    rw [show ((p.2.toNat : Nat) : Int) = p.2 by omega]
    omega
theorem z_gains (a b d : Int) (w0 w1 w2 : Wrd) (k n m : Int) (w : Wrd) (S : Store) (hk : (k = 0 ∧ w = w0 ∧ n = a) ∨ (k = 1 ∧ w = w1 ∧ n = b) ∨ (k = 2 ∧ w = w2 ∧ n = d)) (hw : ∀ p ∈ w, 1 ≤ p.2 ∧ K3 p.1) (h0 : 0 ≤ m) (h1 : m ≤ n) :
    F_Shares_gains [shD a b d w0 w1 w2, .int k, .int m] S = some (.ok (.tup [.int (cnt (expand w) 0 m), .int (cnt (expand w) 1 m), .int (cnt (expand w) 2 m)]) S) := by
  have hc : ∀ S, F_check_kind_of [.int 3, .int k] S = some (.ok .non S) := fun S => by
    refine gcD_pure ?_ rfl
    rcases hk with ⟨rfl, _⟩ | ⟨rfl, _⟩ | ⟨rfl, _⟩ <;> simp [fsF_check_kind_of]
  have hi : atI [Dv.int a, Dv.int b, Dv.int d] k = some (.int n) := by
    rcases hk with ⟨rfl, _, rfl⟩ | ⟨rfl, _, rfl⟩ | ⟨rfl, _, rfl⟩ <;> rfl
  have hj : atI [wD w0, wD w1, wD w2] k = some (.tup (w.map encP)) := by
    rcases hk with ⟨rfl, rfl, _⟩ | ⟨rfl, rfl, _⟩ | ⟨rfl, rfl, _⟩ <;> rfl
  obtain ⟨L, hL⟩ := forM_fold (b := bTup 2 (bCons (bName 5) (bCons (bName 6) bNil))) (fb := LF_Shares_gains_1) encP (fun s : (Int → Int) × Int => [some (shD a b d w0 w1 w2), some (.int k), some (.int m), some (.obj S.length), some (.int s.2), none, none]) (fun s => S ++ [.lst [.int (s.1 0), .int (s.1 1), .int (s.1 2)]]) gnS (fun _ s => 0 ≤ s.2) w 0 (fun _ => 0, m) h0 fun j p s hj hI => by
    have hp := hw p (List.mem_of_getElem? hj)
    refine ⟨_, rfl, ?_, by unfold gnS; simp only; omega⟩
    have i0 : ixN 3 0 = some 0 := rfl
    have i1 : ixN 3 1 = some 1 := rfl
    have i2 : ixN 3 2 = some 2 := rfl
    rcases hp.2 with e | e | e
    · simp [LF_Shares_gains_1, e, i0, gnS, show atI [Dv.int (s.1 0), Dv.int (s.1 1), Dv.int (s.1 2)] 0 = some (.int (s.1 0)) from rfl]
    · simp [LF_Shares_gains_1, e, i1, gnS, show atI [Dv.int (s.1 0), Dv.int (s.1 1), Dv.int (s.1 2)] 1 = some (.int (s.1 1)) from rfl]
    · simp [LF_Shares_gains_1, e, i2, gnS, show atI [Dv.int (s.1 0), Dv.int (s.1 1), Dv.int (s.1 2)] 2 = some (.int (s.1 2)) from rfl]
  have f0 := fun x => gn_fold w (fun _ => 0, m) (fun p hp => (hw p hp).1) h0 x
  simp only [Int.zero_add] at f0
  rw [f0, f0, f0] at L
  refine gcD_of (G := [.lst [.int (cnt (expand w) 0 m), .int (cnt (expand w) 1 m), .int (cnt (expand w) 2 m)]]) ?_ (by simp)
  simp (decide := true) [fsF_Shares_gains, hc, hi, hj, h0, h1, L]
/-- with_count, _law_more, _law_less -/
theorem z_wc (a b d v : Int) (S : Store) : F_with_count [.tup [.int a, .int b, .int d], .int 0, .int v] S = some (.ok (.tup [.int v, .int b, .int d]) S) ∧ F_with_count [.tup [.int a, .int b, .int d], .int 1, .int v] S = some (.ok (.tup [.int a, .int v, .int d]) S) ∧ F_with_count [.tup [.int a, .int b, .int d], .int 2, .int v] S = some (.ok (.tup [.int a, .int b, .int v]) S) := by
  refine ⟨gcD_pure ?_ (by simp), gcD_pure ?_ (by simp), gcD_pure ?_ (by simp)⟩ <;> simp [fsF_with_count, oAddX, oSl, cutD, HT.sIx]
def tD3 (t : T3) : Dv := .tup [.int t.a, .int t.b, .int t.c]
/-! ### gains, ends -/
def kp (u : W3) : T3 := ⟨ln (u 0), ln (u 1), ln (u 2)⟩
def gn (u : W3) : Gn := ⟨fun m => cnt (expand (u 0)) 1 m, fun m => cnt (expand (u 1)) 0 m, fun m => cnt (expand (u 2)) 0 m⟩
def shU (u : W3) : Dv := shD (ln (u 0)) (ln (u 1)) (ln (u 2)) (u 0) (u 1) (u 2)
theorem gok (u : W3) : GOk (gn u) (kp u) :=
  ⟨fun m h => cnt_step _ 1 m h, fun m h => cnt_step _ 0 m h, fun m h => cnt_step _ 0 m h, fun m h => ⟨cnt_nn _ 1 m, cnt_le _ 1 m h⟩, fun m h => ⟨cnt_nn _ 0 m, cnt_le _ 0 m h⟩, fun m h => ⟨cnt_nn _ 0 m, cnt_le _ 0 m h⟩⟩
theorem len_expand : ∀ (w : Wrd), (∀ p ∈ w, 1 ≤ p.2) → ((expand w).length : Int) = ln w
  | [], _ => rfl
  | p :: w, h => by
    have := h p List.mem_cons_self
    have ih := len_expand w fun q hq => h q (List.mem_cons_of_mem _ hq)
    rw [ln_cons, ← ih]
    simp [expand]
    omega
theorem mem_expand {w : Wrd} {x : Int} (h : x ∈ expand w) : ∃ p ∈ w, p.1 = x := by
  unfold expand at h
  obtain ⟨p, hp, hx⟩ := List.mem_flatMap.1 h
  exact ⟨p, hp, (List.mem_replicate.1 hx).2.symm⟩
theorem WG.good {w : Wrd} {k : Int} (h : WG w k) (hl : w.length ≤ 200) : Good w k (ln w) := ⟨hl, h.kind, h.pos, rfl, h.adj⟩
theorem mk_u (u : W3) (S : Store) (hu : WOk u 200) (h1 : 1 ≤ tot u) (h2 : tot u ≤ 10 ^ 18) : gcR S (mkR F_Shares___init__ "Shares" (fun o => [o, tD3 (kp u), wsD u]) S) = some (.ok (shU u) S) := by
  have q := tot_nn hu
  exact mk_sh _ _ _ _ _ _ S ⟨q.1, q.2.1, q.2.2, h1, h2, (hu.g 0 (.inl rfl)).good (hu.l 0 (.inl rfl)), (hu.g 1 (.inr (.inl rfl))).good (hu.l 1 (.inr (.inl rfl))), (hu.g 2 (.inr (.inr rfl))).good (hu.l 2 (.inr (.inr rfl)))⟩
theorem wK {w : Wrd} {k : Int} (h : WG w k) : ∀ p ∈ w, 1 ≤ p.2 ∧ K3 p.1 := fun p hp => ⟨h.pos p hp, K3.of (h.kind p hp).1 (h.kind p hp).2.1⟩
def t3c (w : Wrd) (m : Int) : Dv := .tup [.int (cnt (expand w) 0 m), .int (cnt (expand w) 1 m), .int (cnt (expand w) 2 m)]
theorem gains (u : W3) (k m : Int) (S : Store) (hu : WOk u 200) (hk : K3 k) (h0 : 0 ≤ m) (h1 : m ≤ ln (u k)) : F_Shares_gains [shU u, .int k, .int m] S = some (.ok (t3c (u k) m) S) := by
  have hw := wK (hu.g k hk)
  rcases hk with rfl | rfl | rfl
  · exact z_gains _ _ _ _ _ _ 0 _ m (u 0) S (.inl ⟨rfl, rfl, rfl⟩) hw h0 h1
  · exact z_gains _ _ _ _ _ _ 1 _ m (u 1) S (.inr (.inl ⟨rfl, rfl, rfl⟩)) hw h0 h1
  · exact z_gains _ _ _ _ _ _ 2 _ m (u 2) S (.inr (.inr ⟨rfl, rfl, rfl⟩)) hw h0 h1
theorem at_tD (t : T3) {x : Int} (hx : K3 x) : atI [Dv.int t.a, Dv.int t.b, Dv.int t.c] x = some (.int (t.at x)) := by
  rcases hx with rfl | rfl | rfl <;> rfl
@[simp ↓] theorem insOf_shU {u : W3} {S : Store} : insOf (shU u) S = some (("Shares" : Str), [(("keep" : Str), tD3 (kp u)), (("words" : Str), wsD u), (("chairs" : Str), Dv.int (tot u))]) := rfl
@[simp] theorem okO_shU {n : Nat} {u : W3} : okO n (shU u) = true := okO_sh
@[simp] theorem okO_tD3 {n : Nat} {t : T3} : okO n (tD3 t) = true := rfl
@[simp ↓] theorem seqOf_tD3 {t : T3} {S : Store} : seqOf (tD3 t) S = some [.int t.a, .int t.b, .int t.c] := rfl
@[simp ↓] theorem seqOf_wsD {u : W3} {S : Store} : seqOf (wsD u) S = some [wD (u 0), wD (u 1), wD (u 2)] := rfl
@[simp ↓] theorem seqOf_t3c {w : Wrd} {m : Int} {S : Store} : seqOf (t3c w m) S = some [.int (cnt (expand w) 0 m), .int (cnt (expand w) 1 m), .int (cnt (expand w) 2 m)] := rfl
@[simp ↓] theorem frozen_tD3 {t : T3} : frozen (tD3 t) = some [.int t.a, .int t.b, .int t.c] := rfl
theorem z_wcT (t : T3) (v : Int) (S : Store) : F_with_count [tD3 t, .int 0, .int v] S = some (.ok (tD3 ⟨v, t.b, t.c⟩) S) ∧ F_with_count [tD3 t, .int 1, .int v] S = some (.ok (tD3 ⟨t.a, v, t.c⟩) S) ∧ F_with_count [tD3 t, .int 2, .int v] S = some (.ok (tD3 ⟨t.a, t.b, v⟩) S) := z_wc _ _ _ _ _
theorem beside0 (u : W3) (hu : WOk u 200) (a b d : Int) (S : Store) (h0 : 0 ≤ a) (h1 : a < ln (u 0)) : F_Shares__end_beside [shU u, tD3 ⟨a, b, d⟩, .int 0] S =
    some (.ok (tD3 ⟨a, min (max (ln (u 1) + cnt (expand (u 0)) 1 (ln (u 0) - a)) (tot u - a - d)) b, tot u - a - min (max (ln (u 1) + cnt (expand (u 0)) 1 (ln (u 0) - a)) (tot u - a - d)) b⟩) S) := by
  have ot : ∀ S, F_others [.int 0] S = some (.ok (.lst [.int 1, .int 2]) S) := fun S => z_others 0 S
  have g := fun S => gains u 0 (ln (u 0) - a) S hu (.inl rfl) (by omega) (by omega)
  refine w_defP ?_ rfl
  unfold fsF_Shares__end_beside
  simp -dsimp (decide := true) [ot, g, kp, (z_wcT _ _ _).1, (z_wcT _ _ _).2.1, (z_wcT _ _ _).2.2]
theorem beside1 (u : W3) (hu : WOk u 200) (a b d : Int) (S : Store) (h0 : 0 ≤ b) (h1 : b < ln (u 1)) : F_Shares__end_beside [shU u, tD3 ⟨a, b, d⟩, .int 1] S =
    some (.ok (tD3 ⟨min (max (ln (u 0) + cnt (expand (u 1)) 0 (ln (u 1) - b)) (tot u - b - d)) a, b, tot u - b - min (max (ln (u 0) + cnt (expand (u 1)) 0 (ln (u 1) - b)) (tot u - b - d)) a⟩) S) := by
  have ot : ∀ S, F_others [.int 1] S = some (.ok (.lst [.int 0, .int 2]) S) := fun S => z_others 1 S
  have g := fun S => gains u 1 (ln (u 1) - b) S hu (.inr (.inl rfl)) (by omega) (by omega)
  refine w_defP ?_ rfl
  unfold fsF_Shares__end_beside
  simp -dsimp (decide := true) [ot, g, kp, (z_wcT _ _ _).1, (z_wcT _ _ _).2.1, (z_wcT _ _ _).2.2]
theorem beside2 (u : W3) (hu : WOk u 200) (a b d : Int) (S : Store) (h0 : 0 ≤ d) (h1 : d < ln (u 2)) : F_Shares__end_beside [shU u, tD3 ⟨a, b, d⟩, .int 2] S =
    some (.ok (tD3 ⟨min (max (ln (u 0) + cnt (expand (u 2)) 0 (ln (u 2) - d)) (tot u - d - b)) a, tot u - d - min (max (ln (u 0) + cnt (expand (u 2)) 0 (ln (u 2) - d)) (tot u - d - b)) a, d⟩) S) := by
  have ot : ∀ S, F_others [.int 2] S = some (.ok (.lst [.int 0, .int 1]) S) := fun S => z_others 2 S
  have g := fun S => gains u 2 (ln (u 2) - d) S hu (.inr (.inr rfl)) (by omega) (by omega)
  refine w_defP ?_ rfl
  unfold fsF_Shares__end_beside
  simp -dsimp (decide := true) [ot, g, kp, (z_wcT _ _ _).1, (z_wcT _ _ _).2.1, (z_wcT _ _ _).2.2]
theorem z_size (t : T3) (S : Store) : F_size [tD3 t] S = some (.ok (.int (t.a + (t.b + t.c))) S) := by
  refine w_defP ?_ rfl
  have hs : asInts [Dv.int t.a, Dv.int t.b, Dv.int t.c] = some [t.a, t.b, t.c] := rfl
  unfold fsF_size
  simp -dsimp [hs]
theorem z_counts (t : T3) (S : Store) (h : t.Nn) : F_check_counts [.int 3, tD3 t] S = some (.ok .non S) := by
  obtain ⟨h0, h1, h2⟩ := h
  have e2 : asBls [Dv.bl true, Dv.bl true, Dv.bl true] = some [true, true, true] := rfl
  refine w_defP ?_ rfl
  unfold fsF_check_counts
  simp -dsimp [h0, h1, h2, e2]
theorem z_end (u : W3) (hu : WOk u 200) (c : T3) (S : Store) (hc : c.Nn) : F_Shares_end [shU u, tD3 c] S = some (.ok (tD3 (En (gn u) (kp u) c)) S) := by
  obtain ⟨a, b, d⟩ := c
  have hc' := hc
  obtain ⟨n0, n1, n2⟩ : 0 ≤ a ∧ 0 ≤ b ∧ 0 ≤ d := hc
  have e : tot u = ln (u 0) + ln (u 1) + ln (u 2) := by unfold tot; omega
  have kpe : kp u = ⟨ln (u 0), ln (u 1), ln (u 2)⟩ := rfl
  have cc := fun S => z_counts ⟨a, b, d⟩ S hc'
  have sz := fun S => z_size ⟨a, b, d⟩ S
  simp only at sz
  refine w_defP ?_ rfl
  unfold fsF_Shares_end
  by_cases z : a + (b + d) < tot u
  · have hE : En (gn u) (kp u) ⟨a, b, d⟩ = ⟨a, b, d⟩ := if_pos (by unfold T3.s kp; simp only; omega)
    rw [hE]
    simp -dsimp (decide := true) [cc, sz, z]
  · have z' : ¬ a + b + d < ln (u 0) + ln (u 1) + ln (u 2) := by omega
    by_cases za : a < ln (u 0)
    · have eE := en_a (G := gn u) z' za
      rw [← e, ← kpe] at eE
      rw [eE]
      have be := fun S => beside0 u hu a b d S n0 za
      by_cases zb : b < ln (u 1) <;> by_cases zc : d < ln (u 2) <;>
      simp -dsimp (decide := true) [cc, sz, z, kp, za, zb, zc, be, atI0, gn]
    · by_cases zb : b < ln (u 1)
      · have eE := en_b (G := gn u) z' za zb
        rw [← e, ← kpe] at eE
        rw [eE]
        have be := fun S => beside1 u hu a b d S n1 zb
        by_cases zc : d < ln (u 2) <;>
        simp -dsimp (decide := true) [cc, sz, z, kp, za, zb, zc, be, atI0, gn]
      · by_cases zc : d < ln (u 2)
        · have eE := en_c (G := gn u) z' za zb zc
          rw [← e, ← kpe] at eE
          rw [eE]
          have be := fun S => beside2 u hu a b d S n2 zc
          simp -dsimp (decide := true) [cc, sz, z, kp, za, zb, zc, be, atI0, gn]
        · have eE := en_k (G := gn u) z' za zb zc
          rw [← kpe] at eE
          rw [eE]
          simp -dsimp (decide := true) [cc, sz, z, kp, za, zb, zc]
end FCL

set_option Elab.async false
set_option linter.all false
set_option maxRecDepth 100000
set_option maxHeartbeats 4000000
namespace FCL
open PySem PySem.Spec L2 FC
/-! ### who goes -/
theorem en_one {G : Gn} {k s : T3} (h : s.s = k.s + 1) (hs : s.Nn) (hk : k.Nn) (hG : GOk G k) : ∃ x, K3 x ∧ s = (En G k s).inc x ∧ (∀ y, K3 y → (decide ((En G k s).at y < s.at y) = decide (y = x))) := by
  obtain ⟨e1, e2, e3, e4, e5⟩ := en_le (G := G) (k := k) (c := s) (by unfold T3.s at *; omega) hs hk hG
  generalize En G k s = t at *
  obtain ⟨a, b, d⟩ := s
  obtain ⟨a', b', d'⟩ := t
  obtain ⟨ka, kb, kc⟩ := k
  unfold T3.s T3.Nn at *
  simp only at *
  by_cases z : a' < a
  · refine ⟨0, .inl rfl, by rw [inc0]; exact t3 (by omega) (by omega) (by omega), fun y hy => ?_⟩
    rcases hy with rfl | rfl | rfl <;> simp [T3.at] <;> omega
  · by_cases y : b' < b
    · refine ⟨1, .inr (.inl rfl), by rw [inc1]; exact t3 (by omega) (by omega) (by omega), fun y hy => ?_⟩
      rcases hy with rfl | rfl | rfl <;> simp [T3.at] <;> omega
    · refine ⟨2, .inr (.inr rfl), by rw [inc2]; exact t3 (by omega) (by omega) (by omega), fun y hy => ?_⟩
      rcases hy with rfl | rfl | rfl <;> simp [T3.at] <;> omega
theorem kpNn {u : W3} {m : Nat} (hu : WOk u m) : (kp u).Nn := tot_nn hu
/-- x goes from the meeting s -/
def Goes (u : W3) (s : T3) (x : Int) : Prop := K3 x ∧ ∀ y, K3 y → (decide ((En (gn u) (kp u) s).at y < s.at y) = decide (y = x))
theorem goes_ex {u : W3} {s : T3} (hu : WOk u 200) (hs : s.Nn) (hn : s.s = tot u + 1) : ∃ x, Goes u s x := by
  obtain ⟨x, hx, e1, e2⟩ := en_one (G := gn u) (k := kp u) (by rw [hn]; unfold T3.s kp tot; simp only; omega) hs (kpNn hu) (gok u)
  exact ⟨x, hx, e2⟩
theorem one_of {f : Int → Bool} {x : Int} (hx : K3 x) (h : ∀ y, K3 y → f y = decide (y = x)) : ([0, 1, 2] : List Int).filter f = [x] := by
  have h0 := h 0 (.inl rfl)
  have h1 := h 1 (.inr (.inl rfl))
  have h2 := h 2 (.inr (.inr rfl))
  rcases hx with rfl | rfl | rfl <;> simp [h0, h1, h2]
theorem z_goes (u : W3) (hu : WOk u 200) (s : T3) (x : Int) (S : Store) (hs : s.Nn) (hn : s.s = tot u + 1) (hg : Goes u s x) : F_Shares_goes [shU u, tD3 s] S = some (.ok (.int x) S) := by
  have ze := fun S => z_end u hu s S hs
  have sz := fun S => z_size s S
  have hn' : s.a + (s.b + s.c) = tot u + 1 := by rw [← hn]; unfold T3.s; omega
  refine w_defP ?_ rfl
  unfold fsF_Shares_goes
  simp -dsimp (decide := true) [-FC.w_comp_cons, sz, ze, hn']
  refine w_lc Dv.int (fun y => decide ((En (gn u) (kp u) s).at y < s.at y)) Dv.int [0, 1, 2] (by simp) (fun y hy => ?_) ?_
  · have hy' : K3 y := by simpa [K3] using hy
    simp -dsimp [at_tD _ hy']
  · rw [one_of hg.1 hg.2]
    simp -dsimp
/-! ### the law's own -/
theorem cnt_neg (l : List Int) (x m : Int) (h : m ≤ 0) : cnt l x m = 0 := by
  unfold cnt
  rw [show m.toNat = 0 by omega]
  rfl
theorem cnt_snoc {v : Wrd} {p : Int × Int} (hv : ∀ q ∈ v, 1 ≤ q.2) (hp : 1 ≤ p.2) (x m : Int) : cnt (expand (v ++ [p])) x m = cnt (expand v) x m + (if p.1 = x then max 0 (min p.2 (m - ln v)) else 0) := by
  have hl := len_expand v hv
  rw [expand_app]
  have e : expand [p] = List.replicate p.2.toNat p.1 := by simp [expand]
  rw [e]
  unfold cnt
  rw [List.take_append, List.filter_append, List.length_append, List.take_replicate]
  by_cases z : p.1 = x
  · have f : ∀ n, (List.replicate n p.1).filter (fun y => decide (y = x)) = List.replicate n p.1 := fun n => List.filter_eq_self.mpr fun a ha => by rw [(List.mem_replicate.1 ha).2]; simpa using z
    rw [if_pos z, f]
    simp
    omega
  · have f : ∀ n, (List.replicate n p.1).filter (fun y => decide (y = x)) = [] := fun n => List.filter_eq_nil_iff.mpr fun a ha => by rw [(List.mem_replicate.1 ha).2]; simpa using z
    rw [if_neg z, f]
    simp
theorem z_among (w : Wrd) (n x : Int) (S : Store) (hw : w.length ≤ 1000) (hp : ∀ p ∈ w, 1 ≤ p.2) : F__law_letters_of [wD w, .int n, .int x] S = some (.ok (.int (cnt (expand w) x n)) S) := by
  refine w_defP ?_ rfl
  unfold fsF__law_letters_of
  simp -dsimp
  refine w_for (fun i env S' => env = [some (wD w), some (.int n), some (.int x), some (.int (ln (w.take i))), some (.int (cnt (expand (w.take i)) x n)), none, none] ∧ S' = S) ⟨by simp [cnt, expand], rfl⟩ ?_ ?_
  · rintro i y _ _ hi ⟨rfl, rfl⟩
    rw [List.getElem?_map, Option.map_eq_some_iff] at hi
    obtain ⟨⟨l, m⟩, hp', rfl⟩ := hi
    have c := cnt_snoc (v := w.take i) (p := (l, m)) (fun q hq => hp q (List.mem_of_mem_take hq)) (hp _ (List.mem_of_getElem? hp')) x n
    have c2 := ln_take_succ hp'
    have c3 : w.take (i + 1) = w.take i ++ [(l, m)] := by rw [List.take_add_one, hp']; rfl
    rw [← c3] at c
    unfold LF__law_letters_of_1
    by_cases z : l = x
    · rw [if_pos z] at c
      simp -dsimp [encP, z]
      exact Hi_i ⟨by rw [c, c2], rfl⟩
    · rw [if_neg z] at c
      simp -dsimp [encP, z]
      exact Hi_i ⟨by rw [c, c2]; simp, rfl⟩
  · rintro _ _ ⟨rfl, rfl⟩
    rw [List.length_map, List.take_of_length_le (Nat.le_refl _)]
    simp -dsimp
theorem cnt_sum (l : List Int) (x y m : Int) (h : ∀ z ∈ l, z = x ∨ z = y) (hxy : x ≠ y) (h0 : 0 ≤ m) (hm : m ≤ l.length) : cnt l x m + cnt l y m = m := by
  have : ∀ q : List Int, (∀ z ∈ q, z = x ∨ z = y) → (((q.filter fun z => decide (z = x)).length : Nat) : Int) + ((q.filter fun z => decide (z = y)).length : Nat) = q.length := by
    intro q
    induction q with
    | nil => intro _; rfl
    | cons z q ih =>
      intro hq
      have i := ih fun u hu => hq u (List.mem_cons_of_mem _ hu)
      rcases hq z List.mem_cons_self with rfl | rfl
      · simp [hxy]; omega
      · simp [Ne.symm hxy]; omega
  have e := this (l.take m.toNat) fun z hz => h z (List.mem_of_mem_take hz)
  unfold cnt
  rw [List.length_take] at e
  omega
theorem cnt_sumU {u : W3} {m : Nat} (hu : WOk u m) {x y z k : Int} (hx : K3 x) (hy : K3 y) (hz : K3 z) (h1 : y ≠ x) (h2 : z ≠ x) (h3 : y ≠ z) (h0 : 0 ≤ k) (hk : k ≤ ln (u x)) : cnt (expand (u x)) y k + cnt (expand (u x)) z k = k := by
  have hw := hu.g x hx
  refine cnt_sum _ _ _ _ (fun q hq => ?_) h3 h0 (by rw [len_expand _ hw.pos]; exact hk)
  obtain ⟨p, hp, rfl⟩ := mem_expand hq
  have := hw.kind p hp
  unfold K3 at *
  omega
end FCL

set_option Elab.async false
set_option linter.all false
set_option maxRecDepth 100000
set_option maxHeartbeats 4000000
namespace FCL
open PySem PySem.Spec L2 FC
/-! ### crowds drawn -/
theorem w_near {S0 L : Store} {d : Dv} {j k : Nat} {u : W3} {wh : Bool} {Q : Rs Dv → Prop} (hj : j < S0.length) (hp : Pool k d) (hk : k ≤ 9000) (hu : WOk u 200) (h1 : 1 ≤ tot u) (h2 : tot u ≤ 10 ^ 18) (h : ∀ (t : T3) (d' : Dv), t.Nn → (wh = true → t.s = tot u + 1) → Pool (k + 20) d' → Q (.ok (tD3 t) (stP S0 j d' L))) : We (F__law_near [.obj j, tD3 (kp u), wsD u, .bl wh] (stP S0 j d L)) Q := by
  have q := tot_nn hu
  have l0 := hu.l 0 (.inl rfl)
  have l1 := hu.l 1 (.inr (.inl rfl))
  have l2 := hu.l 2 (.inr (.inr rfl))
  have a0 := fun n x S => z_among (u 0) n x S (by omega) (hu.g 0 (.inl rfl)).pos
  have a1 := fun n x S => z_among (u 1) n x S (by omega) (hu.g 1 (.inr (.inl rfl))).pos
  have a2 := fun n x S => z_among (u 2) n x S (by omega) (hu.g 2 (.inr (.inr rfl))).pos
  refine w_defD (j := j) ?_
  unfold fsF__law_near
  simp -dsimp
  refine w_draw hj hp (by omega) (by decide) (by decide) fun x d1 x0 x1 p1 => ?_
  have hx := K3.of x0 x1
  have hux : 0 ≤ ln (u x) ∧ ln (u x) ≤ tot u := by
    unfold tot
    rcases hx with rfl | rfl | rfl <;> omega
  simp -dsimp [at_tD _ hx]
  refine Br_mid (fun y => ∃ c d3, y = .nx [some (.obj j), some (tD3 (kp u)), some (wsD u), some (.bl wh), some (.int x), some (.int c), none, none, none] (stP S0 j d3 L) ∧ 0 ≤ c ∧ c ≤ ln (u x) ∧ Pool (k + 11) d3) (fun z => ?_) (fun z => ?_) ?_
  · have e : (kp u).at x = ln (u x) := by rcases hx with rfl | rfl | rfl <;> rfl
    rw [e] at z
    simp at z
    simp -dsimp [at_ws hx]
    refine w_lack hj p1 (by omega) (hu.l x hx) (by omega) (by omega) fun c d3 c0 c1 p3 => ?_
    simp -dsimp
    exact Hd_i ⟨_, _, rfl, by omega, c1, p3⟩
  · simp -dsimp
    exact Hd_i ⟨_, _, rfl, by omega, hux.1, p1.mono (by omega)⟩
  rintro _ ⟨c, d3, rfl, c0, c1, p3⟩
  simp -dsimp
  refine w_draw hj p3 (by omega) (by decide) (by decide) fun v d4 v0 v1 p4 => ?_
  have hv : v = 0 ∨ v = 1 := by omega
  unfold tot at h
  rcases hx with rfl | rfl | rfl <;> rcases hv with rfl | rfl
  all_goals
    simp -dsimp [kp, a0, a1, a2]
    refine w_draw hj p4 (by omega) (by decide) (by decide) fun v2 d5 v20 v21 p5 => ?_
    simp -dsimp [kp, a0, a1, a2]
    refine w_draw hj p5 (by omega) (by decide) (by decide) fun v3 d6 v30 v31 p6 => ?_
    simp -dsimp [kp]
    cases wh
    · simp -dsimp
      refine PD_end _ p6 (okO_tD3 (t := ⟨_, _, _⟩)) (h ⟨_, _, _⟩ d6 ⟨?_, ?_, ?_⟩ (by intro h; cases h) (p6.mono (by omega))) <;> simp only <;> omega
    · simp -dsimp [kp]
      refine PD_end _ p6 (okO_tD3 (t := ⟨_, _, _⟩)) (h ⟨_, _, _⟩ d6 ⟨?_, ?_, ?_⟩ (fun _ => ?_) (p6.mono (by omega))) <;> (try unfold T3.s) <;> simp only <;> omega
theorem w_any {S0 L : Store} {d : Dv} {j k : Nat} {t : T3} {Q : Rs Dv → Prop} (hj : j < S0.length) (hp : Pool k d) (hk : k ≤ 10000) (ht : t.Nn) (h : ∀ (s : T3) (d' : Dv), s.Nn → Pool (k + 20) d' → Q (.ok (tD3 s) (stP S0 j d' L))) : We (F__law_any [.obj j, tD3 t] (stP S0 j d L)) Q := by
  refine w_defD (j := j) ?_
  unfold fsF__law_any
  simp -dsimp [-FC.w_for_cons]
  refine w_for (xs := [.int 0, .int 1, .int 2]) (fun i env S => ∃ l : List Int, ∃ d', env = [some (.obj j), some (tD3 t), some (.obj (S0.length + L.length)), none, none] ∧ S = stP S0 j d' (L ++ [.lst (l.map .int)]) ∧ l.length = i ∧ (∀ y ∈ l, 0 ≤ y) ∧ Pool (k + 4 * i) d') ⟨[], d, rfl, rfl, rfl, by simp, hp⟩ ?_ ?_
  · rintro i y _ _ hi ⟨l, d5, rfl, rfl, hl, hy, p5⟩
    have hi2 := (List.getElem?_eq_some_iff.1 hi).1
    simp at hi2
    obtain ⟨x, hx, rfl⟩ : ∃ x, K3 x ∧ y = .int x := by
      rcases i with _ | _ | _ | i
      · simp at hi; exact ⟨0, .inl rfl, hi.symm⟩
      · simp at hi; exact ⟨1, .inr (.inl rfl), hi.symm⟩
      · simp at hi; exact ⟨2, .inr (.inr rfl), hi.symm⟩
      · omega
    have hxt : 0 ≤ t.at x := by
      obtain ⟨t0, t1, t2⟩ := ht
      rcases hx with rfl | rfl | rfl <;> assumption
    have fin : ∀ (v : Int) (d6 : Dv), 0 ≤ v → Pool (k + 4 * i + 3) d6 → ∃ l' : List Int, ∃ d', [some (Dv.obj j), some (tD3 t), some (.obj (S0.length + L.length)), none, none] = [some (Dv.obj j), some (tD3 t), some (.obj (S0.length + L.length)), none, none] ∧ stP S0 j d6 (L ++ [.lst (l.map .int ++ [.int v])]) = stP S0 j d' (L ++ [.lst (l'.map .int)]) ∧ l'.length = i + 1 ∧ (∀ y ∈ l', 0 ≤ y) ∧ Pool (k + 4 * (i + 1)) d' := fun v d6 v0 p6 => ⟨l ++ [v], d6, rfl, by simp, by simp; omega, by
      intro y hy'
      rcases List.mem_append.1 hy' with hy' | hy'
      · exact hy y hy'
      · simp at hy'; omega, p6.mono (by omega)⟩
    have hll : l.length ≤ 1000000 := by omega
    unfold LF__law_any_1
    simp -dsimp
    refine w_draw hj p5 (by omega) (by decide) (by decide) fun a d6 a0 a1 p6 => ?_
    simp -dsimp
    refine Br_dec (fun z => ?_) (fun z => ?_)
    · simp -dsimp
      refine w_great hj p6 (by omega) fun b d8 b0 b1 p8 => ?_
      simp -dsimp [hll]
      exact Hi_i (fin _ _ b0 p8)
    simp -dsimp
    refine Br_dec (fun z => ?_) (fun z => ?_)
    · simp -dsimp
      refine w_great hj p6 (by omega) fun b d8 b0 b1 p8 => ?_
      simp -dsimp [hll, at_tD _ hx, show 0 < t.at x + 1 by omega]
      exact Hi_i (fin _ _ (Int.emod_nonneg _ (by omega)) p8)
    simp -dsimp
    refine Br_dec (fun z => ?_) (fun z => ?_)
    · simp -dsimp [at_tD _ hx]
      refine w_draw hj p6 (by omega) (by decide) (by decide) fun b d8 b0 b1 p8 => ?_
      simp -dsimp [hll]
      exact Hi_i (fin _ _ (by omega) (p8.mono (by omega)))
    · simp -dsimp
      refine w_draw hj p6 (by omega) (by decide) (by decide) fun b d8 b0 b1 p8 => ?_
      simp -dsimp [hll]
      exact Hi_i (fin _ _ (by omega) (p8.mono (by omega)))
  · rintro _ _ ⟨l, d5, rfl, rfl, hl, hy, p5⟩
    simp only [List.length_cons, List.length_nil] at hl p5
    obtain ⟨a, b, c, rfl⟩ : ∃ a b c, l = [a, b, c] := by
      rcases l with _ | ⟨a, _ | ⟨b, _ | ⟨c, _ | ⟨e, l⟩⟩⟩⟩ <;> simp at hl
      exact ⟨a, b, c, rfl⟩
    simp -dsimp
    exact PD_end _ p5 (okO_tD3 (t := ⟨a, b, c⟩)) (h ⟨a, b, c⟩ d5 ⟨hy a (by simp), hy b (by simp), hy c (by simp)⟩ (p5.mono (by omega)))
theorem w_meeting {S0 L : Store} {d : Dv} {j k : Nat} {n : Int} {Q : Rs Dv → Prop} (hj : j < S0.length) (hp : Pool k d) (hk : k ≤ 10000) (hn : 1 ≤ n) (h : ∀ (s : T3) (d' : Dv), s.Nn → s.s = n + 1 → Pool (k + 20) d' → Q (.ok (tD3 s) (stP S0 j d' L))) : We (F__law_any_meeting [.obj j, .int n] (stP S0 j d L)) Q := by
  refine w_defD (j := j) ?_
  unfold fsF__law_any_meeting
  simp -dsimp
  refine w_great hj hp (by omega) fun b d1 b0 b1 p1 => ?_
  simp -dsimp [show 0 < n + 2 by omega]
  have e0 := Int.emod_nonneg b (show n + 2 ≠ 0 by omega)
  have e1 := Int.emod_lt_of_pos b (show 0 < n + 2 by omega)
  generalize b % (n + 2) = x at *
  refine w_great hj p1 (by omega) fun c d2 c0 c1 p2 => ?_
  have om : ∀ S, oMod (.int c) (.int (n + 2 - x)) S = _ := fun S => oMod_i (by omega)
  simp -dsimp [om]
  have f0 := Int.emod_nonneg c (show n + 2 - x ≠ 0 by omega)
  have f1 := Int.emod_lt_of_pos c (show 0 < n + 2 - x by omega)
  generalize c % (n + 2 - x) = y at *
  refine w_draw hj p2 (by omega) (by decide) (by decide) fun t d3 t0 t1 p3 => ?_
  have ht := K3.of t0 t1
  rcases ht with rfl | rfl | rfl
  all_goals
    simp -dsimp
    refine PD_end0 p3 (okO_tD3 (t := ⟨_, _, _⟩)) (h ⟨_, _, _⟩ d3 ⟨?_, ?_, ?_⟩ ?_ (p3.mono (by omega))) <;> (try unfold T3.s) <;> simp only <;> omega
end FCL

set_option Elab.async false
set_option linter.all false
set_option maxRecDepth 100000
set_option maxHeartbeats 4000000
namespace FCL
open PySem PySem.Spec L2 FC
theorem gsK_app {ks : List Nat} {S G : Store} {env env' : DEnv} {P : Rf → Prop} (h : fzE S.length (S ++ G) (fgt ks env) = some env') (k : P (.nx env' S)) : gsK ks S P (.nx env (S ++ G)) := by
  unfold gsK
  rw [gcS_nx h]
  exact Ws_of rfl k
theorem gsK_P {S0 L G : Store} {j k : Nat} {d d' : Dv} {ks : List Nat} {env env' : DEnv} {P : Rf → Prop} (hp : Pool k d') (h : fzE (S0.length + L.length) (stP S0 j d' (L ++ G)) (fgt ks env) = some env') (q : P (.nx env' (stP S0 j d' L))) : gsK ks (stP S0 j d L) P (.nx env (stP S0 j d' (L ++ G))) := by
  unfold gsK gcS
  simp only [if_pos (stP_ok (S0 := S0) (L := L) (G := G) (j := j) (d := d) hp), show (stP S0 j d L).length = S0.length + L.length by simp, h]
  rw [show stP S0 j d' (L ++ G) = stP S0 j d' L ++ G by simp, List.take_append_of_le_length (by simp), List.take_of_length_le (by simp)]
  exact Ws_of rfl q
/-! ### one letter changed -/
/-- how many letters are y -/
def lc (y : Int) (w : Wrd) : Int := (w.map fun p => if p.1 = y then p.2 else 0).sum
@[simp] theorem lc_app (y : Int) (u v : Wrd) : lc y (u ++ v) = lc y u + lc y v := by simp [lc]
@[simp] theorem lc_one (y a n : Int) : lc y [(a, n)] = if a = y then n else 0 := by simp [lc]
@[simp] theorem lc_nil (y : Int) : lc y [] = 0 := rfl
theorem lc_cons (y : Int) (p : Int × Int) (w : Wrd) : lc y (p :: w) = (if p.1 = y then p.2 else 0) + lc y w := by simp [lc]
theorem lc_take_succ {w : Wrd} {i : Nat} {p : Int × Int} (y : Int) (h : w[i]? = some p) : lc y (w.take (i + 1)) = lc y (w.take i) + (if p.1 = y then p.2 else 0) := by
  rw [List.take_add_one, h, lc_app]
  obtain ⟨a, n⟩ := p
  simp
theorem lc_longer (y : Int) (w : Wrd) (x m : Int) : lc y (longer w x m) = lc y w + (if x = y then m else 0) := by
  by_cases z : m = 0
  · subst z
    have e : longer w x 0 = w := if_pos rfl
    rw [e]; simp
  · obtain rfl | ⟨u, p, rfl⟩ := List.eq_nil_or_concat w
    · rw [longer_nil x m z]; simp
    · rw [List.concat_eq_append] at *
      rw [longer_app _ _ _ _ z]
      obtain ⟨a, n⟩ := p
      by_cases h : a = x
      · subst h
        rw [if_pos rfl]
        simp only [lc_app, lc_one]
        by_cases h2 : a = y
        · rw [if_pos h2, if_pos h2, if_pos h2]; omega
        · rw [if_neg h2, if_neg h2, if_neg h2]; omega
      · rw [if_neg h]
        simp only [lc_app, lc_one]
/-- the pieces after i stretches -/
structure Pc (w P : Wrd) (k at' : Int) (i : Nat) : Prop where
  len : ln P = ln (w.take i)
  ok : ∀ p ∈ P, (0 ≤ p.1 ∧ p.1 < 3 ∧ p.1 ≠ k) ∧ 0 ≤ p.2
  sz : P.length ≤ i + 2
  bef : ln (w.take i) ≤ at' → P = w.take i
  aft : at' < ln (w.take i) → ∃ y, lc y P ≠ lc y (w.take i)
theorem pc_same {w P : Wrd} {k at' l m : Int} {i : Nat} (h : Pc w P k at' i) (hg : WG w k) (hi : w[i]? = some (l, m)) (hn : ¬ (ln (w.take i) ≤ at' ∧ at' < ln (w.take i) + m)) : Pc w (P ++ [(l, m)]) k at' (i + 1) := by
  obtain ⟨h1, h2, h3, h4, h5⟩ := h
  have e := ln_take_succ hi
  have hm := List.mem_of_getElem? hi
  have g1 := hg.kind _ hm
  have g2 := hg.pos _ hm
  simp only at g1 g2 e
  have e3 : w.take (i + 1) = w.take i ++ [(l, m)] := by rw [List.take_add_one, hi]; rfl
  refine ⟨by rw [e, ln_app, ln_one, h1], fun p hp => ?_, by simp; omega, fun hb => ?_, fun ha => ?_⟩
  · rcases List.mem_append.1 hp with hp | hp
    · exact h2 p hp
    · simp at hp; subst hp; exact ⟨g1, by simp only; omega⟩
  · rw [e3, h4 (by omega)]
  · have hb : at' < ln (w.take i) := by clear h4 h5; omega
    obtain ⟨y, hy⟩ := h5 hb
    refine ⟨y, fun q => hy ?_⟩
    rw [e3, lc_app, lc_app] at q
    omega
theorem pc_cut {w P : Wrd} {k at' l m : Int} {i : Nat} (hk : K3 k) (h : Pc w P k at' i) (hg : WG w k) (hi : w[i]? = some (l, m)) (h0 : ln (w.take i) ≤ at') (h1' : at' < ln (w.take i) + m) (hs : P.length ≤ i) : Pc w (P ++ [(l, at' - ln (w.take i))] ++ [(3 - k - l, 1)] ++ [(l, ln (w.take i) + m - at' - 1)]) k at' (i + 1) := by
  obtain ⟨h1, h2, h3, h4, h5⟩ := h
  have e := ln_take_succ hi
  have hm := List.mem_of_getElem? hi
  have g1 := hg.kind _ hm
  have g2 := hg.pos _ hm
  simp only at g1 g2 e
  have e3 : w.take (i + 1) = w.take i ++ [(l, m)] := by rw [List.take_add_one, hi]; rfl
  have o2 := hk.o2 g1
  have ne : 3 - k - l ≠ l := by rcases hk with rfl | rfl | rfl <;> omega
  refine ⟨by rw [e]; simp only [ln_app, ln_one]; omega, fun p hp => ?_, by simp; omega, fun hb => by omega, fun ha => ⟨3 - k - l, ?_⟩⟩
  · simp only [List.mem_append, List.mem_singleton] at hp
    rcases hp with ((hp | hp) | hp) | hp
    · exact h2 p hp
    · subst hp; exact ⟨g1, by simp only; omega⟩
    · subst hp; exact ⟨o2, by simp only; omega⟩
    · subst hp; exact ⟨g1, by simp only; omega⟩
  · rw [e3, h4 h0]
    simp only [lc_app, lc_one, if_neg (Ne.symm ne), if_pos]
    omega
theorem z_turned (w : Wrd) (k at' : Int) (S : Store) (hk : K3 k) (hg : WG w k) (hl : w.length ≤ 200) (h0 : 0 ≤ at') (h1 : at' < ln w) : ∃ v, F__law_turned [wD w, .int k, .int at'] S = some (.ok (wD v) S) ∧ WG v k ∧ ln v = ln w ∧ v.length ≤ w.length + 2 ∧ v ≠ w := by
  suffices H : We (bodyF 8 fsF__law_turned [wD w, .int k, .int at'] S) (fun r => ∃ v G, r = .ok (wD v) (S ++ G) ∧ WG v k ∧ ln v = ln w ∧ v.length ≤ w.length + 2 ∧ v ≠ w) by
    obtain ⟨_, e, v, G, rfl, hv⟩ := H
    exact ⟨v, gcD_of e (by simp), hv⟩
  rw [w_body]
  unfold fsF__law_turned
  simp -dsimp
  refine w_for (fun i env S' => ∃ P, env = [some (wD w), some (.int k), some (.int at'), some (.obj S.length), some (.int (ln (w.take i))), none, none, none] ∧ S' = S ++ [.lst (P.map encP)] ∧ Pc w P k at' i ∧ (ln (w.take i) ≤ at' → P.length ≤ i)) ⟨[], by simp, rfl, ⟨by simp, by simp, by simp, by simp, by simp; omega⟩, by simp⟩ ?_ ?_
  · rintro i y _ _ hi ⟨P, rfl, rfl, hP, hs⟩
    rw [List.getElem?_map, Option.map_eq_some_iff] at hi
    obtain ⟨⟨l, m⟩, hi, rfl⟩ := hi
    have hi2 := (List.getElem?_eq_some_iff.1 hi).1
    have e := ln_take_succ hi
    have sz := hP.sz
    have z1 : P.length ≤ 1000000 := by omega
    have z2 : P.length + 1 ≤ 1000000 := by omega
    have z3 : P.length + 1 + 1 ≤ 1000000 := by omega
    unfold LF__law_turned_1
    simp -dsimp [encP]
    by_cases a1 : ln (w.take i) ≤ at'
    · by_cases a2 : at' < ln (w.take i) + m
      · simp -dsimp [a1, a2, z1, z2, z3]
        exact Hi_i ⟨_, by rw [e], by simp [encP], pc_cut hk hP hg hi a1 a2 (hs a1), fun h => by omega⟩
      · simp -dsimp [a1, a2, z1, z2, z3]
        exact Hi_i ⟨_, by rw [e], by simp [encP], pc_same hP hg hi (by omega), fun h => by have := hs a1; simp; omega⟩
    · simp -dsimp [a1, z1, z2, z3]
      exact Hi_i ⟨_, by rw [e], by simp [encP], pc_same hP hg hi (by omega), fun h => by have := hg.pos _ (List.mem_of_getElem? hi); simp only at this; omega⟩
  · rintro _ _ ⟨P, rfl, rfl, hP, hs⟩
    obtain ⟨p1, p2, p3, p4, p5⟩ := hP
    rw [List.length_map] at *
    rw [List.take_of_length_le (Nat.le_refl _)] at *
    have hfz : okOs S.length (P.map encP) = true := okOs_encP P
    refine gsK_app (G := [.lst (P.map encP)]) (env' := [some (wD w), some (.int k), some (.int at'), some (.lst (P.map encP)), none, none, none, none]) ?_ ?_
    · simp only [fgt_cons, fgt_nil, List.set_cons_succ, List.set_cons_zero]
      repeat' first
        | exact fzE_nil
        | refine fzE_none ?_
        | refine fzE_cons (fzd_ok0 (by simp)) ?_
        | refine fzE_cons (fzd_obj (Nat.le_refl _) (by simp) (fzs_ok0 hfz)) ?_
    simp -dsimp
    refine w_for (fun i env S' => ∃ T, env = [some (wD w), some (.int k), some (.int at'), some (.lst (P.map encP)), none, none, none, some (.obj S.length)] ∧ S' = S ++ [.lst (T.map encP)] ∧ WG T k ∧ ln T = ln (P.take i) ∧ T.length ≤ i ∧ ∀ y, lc y T = lc y (P.take i)) ⟨[], rfl, rfl, WG.nil, by simp, by simp, by simp⟩ ?_ ?_
    · rintro i y _ _ hi ⟨T, rfl, rfl, t1, t2, t3', t4⟩
      rw [List.getElem?_map, Option.map_eq_some_iff] at hi
      obtain ⟨⟨l, m⟩, hi, rfl⟩ := hi
      have hi2 := (List.getElem?_eq_some_iff.1 hi).1
      have g := p2 _ (List.mem_of_getElem? hi)
      simp only at g
      have lo := longer_ok (m := m) t1 g.1 g.2
      have lcl := fun y => lc_longer y T l m
      have e1 := ln_take_succ hi
      have e2 := fun y => lc_take_succ y hi
      simp only at e1 e2
      have z1 : T.length ≤ 1000000 := by omega
      unfold LF__law_turned_2
      by_cases z : m = 0
      · subst z
        simp -dsimp [encP]
        exact Hi_i ⟨T, rfl, rfl, t1, by omega, by omega, fun y => by rw [t4 y, e2 y]; simp⟩
      · have mp : 0 < m := by omega
        have fin : Hi (fun i env S' => ∃ T, env = [some (wD w), some (.int k), some (.int at'), some (.lst (P.map encP)), none, none, none, some (.obj S.length)] ∧ S' = S ++ [.lst (T.map encP)] ∧ WG T k ∧ ln T = ln (P.take i) ∧ T.length ≤ i ∧ ∀ y, lc y T = lc y (P.take i)) (i + 1) [some (wD w), some (.int k), some (.int at'), some (.lst (P.map encP)), none, none, none, some (.obj S.length)] (S ++ [.lst ((longer T l m).map encP)]) :=
          Hi_i ⟨_, rfl, rfl, lo.1, by omega, by omega, fun y => by rw [lcl y, e2 y, t4 y]⟩
        obtain rfl | ⟨v, p, rfl⟩ := List.eq_nil_or_concat T
        · rw [longer_nil l m z] at fin
          simp -dsimp [encP, mp]
          exact fin
        · rw [List.concat_eq_append] at *
          rw [longer_app _ _ _ _ z] at fin
          obtain ⟨a, n⟩ := p
          have el := atI_last (v.map encP) (.tup [.int a, .int n])
          have il := ixN_last v.length
          have pp : (0 : Int) < (v.length : Int) + 1 := by omega
          have z2 : v.length + 1 ≤ 1000000 := by simp at z1; omega
          simp only [List.map_append, List.map_cons, List.map_nil] at fin ⊢
          by_cases q : a = l
          · subst q
            rw [if_pos rfl] at fin
            simp -dsimp [encP, mp, el, pp, il, z2]
            simpa [encP] using fin
          · rw [if_neg q] at fin
            simp -dsimp [encP, mp, el, pp, il, q, z2]
            simpa [encP] using fin
    · rintro _ _ ⟨T, rfl, rfl, t1, t2, t3', t4⟩
      rw [List.length_map] at *
      rw [List.take_of_length_le (Nat.le_refl _)] at *
      have z1 : T.length ≤ 1000000 := by omega
      simp -dsimp [z1]
      refine ⟨T, rfl, t1, by omega, by omega, fun e => ?_⟩
      obtain ⟨y, hy⟩ := p5 h1
      exact hy (by rw [← t4 y, e])
end FCL

set_option Elab.async false
set_option linter.all false
set_option maxRecDepth 100000
set_option maxHeartbeats 4000000
namespace FCL
open PySem PySem.Spec L2 FC
/-! ### the end that is due -/
theorem tup3 {x y z : Int} {t : T3} (h1 : x = t.a) (h2 : y = t.b) (h3 : z = t.c) : Dv.tup [.int x, .int y, .int z] = tD3 t := by subst h1 h2 h3; rfl
theorem z_due (u : W3) (hu : WOk u 200) (c : T3) (S : Store) (hc : c.Nn) : F__law_due_end [tD3 (kp u), wsD u, tD3 c] S = some (.ok (tD3 (En (gn u) (kp u) c)) S) := by
  obtain ⟨a, b, d⟩ := c
  obtain ⟨n0, n1, n2⟩ : 0 ≤ a ∧ 0 ≤ b ∧ 0 ≤ d := hc
  have e : tot u = ln (u 0) + ln (u 1) + ln (u 2) := by unfold tot; omega
  have kpe : kp u = ⟨ln (u 0), ln (u 1), ln (u 2)⟩ := rfl
  have t := tot_nn hu
  have k0 : K3 0 := .inl rfl
  have k1 : K3 1 := .inr (.inl rfl)
  have k2 : K3 2 := .inr (.inr rfl)
  have s0 := fun (h0 : 0 ≤ ln (u 0) - a) => cnt_sumU hu k0 k1 k2 (by decide) (by decide) (by decide) h0 (by omega)
  have s1 := fun (h0 : 0 ≤ ln (u 1) - b) => cnt_sumU hu k1 k0 k2 (by decide) (by decide) (by decide) h0 (by omega)
  have s2 := fun (h0 : 0 ≤ ln (u 2) - d) => cnt_sumU hu k2 k0 k1 (by decide) (by decide) (by decide) h0 (by omega)
  have c01 := cnt_nn (expand (u 0)) 1 (ln (u 0) - a)
  have c02 := cnt_nn (expand (u 0)) 2 (ln (u 0) - a)
  have c10 := cnt_nn (expand (u 1)) 0 (ln (u 1) - b)
  have c12 := cnt_nn (expand (u 1)) 2 (ln (u 1) - b)
  have c20 := cnt_nn (expand (u 2)) 0 (ln (u 2) - d)
  have c21 := cnt_nn (expand (u 2)) 1 (ln (u 2) - d)
  have l0 := hu.l 0 (.inl rfl)
  have l1 := hu.l 1 (.inr (.inl rfl))
  have l2 := hu.l 2 (.inr (.inr rfl))
  have a0 := fun n x S => z_among (u 0) n x S (by omega) (hu.g 0 (.inl rfl)).pos
  have a1 := fun n x S => z_among (u 1) n x S (by omega) (hu.g 1 (.inr (.inl rfl))).pos
  have a2 := fun n x S => z_among (u 2) n x S (by omega) (hu.g 2 (.inr (.inr rfl))).pos
  refine w_def ?_ rfl
  unfold fsF__law_due_end LF__law_due_end_1 LF__law_due_end_2 LF__law_due_end_3
  by_cases z : a + (b + d) < ln (u 0) + (ln (u 1) + ln (u 2))
  · have hE : En (gn u) (kp u) ⟨a, b, d⟩ = ⟨a, b, d⟩ := if_pos (by unfold T3.s kp; simp only; omega)
    rw [hE]
    simp -dsimp (decide := true) [z, kp]
  · have z' : ¬ a + b + d < ln (u 0) + ln (u 1) + ln (u 2) := by omega
    by_cases za : a < ln (u 0)
    · have eE := en_a (G := gn u) z' za
      rw [← kpe] at eE
      rw [eE]
      have s0 := s0 (by omega)
      unfold gn
      simp only
      by_cases zb : b < ln (u 1) <;> by_cases zc : d < ln (u 2)
      · omega
      · simp -dsimp (decide := true) [z, kp, za, zb, zc]
        exact tup3 (by simp only; try omega) (by simp only; omega) (by simp only; omega)
      · simp -dsimp (decide := true) [z, kp, za, zb, zc]
        exact tup3 (by simp only; try omega) (by simp only; omega) (by simp only; omega)
      · simp -dsimp (decide := true) [z, kp, za, zb, zc, a0]
        refine Br_dec (fun q => ?_) (fun q => ?_)
        · simp -dsimp (decide := true)
          refine Br_dec (fun q => ?_) (fun q => ?_)
          · simp -dsimp (decide := true)
            exact tup3 (by simp only; try omega) (by simp only; omega) (by simp only; omega)
          · simp -dsimp (decide := true)
            exact tup3 (by simp only; try omega) (by simp only; omega) (by simp only; omega)
        · simp -dsimp (decide := true)
          refine Br_dec (fun q => ?_) (fun q => ?_)
          · simp -dsimp (decide := true)
            exact tup3 (by simp only; try omega) (by simp only; omega) (by simp only; omega)
          · simp -dsimp (decide := true)
            exact tup3 (by simp only; try omega) (by simp only; omega) (by simp only; omega)
    · by_cases zb : b < ln (u 1)
      · have eE := en_b (G := gn u) z' za zb
        rw [← kpe] at eE
        rw [eE]
        have s1 := s1 (by omega)
        unfold gn
        simp only
        by_cases zc : d < ln (u 2)
        · simp -dsimp (decide := true) [z, kp, za, zb, zc]
          exact tup3 (by simp only; try omega) (by simp only; try omega) (by simp only; try omega)
        · simp -dsimp (decide := true) [z, kp, za, zb, zc, a1]
          refine Br_dec (fun q => ?_) (fun q => ?_) <;> simp -dsimp (decide := true) <;> refine Br_dec (fun q => ?_) (fun q => ?_) <;> simp -dsimp (decide := true) <;>
          exact tup3 (by simp only; try omega) (by simp only; try omega) (by simp only; try omega)
      · by_cases zc : d < ln (u 2)
        · have eE := en_c (G := gn u) z' za zb zc
          rw [← kpe] at eE
          rw [eE]
          have s2 := s2 (by omega)
          unfold gn
          simp only
          simp -dsimp (decide := true) [z, kp, za, zb, zc, a2]
          refine Br_dec (fun q => ?_) (fun q => ?_) <;> simp -dsimp (decide := true) <;> refine Br_dec (fun q => ?_) (fun q => ?_) <;> simp -dsimp (decide := true) <;>
          exact tup3 (by simp only; try omega) (by simp only; try omega) (by simp only; try omega)
        · have eE := en_k (G := gn u) z' za zb zc
          rw [← kpe] at eE
          rw [eE]
          simp -dsimp (decide := true) [z, kp, za, zb, zc]
          rfl
end FCL

set_option Elab.async false
set_option linter.all false
set_option maxRecDepth 100000
set_option maxHeartbeats 4000000
namespace FCL
open PySem PySem.Spec L2 FC
/-! ### _law_same -/
/-- data that _law_same compares with itself: scalars, tuples, lists; depth below n, not too long -/
def cmpD : Nat → Dv → Bool
  | 0, _ => false
  | n + 1, x => match x with
    | .non => true
    | .bl _ => true
    | .int _ => true
    | .str _ => true
    | .tup xs => decide (xs.length ≤ 1000000) && xs.all (cmpD n)
    | .lst xs => decide (xs.length ≤ 1000000) && xs.all (cmpD n)
    | _ => false
theorem s_loop {n : Nat} {x y : Dv} {xs : List Dv} {S : Store} (hx : seqOf x S = some xs) (hy : seqOf y S = some xs)
    (h : ∀ a ∈ xs, itF__law_same n [a, a] S = some (.ok (.bl true) S)) :
    forM' (bName 2) (LF__law_same_1 (itF__law_same n)) ((upTo 0 xs.length).map .int) [some x, some y, none] S = some (.nx [some x, some y, none] S) :=
  forM_const Dv.int _ S _ fun i hi => by
    obtain ⟨k, hk, rfl⟩ := mem_upTo hi
    have ex : xs[k]? = some xs[k] := List.getElem?_eq_getElem hk
    refine ⟨[some x, some y, some (.int k)], rfl, ?_⟩
    have := h _ (List.getElem_mem hk)
    unfold seqOf at hx hy
    simp [LF__law_same_1, hx, hy, atI_nat, ex, this]
theorem s_refl : ∀ (n : Nat) (x : Dv) (S : Store), cmpD n x = true → itF__law_same n [x, x] S = some (.ok (.bl true) S)
  | 0, x, S, h => by cases h
  | n + 1, x, S, h => by
    show gcD (bodyF 3 (fsF__law_same (itF__law_same n))) [x, x] S = _
    refine gcD_pure ?_ rfl
    cases x with
    | non => simp [fsF__law_same]
    | bl b => simp [fsF__law_same, oEq, eqD, eqS]
    | int i => simp [fsF__law_same]
    | str s => simp [fsF__law_same, oEq, eqD, eqS]
    | tup xs =>
      have h' : (decide (xs.length ≤ 1000000) && xs.all (cmpD n)) = true := h
      rw [Bool.and_eq_true, decide_eq_true_eq, List.all_eq_true] at h'
      have hc := s_loop (x := .tup xs) (y := .tup xs) (n := n) (S := S) (by simp) (by simp) fun a ha => s_refl n a S (h'.2 a ha)
      simp [fsF__law_same, h'.1, hc]
    | lst xs =>
      have h' : (decide (xs.length ≤ 1000000) && xs.all (cmpD n)) = true := h
      rw [Bool.and_eq_true, decide_eq_true_eq, List.all_eq_true] at h'
      have hc := s_loop (x := .lst xs) (y := .lst xs) (n := n) (S := S) (by simp) (by simp) fun a ha => s_refl n a S (h'.2 a ha)
      simp [fsF__law_same, h'.1, hc]
    | obj _ => cases h
    | ins _ _ => cases h
    | dic _ => cases h
    | dit _ => cases h
    | cls _ => cases h
theorem s_obj (n k : Nat) (xs : List Dv) (S : Store) (hS : S[k]? = some (.lst xs)) (h : cmpD (n + 1) (.lst xs) = true) : itF__law_same (n + 1) [.obj k, .lst xs] S = some (.ok (.bl true) S) := by
  show gcD (bodyF 3 (fsF__law_same (itF__law_same n))) [.obj k, .lst xs] S = _
  refine gcD_pure ?_ rfl
  have h' : (decide (xs.length ≤ 1000000) && xs.all (cmpD n)) = true := h
  rw [Bool.and_eq_true, decide_eq_true_eq, List.all_eq_true] at h'
  have hc := s_loop (x := .obj k) (y := .lst xs) (n := n) (S := S) (by simp [hS]) (by simp) fun a ha => s_refl n a S (h'.2 a ha)
  simp [fsF__law_same, hS, h'.1, hc]
/-- .. in short -/
theorem same_ {x : Dv} {S : Store} (h : cmpD 5 x = true) : F__law_same [x, x] S = some (.ok (.bl true) S) := s_refl 5 x S h
theorem same_o {k : Nat} {xs : List Dv} {S : Store} (hS : S[k]? = some (.lst xs)) (h : cmpD 5 (.lst xs) = true) : F__law_same [.obj k, .lst xs] S = some (.ok (.bl true) S) := s_obj 4 k xs S hS h
theorem cmp_ints {n : Nat} {xs : List Int} : (xs.map Dv.int).all (cmpD (n + 1)) = true := by simp [cmpD]
theorem cmp_tIn {n : Nat} {xs : List Int} (h : xs.length ≤ 1000000) : cmpD (n + 2) (tIn xs) = true := by
  show (decide ((xs.map Dv.int).length ≤ 1000000) && (xs.map Dv.int).all (cmpD (n + 1))) = true
  rw [cmp_ints]; simpa using h
theorem cmp_lIn {n : Nat} {xs : List Int} (h : xs.length ≤ 1000000) : cmpD (n + 2) (lIn xs) = true := by
  show (decide ((xs.map Dv.int).length ≤ 1000000) && (xs.map Dv.int).all (cmpD (n + 1))) = true
  rw [cmp_ints]; simpa using h
theorem cmp_tIs {n : Nat} {xss : List (List Int)} (h : xss.length ≤ 1000000) (h2 : ∀ xs ∈ xss, xs.length ≤ 1000000) : cmpD (n + 3) (.lst (tIs xss)) = true := by
  show (decide ((tIs xss).length ≤ 1000000) && (tIs xss).all (cmpD (n + 2))) = true
  rw [Bool.and_eq_true, List.all_eq_true]
  refine ⟨by simpa using h, fun d hd => ?_⟩
  obtain ⟨xs, hx, rfl⟩ := List.mem_map.1 hd
  exact cmp_tIn (h2 xs hx)
/-! ### several clauses, from the front -/
section
variable {l r : List ((Str → Option Bool) × Nat × (Str → List (Str × Dv) → FS))} {P : Rf → Prop} {s1 : FS} {env e : DEnv} {S s : Store} {c : Str} {f : List (Str × Dv)} {d : Dv} {cn : Str → Option Bool} {i : Nat} {fsu : Str → List (Str × Dv) → FS}
def tmK (l : List ((Str → Option Bool) × Nat × (Str → List (Str × Dv) → FS))) (P : Rf → Prop) : Rf → Prop
  | .exc c f e s => Ws (clsA c f e s l) P
  | x => P x
@[simp ↓] theorem tmK_nx : tmK l P (.nx e s) = P (.nx e s) := rfl
@[simp ↓] theorem tmK_rt : tmK l P (.rt d s) = P (.rt d s) := rfl
@[simp ↓] theorem tmK_exc : tmK l P (.exc c f e s) = Ws (clsA c f e s l) P := rfl
@[simp ↓] theorem w_sTryM : Ws (sTryM s1 l env S) P = Ws (s1 env S) (tmK l P) := by
  unfold sTryM
  cases h : s1 env S with
  | none => simp [Ws]
  | some x => rw [Ws_some]; cases x <;> simp [tmK]
@[simp ↓] theorem w_cls_nil : Ws (clsA c f e s []) P = P (.exc c f e s) := by unfold clsA; exact Ws_some
@[simp ↓] theorem w_cls_cons : Ws (clsA c f e s ((cn, i, fsu) :: r)) P = (match cn c with
    | some true => i < e.length ∧ Ws (fsu c f (e.set i none) s) (erK i P)
    | some false => Ws (clsA c f e s r) P
    | none => False) := by
  conv => lhs; unfold clsA
  cases h1 : cn c with
  | none => simp [Ws]
  | some t =>
    cases t with
    | false => simp
    | true =>
      simp only
      by_cases z : i < e.length
      · rw [if_pos z]
        simp only [z, true_and]
        cases h2 : fsu c f (e.set i none) s with
        | none => simp [Ws, erase]
        | some y => rw [Ws_some]; cases y <;> simp [erK, Ws, erase]
      · rw [if_neg z]
        simp [Ws, z]
end
/-! ### ends, goers -/
theorem cmp_wD {n : Nat} {w : Wrd} (h : w.length ≤ 1000000) : cmpD (n + 3) (wD w) = true := by
  show (decide ((w.map encP).length ≤ 1000000) && (w.map encP).all (cmpD (n + 2))) = true
  rw [Bool.and_eq_true, List.all_eq_true]
  refine ⟨by simpa using h, fun d hd => ?_⟩
  obtain ⟨p, _, rfl⟩ := List.mem_map.1 hd
  rfl
theorem same_t3 (t : T3) (S : Store) : F__law_same [tD3 t, tD3 t] S = some (.ok (.bl true) S) := same_ rfl
theorem same_i (x : Int) (S : Store) : F__law_same [.int x, .int x] S = some (.ok (.bl true) S) := same_ rfl
theorem same_ws {u : W3} (hu : WOk u 200) (S : Store) : F__law_same [wsD u, wsD u] S = some (.ok (.bl true) S) := same_ (by
    have l0 := hu.l 0 (.inl rfl)
    have l1 := hu.l 1 (.inr (.inl rfl))
    have l2 := hu.l 2 (.inr (.inr rfl))
    show (decide (List.length [wD (u 0), wD (u 1), wD (u 2)] ≤ 1000000) && List.all [wD (u 0), wD (u 1), wD (u 2)] (cmpD 4)) = true
    simp [cmp_wD (n := 1) (show (u 0).length ≤ 1000000 by omega), cmp_wD (n := 1) (show (u 1).length ≤ 1000000 by omega), cmp_wD (n := 1) (show (u 2).length ≤ 1000000 by omega)])
theorem z_ends (u : W3) (hu : WOk u 200) (a b c d : T3) (S : Store) (ha : a.Nn) (hb : b.Nn) (hc : c.Nn) (hd : d.Nn) : F__law_ends_right [shU u, tD3 (kp u), wsD u, .lst [tD3 a, tD3 b, tD3 c, tD3 d]] S = some (.ok (.bl true) S) := by
  have za := fun S => z_end u hu a S ha
  have zb := fun S => z_end u hu b S hb
  have zc := fun S => z_end u hu c S hc
  have zd := fun S => z_end u hu d S hd
  have ya := fun S => z_due u hu a S ha
  have yb := fun S => z_due u hu b S hb
  have yc := fun S => z_due u hu c S hc
  have yd := fun S => z_due u hu d S hd
  refine w_defP ?_ rfl
  unfold fsF__law_ends_right LF__law_ends_right_1
  simp -dsimp (decide := true) [za, zb, zc, zd, ya, yb, yc, yd, same_t3]
theorem z_goesr (u : W3) (hu : WOk u 200) (a b : T3) (S : Store) (ha : a.Nn) (hb : b.Nn) (na : a.s = tot u + 1) (nb : b.s = tot u + 1) : F__law_goes_right [shU u, tD3 (kp u), wsD u, .lst [tD3 a, tD3 b]] S = some (.ok (.bl true) S) := by
  obtain ⟨x, gx⟩ := goes_ex hu ha na
  obtain ⟨y, gy⟩ := goes_ex hu hb nb
  have za := fun S => z_goes u hu a x S ha na gx
  have zb := fun S => z_goes u hu b y S hb nb gy
  have ya := fun S => z_due u hu a S ha
  have yb := fun S => z_due u hu b S hb
  refine w_defP ?_ rfl
  unfold fsF__law_goes_right LF__law_goes_right_1
  simp -dsimp (decide := true) [-FC.w_comp_cons, za, zb, ya, yb, same_i]
  refine w_lc Dv.int (fun y => decide ((En (gn u) (kp u) a).at y < a.at y)) Dv.int [0, 1, 2] (by simp) (fun y hy => ?_) ?_
  · have hy' : K3 y := by simpa [K3] using hy
    simp -dsimp [at_tD _ hy']
  rw [one_of gx.1 gx.2]
  simp -dsimp (decide := true) [-FC.w_comp_cons, za, zb, ya, yb, same_i]
  refine w_lc Dv.int (fun y => decide ((En (gn u) (kp u) b).at y < b.at y)) Dv.int [0, 1, 2] (by simp) (fun y hy => ?_) ?_
  · have hy' : K3 y := by simpa [K3] using hy
    simp -dsimp [at_tD _ hy']
  rw [one_of gy.1 gy.2]
  simp -dsimp (decide := true) [za, zb, ya, yb, same_i]
theorem z_fields (u : W3) (hu : WOk u 200) (S : Store) : F__law_fields_right [shU u, tD3 (kp u), wsD u] S = some (.ok (.bl true) S) := by
  have sw := same_ws hu
  refine w_defP ?_ rfl
  unfold fsF__law_fields_right
  simp -dsimp (decide := true) [same_t3, sw, kp]
  have e : tot u = ln (u 0) + (ln (u 1) + ln (u 2)) := rfl
  simp -dsimp (decide := true) [same_t3, sw, kp, ← e, same_i]
end FCL

set_option Elab.async false
set_option linter.all false
set_option maxRecDepth 100000
set_option maxHeartbeats 4000000
namespace FCL
open PySem PySem.Spec L2 FC
/-! ### letters -/
theorem lettersC (u : W3) (k : Int) (S : Store) (hu : WOk u 200) (hk : K3 k) (hn : ln (u k) ≤ 1000) : compM2 (bTup 2 (bCons (bName 2) (bCons (bName 3) bNil))) fYes (fRng1 (fCons (fVar 3) fNil)) [4] (bName 4) fYes (fVar 2) [some (shU u), some (.int k), none, none, none] ((u k).map encP) [] S = some (.ok ((expand (u k)).map Dv.int) S) := by
  have hg := hu.g k hk
  have le := len_expand (u k) hg.pos
  have lw := hu.l k hk
  have hp : ∀ p ∈ u k, 0 ≤ p.2 ∧ p.2 ≤ 1000 := fun p hp => by
    have h1 := hg.pos p hp
    have h2 : ∀ w : Wrd, (∀ p ∈ w, 1 ≤ p.2) → ∀ p ∈ w, p.2 ≤ ln w := by
      intro w
      induction w with
      | nil => intro _ p hp; cases hp
      | cons q w ih =>
        intro hw p hp
        have nn := ln_nn (w := w) fun x hx => hw x (List.mem_cons_of_mem _ hx)
        have q1 := hw q List.mem_cons_self
        rw [ln_cons]
        rcases List.mem_cons.1 hp with rfl | hp
        · omega
        · have := ih (fun x hx => hw x (List.mem_cons_of_mem _ hx)) p hp; omega
    have := h2 _ hg.pos p hp
    omega
  have c1 := compM2_flat (b := bTup 2 (bCons (bName 2) (bCons (bName 3) bNil))) (b1 := bName 4) (fi1 := fRng1 (fCons (fVar 3) fNil)) (vs1 := [4]) (fe := fVar 2) (env0 := [some (shU u), some (.int k), none, none, none]) (S := S) encP Dv.int (fun p : Int × Int => FC.upTo 0 p.2.toNat) (fun p _ => .int p.1) (u k) [] (by
      have : ∀ w : Wrd, (w.flatMap fun p : Int × Int => FC.upTo 0 p.2.toNat).length = (expand w).length := by
        intro w
        induction w with
        | nil => rfl
        | cons p w ih =>
          unfold expand at ih ⊢
          rw [List.flatMap_cons, List.flatMap_cons, List.length_append, List.length_append, ih]
          simp [upTo_range]
      rw [this, List.length_nil]; omega) fun p hpw => by
    have hr : ∀ S, rng1 [.int p.2] S = _ := fun S => rng1_e (rngOk_of (hp p hpw).1 (by have := (hp p hpw).2; omega))
    exact ⟨_, rfl, by simp [hr], fun y _ => ⟨_, rfl, by simp⟩⟩
  have e : ((u k).flatMap fun p : Int × Int => (FC.upTo 0 p.2.toNat).map fun _ => Dv.int p.1) = (expand (u k)).map Dv.int := by
    unfold expand
    rw [List.map_flatMap]
    congr 1
    funext p
    rw [List.map_replicate, List.map_const']
    simp [upTo_range]
  rw [e, List.nil_append] at c1
  exact c1
theorem kind_ok {k : Int} (hk : K3 k) (S : Store) : F_check_kind_of [.int 3, .int k] S = some (.ok .non S) := by
  refine gcD_pure ?_ rfl
  rcases hk with rfl | rfl | rfl <;> simp [fsF_check_kind_of]
theorem kind_no {k : Int} (hk : ¬ (0 ≤ k ∧ k < 3)) (S : Store) : F_check_kind_of [.int 3, .int k] S = some (.exc "BadKind" [("kind", .int k)] S) := by
  refine w_defX ?_ rfl
  unfold fsF_check_kind_of
  by_cases h0 : 0 ≤ k
  · simp -dsimp [h0, show ¬ k < 3 by omega]
  · simp -dsimp [h0]
theorem at_ln {u : W3} {k : Int} (hk : K3 k) : atI [Dv.int (ln (u 0)), Dv.int (ln (u 1)), Dv.int (ln (u 2))] k = some (.int (ln (u k))) := by
  rcases hk with rfl | rfl | rfl <;> rfl
theorem kp_at {u : W3} {k : Int} (hk : K3 k) : (kp u).at k = ln (u k) := by
  rcases hk with rfl | rfl | rfl <;> rfl
theorem z_let (u : W3) (k : Int) (S : Store) (hu : WOk u 200) (hk : K3 k) (hn : ln (u k) ≤ 1000) : F_Shares_letters [shU u, .int k] S = some (.ok (lIn (expand (u k))) S) := by
  have c1 := lettersC u k S hu hk hn
  have aw := at_ws (u := u) hk
  unfold wD at aw
  have le := len_expand (u k) (hu.g k hk).pos
  have lw := hu.l k hk
  refine gcD_pure ?_ (by simp)
  simp (decide := true) [fsF_Shares_letters, kind_ok hk, aw, at_tD _ hk, kp_at hk, show ¬ 1000 < ln (u k) by omega, wD, c1, insOf_shU, wsD, tD3, at_ln hk]
theorem zm_let (u : W3) (k : Int) (S : Store) (hu : WOk u 200) (hk : K3 k) (hn : ln (u k) ≤ 1000) : M_Shares_letters [shU u, .int k] S = some (.ok (.obj S.length) (S ++ [.lst ((expand (u k)).map .int)])) := by
  have c1 := lettersC u k S hu hk hn
  have aw := at_ws (u := u) hk
  unfold wD at aw
  have le := len_expand (u k) (hu.g k hk).pos
  have lw := hu.l k hk
  refine gcM_list (G := []) ?_ (by simp)
  simp (decide := true) [fsM_Shares_letters, kind_ok hk, aw, at_tD _ hk, kp_at hk, show ¬ 1000 < ln (u k) by omega, wD, c1, insOf_shU, wsD, tD3, at_ln hk]
theorem x_let (u : W3) (k : Int) (S : Store) (hk : K3 k) (hn : 1000 < ln (u k)) : F_Shares_letters [shU u, .int k] S = some (.exc "TooLarge" [("size", .int (ln (u k)))] S) := by
  refine w_defX ?_ rfl
  unfold fsF_Shares_letters
  simp -dsimp (decide := true) [kind_ok hk, at_tD _ hk, kp_at hk, hn]
theorem x_letK (u : W3) (k : Int) (S : Store) (hk : ¬ (0 ≤ k ∧ k < 3)) : F_Shares_letters [shU u, .int k] S = some (.exc "BadKind" [("kind", .int k)] S) := by
  refine w_defX ?_ rfl
  unfold fsF_Shares_letters
  simp -dsimp (decide := true) [kind_no hk]
def szD (n : Int) : Dv := .tup [.str "size", .int n, .bl true, .bl true, .bl false]
def kdD (n : Int) : Dv := .tup [.str "kind", .int n, .bl true, .bl true, .bl false]
def nbD (n : Int) : Dv := .tup [.str "number", .int n, .bl true, .bl true, .bl false]
theorem rf_let (u : W3) (k : Int) (S : Store) (hk : K3 k) (hn : 1000 < ln (u k)) : F__law_refused_letters [shU u, .int k] S = some (.ok (szD (ln (u k))) S) := by
  have hx := fun S => x_let u k S hk hn
  refine w_defP ?_ rfl
  unfold fsF__law_refused_letters
  simp -dsimp (decide := true) [hx, szD, cnL]
theorem rf_letK (u : W3) (k : Int) (S : Store) (hk : ¬ (0 ≤ k ∧ k < 3)) : F__law_refused_letters [shU u, .int k] S = some (.ok (kdD k) S) := by
  have hx := fun S => x_letK u k S hk
  refine w_defP ?_ rfl
  unfold fsF__law_refused_letters
  simp -dsimp (decide := true) [hx, kdD, cnL]
theorem StOk_lastG {S G : Store} {d d' : Dv} (h : okO (S.length + 1) d' = true) : StOk (S ++ [d]) (S ++ d' :: G) := by
  refine ⟨by simp, fun i x hi hx => ?_⟩
  by_cases z : i < S.length
  · rw [List.getElem?_append_left z] at hx
    exact .inl (by rw [List.getElem?_append_left z]; exact hx)
  · have e : i = S.length := by simp at hi; omega
    subst e
    simp at hx
    subst hx
    exact .inr (by simpa using h)
theorem gsK_last {ks : List Nat} {S G : Store} {a a' : Dv} {env env' : DEnv} {P : Rf → Prop} (ha : okO (S.length + 1) a' = true) (h : fzE (S.length + 1) (S ++ a' :: G) (fgt ks env) = some env') (k : P (.nx env' (S ++ [a']))) : gsK ks (S ++ [a]) P (.nx env (S ++ a' :: G)) := by
  unfold gsK gcS
  simp only [if_pos (StOk_lastG (S := S) (G := G) (d := a) ha), show (S ++ [a]).length = S.length + 1 by simp, h]
  rw [show (S ++ a' :: G).take (S.length + 1) = S ++ [a'] by rw [List.take_append, List.take_of_length_le (by omega)]; simp]
  exact Ws_of rfl k
theorem z_spelled (w : Wrd) (S : Store) (hw : w.length ≤ 1000) (hp : ∀ p ∈ w, 1 ≤ p.2) (hn : ln w ≤ 1000) : F__law_spelled [wD w] S = some (.ok (lIn (expand w)) S) := by
  have le := len_expand w hp
  refine w_defL ?_ (by simp)
  unfold fsF__law_spelled
  simp -dsimp
  refine w_for (fun i env S' => env = [some (wD w), some (.obj S.length), none, none] ∧ S' = S ++ [.lst ((expand (w.take i)).map .int)]) ⟨rfl, rfl⟩ ?_ ?_
  · rintro i y _ _ hi ⟨rfl, rfl⟩
    rw [List.getElem?_map, Option.map_eq_some_iff] at hi
    obtain ⟨⟨l, m⟩, hi, rfl⟩ := hi
    have g := hp _ (List.mem_of_getElem? hi)
    have e1 := ln_take_succ hi
    have t1 := ln_take hp i
    have t2 := ln_take hp (i + 1)
    simp only at g e1
    have l1 := len_expand (w.take i) fun p h => hp p (List.mem_of_mem_take h)
    have e3 : w.take (i + 1) = w.take i ++ [(l, m)] := by rw [List.take_add_one, hi]; rfl
    have e4 : expand [(l, m)] = List.replicate m.toNat l := by simp [expand]
    unfold LF__law_spelled_1
    simp -dsimp [encP]
    simp -dsimp [show m.natAbs ≤ 100000 by omega, newM, show (expand (w.take i)).length + m.toNat ≤ big by have : big = 1000000 := rfl; omega]
    refine gsK_last (env' := [some (wD w), some (.obj S.length), none, none]) (by simp [okOs_iff]) ?_ ?_
    · simp only [fgt_cons, fgt_nil, List.set_cons_succ, List.set_cons_zero]
      repeat' first
        | exact fzE_nil
        | refine fzE_none ?_
        | refine fzE_cons (fzd_ok0 (by simp)) ?_
    · simp -dsimp
      refine Hi_i ⟨rfl, ?_⟩
      rw [e3, expand_app, e4]
      simp
  · rintro _ _ ⟨rfl, rfl⟩
    rw [List.length_map, List.take_of_length_le (Nat.le_refl _)]
    simp -dsimp
end FCL

set_option Elab.async false
set_option linter.all false
set_option maxRecDepth 100000
set_option maxHeartbeats 4000000
namespace FCL
open PySem PySem.Spec L2 FC
/-! ### letters right -/
theorem same_c (w : Wrd) (n : Int) (S : Store) : F__law_same [t3c w n, .tup [.int (cnt (expand w) 0 n), .int (cnt (expand w) 1 n), .int (cnt (expand w) 2 n)]] S = some (.ok (.bl true) S) := same_ rfl
theorem same_sz (n : Int) (S : Store) : F__law_same [szD n, .tup [.str "size", .int n, .bl true, .bl true, .bl false]] S = some (.ok (.bl true) S) := same_ rfl
theorem gsK_P0 {S0 L : Store} {j k : Nat} {d d' : Dv} {ks : List Nat} {env env' : DEnv} {P : Rf → Prop} (hp : Pool k d') (h : fzE (S0.length + L.length) (stP S0 j d' L) (fgt ks env) = some env') (q : P (.nx env' (stP S0 j d' L))) : gsK ks (stP S0 j d L) P (.nx env (stP S0 j d' L)) := by
  have := gsK_P (G := []) (ks := ks) (env := env) (env' := env') (P := P) (d := d) (L := L) hp (by rw [List.append_nil]; exact h) q
  rwa [List.append_nil] at this
theorem same_L {S0 L : Store} {j : Nat} {d : Dv} {xs : List Int} (h : xs.length ≤ 1000000) : F__law_same [.obj (S0.length + L.length), lIn xs] (stP S0 j d (L ++ [.lst (xs.map .int)])) = some (.ok (.bl true) (stP S0 j d (L ++ [.lst (xs.map .int)]))) := same_o (by simp) (cmp_lIn h)
theorem w_lettersr {S0 L : Store} {d W : Dv} {j k : Nat} {u : W3} {Q : Rs Dv → Prop} (hj : j < S0.length) (hp : Pool k d) (hk : k ≤ 10000) (hu : WOk u 200) (h2 : tot u ≤ 10 ^ 18) (hW : ∀ d', seqOf W (stP S0 j d' L) = some [wD (u 0), wD (u 1), wD (u 2)]) (hWo : okO (S0.length + L.length) W = true) (h : ∀ (d' : Dv), Pool (k + 6) d' → Q (.ok (.bl true) (stP S0 j d' L))) : We (F__law_letters_right [shU u, W, .obj j] (stP S0 j d L)) Q := by
  refine w_defD (j := j) ?_
  unfold fsF__law_letters_right
  simp -dsimp [-FC.w_for_cons]
  refine w_for (xs := [.int 0, .int 1, .int 2]) (fun i env S => ∃ d', env = [some (shU u), some W, some (.obj j), none, none, none, none, none, none, none] ∧ S = stP S0 j d' L ∧ Pool (k + 2 * i) d') ⟨d, rfl, rfl, hp⟩ ?_ ?_
  · rintro i y _ _ hi ⟨d1, rfl, rfl, p1⟩
    have hi2 := (List.getElem?_eq_some_iff.1 hi).1
    simp at hi2
    obtain ⟨x, hx, rfl⟩ : ∃ x, K3 x ∧ y = .int x := by
      rcases i with _ | _ | _ | i
      · simp at hi; exact ⟨0, .inl rfl, hi.symm⟩
      · simp at hi; exact ⟨1, .inr (.inl rfl), hi.symm⟩
      · simp at hi; exact ⟨2, .inr (.inr rfl), hi.symm⟩
      · omega
    have hg := hu.g x hx
    have hl := hu.l x hx
    have nn := ln_nn hg.pos
    have ux : ln (u x) ≤ tot u := by
      have := tot_nn hu
      unfold tot
      rcases hx with rfl | rfl | rfl <;> omega
    have zl := fun S => z_long (u x) S (by omega)
    have za := fun n y S => z_among (u x) n y S (by omega) hg.pos
    have aw := at_ws (u := u) hx
    unfold LF__law_letters_right_2
    simp -dsimp [↓hW, aw, zl]
    refine w_great hj p1 (by omega) fun b d2 b0 b1 p2 => ?_
    simp -dsimp [show 0 < ln (u x) + 1 by omega]
    have m0 := Int.emod_nonneg b (show ln (u x) + 1 ≠ 0 by omega)
    have m1 := Int.emod_lt_of_pos b (show 0 < ln (u x) + 1 by omega)
    generalize b % (ln (u x) + 1) = n at *
    have g1 := fun S => gains u x 0 S hu hx (by omega) (by omega)
    have g2 := fun S => gains u x (ln (u x)) S hu hx (by omega) (by omega)
    have g3 := fun S => gains u x n S hu hx (by omega) (by omega)
    unfold LF__law_letters_right_1
    simp -dsimp (decide := true) [↓hW, aw, za, g1, g2, g3, same_c]
    have fz : ∀ (d' : Dv) (G : List Dv), fzE (S0.length + L.length) (stP S0 j d' (L ++ G)) [some (shU u), some W, some (.obj j), none, none, none, none, none, none, none] = some [some (shU u), some W, some (.obj j), none, none, none, none, none, none, none] := fun d' G =>
      fzE_cons (fzd_ok0 (by simp)) (fzE_cons (fzd_ok0 hWo) (fzE_cons (fzd_ok0 (by simp; omega)) (fzE_none (fzE_none (fzE_none (fzE_none (fzE_none (fzE_none (fzE_none fzE_nil)))))))))
    refine Br_dec (fun z => ?_) (fun z => ?_)
    · have r1 := fun S => rf_let u x S hx z
      simp -dsimp (decide := true) [r1, same_sz]
      refine gsK_P0 p2 (by have := fz d2 []; rw [List.append_nil] at this; exact this) ?_
      first
        | exact (fwK_nx).mpr (Hi_i ⟨d2, rfl, rfl, p2.mono (by omega)⟩)
        | exact (fwK_nx).mpr (Hi_i ⟨rfl, d2, rfl, p2.mono (by omega)⟩)
    · have le := len_expand (u x) hg.pos
      have i0 : ixN ((expand (u x)).length + 1) 0 = some 0 := by unfold ixN; rw [if_pos (by decide), if_pos (by omega)]; rfl
      have sp := fun S => z_spelled (u x) S (by omega) hg.pos (by omega)
      have l1 := fun S => zm_let u x S hu hx (by omega)
      have l2 := fun S => z_let u x S hu hx (by omega)
      have sm := fun d => same_L (S0 := S0) (L := L) (j := j) (d := d) (xs := expand (u x)) (by omega)
      have sm2 := fun S => same_ (x := lIn (expand (u x))) (S := S) (cmp_lIn (by omega))
      simp -dsimp (decide := true) [↓hW, aw, sp, l1, l2, sm, sm2, i0, show (expand (u x)).length ≤ 1000000 by omega]
      refine gsK_P p2 (fz d2 _) ?_
      first
        | exact (fwK_nx).mpr (Hi_i ⟨d2, rfl, rfl, p2.mono (by omega)⟩)
        | exact (fwK_nx).mpr (Hi_i ⟨rfl, d2, rfl, p2.mono (by omega)⟩)
  · rintro _ _ ⟨d1, rfl, rfl, p1⟩
    simp -dsimp
    exact PD_end0 p1 rfl (h _ p1)
end FCL

set_option Elab.async false
set_option linter.all false
set_option maxRecDepth 100000
set_option maxHeartbeats 4000000
namespace FCL
open PySem PySem.Spec L2 FC
/-! ### == of plain data -/
def plI : Nat → Dv → Bool
  | 0, _ => false
  | n + 1, x => match x with
    | .non => true
    | .int _ => true
    | .tup xs => xs.all (plI n)
    | .lst xs => xs.all (plI n)
    | _ => false
theorem plI_py : ∀ (n : Nat) (d : Dv), plI n d = true → ∃ p, toPy d = some p ∧ PyData.canLay0 p = true ∧ p.depth ≤ n
  | 0, _, h => by cases h
  | n + 1, d, h => by
    have all : ∀ xs : List Dv, xs.all (plI n) = true → ∃ ps, toPys xs = some ps ∧ PyData.canLayAll0 ps = true ∧ PyData.depthAll ps ≤ n := by
      intro xs
      induction xs with
      | nil => intro _; exact ⟨[], rfl, rfl, by simp [PyData.depthAll]⟩
      | cons x xs ih =>
        intro hx
        rw [List.all_cons, Bool.and_eq_true] at hx
        obtain ⟨p, h1, h2, h3⟩ := plI_py n x hx.1
        obtain ⟨ps, q1, q2, q3⟩ := ih hx.2
        exact ⟨p :: ps, by unfold toPys; rw [h1, q1], by unfold PyData.canLayAll0; rw [h2, q2]; rfl, by rw [PyData.depthAll]; exact Nat.max_le.mpr ⟨h3, q3⟩⟩
    cases d with
    | non => exact ⟨.none, rfl, rfl, by simp [PyData.depth]⟩
    | int i => exact ⟨.int i, rfl, rfl, by simp [PyData.depth]⟩
    | tup xs =>
      obtain ⟨ps, q1, q2, q3⟩ := all xs h
      exact ⟨.tuple ps, by unfold toPy; rw [q1]; rfl, by unfold PyData.canLay0; exact q2, by simp only [PyData.depth]; omega⟩
    | lst xs =>
      obtain ⟨ps, q1, q2, q3⟩ := all xs h
      exact ⟨.list ps, by unfold toPy; rw [q1]; rfl, by unfold PyData.canLay0; exact q2, by simp only [PyData.depth]; omega⟩
    | _ => cases h
theorem plI_eqv : ∀ (n : Nat) (x y : Dv) (p q : PyData), plI n x = true → plI n y = true → toPy x = some p → toPy y = some q → (PyData.eqv p q = true ↔ x = y)
  | 0, _, _, _, _, h, _, _, _ => by cases h
  | n + 1, x, y, p, q, hx, hy, ex, ey => by
    have all : ∀ (xs ys : List Dv) (ps qs : List PyData), xs.all (plI n) = true → ys.all (plI n) = true → toPys xs = some ps → toPys ys = some qs → (PyData.eqvAll ps qs = true ↔ xs = ys) := by
      intro xs
      induction xs with
      | nil =>
        intro ys ps qs _ hy e1 e2
        cases e1
        cases ys with
        | nil => cases e2; simp [PyData.eqvAll]
        | cons y ys =>
          rw [List.all_cons, Bool.and_eq_true] at hy
          obtain ⟨q, h1, _⟩ := plI_py n y hy.1
          unfold toPys at e2
          rw [h1] at e2
          split at e2
          · cases e2; simp [PyData.eqvAll]
          · cases e2
      | cons x xs ih =>
        intro ys ps qs hx hy e1 e2
        rw [List.all_cons, Bool.and_eq_true] at hx
        unfold toPys at e1
        split at e1
        · rename_i p1 ps1 f1 f2
          cases e1
          cases ys with
          | nil => cases e2; simp [PyData.eqvAll]
          | cons y ys =>
            rw [List.all_cons, Bool.and_eq_true] at hy
            unfold toPys at e2
            split at e2
            · rename_i q1 qs1 g1 g2
              cases e2
              rw [PyData.eqvAll, Bool.and_eq_true, plI_eqv n x y p1 q1 hx.1 hy.1 f1 g1, ih ys ps1 qs1 hx.2 hy.2 f2 g2, List.cons.injEq]
            · cases e2
        · cases e1
    have tp : ∀ xs : List Dv, toPy (.tup xs) = (toPys xs).map .tuple := fun _ => by rw [toPy]
    have lp : ∀ xs : List Dv, toPy (.lst xs) = (toPys xs).map .list := fun _ => by rw [toPy]
    cases x with
    | non =>
      cases ex
      cases y <;> first | (cases hy; done) | (cases ey; simp [PyData.eqv]; done) | skip
      · rw [tp, Option.map_eq_some_iff] at ey; obtain ⟨qs, _, rfl⟩ := ey; simp [PyData.eqv]
      · rw [lp, Option.map_eq_some_iff] at ey; obtain ⟨qs, _, rfl⟩ := ey; simp [PyData.eqv]
    | int i =>
      cases ex
      cases y <;> first | (cases hy; done) | (cases ey; simp [PyData.eqv]; done) | skip
      · rw [tp, Option.map_eq_some_iff] at ey; obtain ⟨qs, _, rfl⟩ := ey; simp [PyData.eqv]
      · rw [lp, Option.map_eq_some_iff] at ey; obtain ⟨qs, _, rfl⟩ := ey; simp [PyData.eqv]
    | tup xs =>
      rw [tp, Option.map_eq_some_iff] at ex
      obtain ⟨ps, e1, rfl⟩ := ex
      cases y <;> first | (cases hy; done) | (cases ey; simp [PyData.eqv]; done) | skip
      · rename_i ys
        rw [tp, Option.map_eq_some_iff] at ey
        obtain ⟨qs, e2, rfl⟩ := ey
        simp only [PyData.eqv, Dv.tup.injEq]
        exact all xs ys ps qs hx hy e1 e2
      · rw [lp, Option.map_eq_some_iff] at ey; obtain ⟨qs, _, rfl⟩ := ey; simp [PyData.eqv]
    | lst xs =>
      rw [lp, Option.map_eq_some_iff] at ex
      obtain ⟨ps, e1, rfl⟩ := ex
      cases y <;> first | (cases hy; done) | (cases ey; simp [PyData.eqv]; done) | skip
      · rw [tp, Option.map_eq_some_iff] at ey; obtain ⟨qs, _, rfl⟩ := ey; simp [PyData.eqv]
      · rename_i ys
        rw [lp, Option.map_eq_some_iff] at ey
        obtain ⟨qs, e2, rfl⟩ := ey
        simp only [PyData.eqv, Dv.lst.injEq]
        exact all xs ys ps qs hx hy e1 e2
    | _ => cases hx
open Classical in
noncomputable def dEq (x y : Dv) : Bool := decide (x = y)
open Classical in
theorem dEq_iff {x y : Dv} : dEq x y = true ↔ x = y := by unfold dEq; exact decide_eq_true_iff
theorem eqD_pl {x y : Dv} (hx : plI 8 x = true) (hy : plI 8 y = true) : eqD x y = some (dEq x y) := by
  obtain ⟨p, h1, h2, h3⟩ := plI_py 8 x hx
  obtain ⟨q, g1, g2, g3⟩ := plI_py 8 y hy
  have hb : ∀ b : Bool, (b = true ↔ x = y) → b = dEq x y := fun b h => by
    cases b
    · cases hd : dEq x y with
      | false => rfl
      | true => exact absurd (h.2 (dEq_iff.1 hd)) (by decide)
    · exact (dEq_iff.2 (h.1 rfl)).symm
  unfold eqD
  cases hs : eqS x y with
  | some b =>
    simp only
    rw [hb b]
    cases x <;> cases y <;> first | (cases hs; done) | (cases hs; simp; done)
  | none =>
    simp only [h1, g1]
    have sp : SeqAt.shaped p = true := by unfold SeqAt.shaped; simp [h2]; omega
    have sq : SeqAt.shaped q = true := by unfold SeqAt.shaped; simp [g2]; omega
    rw [if_pos ⟨sp, sq⟩, hb _ (plI_eqv 8 x y p q hx hy h1 g1)]
theorem oEq_pl {x y : Dv} (S : Store) (hx : plI 8 x = true) (hy : plI 8 y = true) : oEq x y S = some (.ok (.bl (dEq x y)) S) := by
  unfold oEq; rw [eqD_pl hx hy]; rfl
theorem oNe_pl {x y : Dv} (S : Store) (hx : plI 8 x = true) (hy : plI 8 y = true) : oNe x y S = some (.ok (.bl (!dEq x y)) S) := by
  unfold oNe; rw [eqD_pl hx hy]; rfl
theorem pl_ints {n : Nat} (l : List Int) : (l.map Dv.int).all (plI (n + 1)) = true := by simp [plI]
theorem Dv.int_inj {a b : Int} (h : Dv.int a = Dv.int b) : a = b := by cases h; rfl
theorem map_inj {α : Type} {f : α → Dv} (hf : ∀ a b, f a = f b → a = b) : ∀ {l m : List α}, l.map f = m.map f → l = m
  | [], [], _ => rfl
  | [], _ :: _, h => by cases h
  | _ :: _, [], h => by cases h
  | a :: l, b :: m, h => by
    rw [List.map_cons, List.map_cons, List.cons.injEq] at h
    rw [hf a b h.1, map_inj hf h.2]
theorem wD_inj {w v : Wrd} (h : wD w = wD v) : w = v := by
  unfold wD at h
  refine map_inj (f := encP) (fun a b e => ?_) (Dv.tup.inj h)
  obtain ⟨a1, a2⟩ := a
  obtain ⟨b1, b2⟩ := b
  simpa [encP] using e
theorem pl_wD {n : Nat} (w : Wrd) : plI (n + 3) (wD w) = true := by
  show (w.map encP).all (plI (n + 2)) = true
  rw [List.all_eq_true]
  intro d hd
  obtain ⟨p, _, rfl⟩ := List.mem_map.1 hd
  rfl
theorem pl_wsD {n : Nat} (u : W3) : plI (n + 4) (wsD u) = true := by
  show ([wD (u 0), wD (u 1), wD (u 2)]).all (plI (n + 3)) = true
  simp [pl_wD]
/-! ### refusals -/
def rcD (d : Dv) : Dv := .tup [d, .bl true, .bl true, .bl false]
/-- counts that are none -/
def Bad (d : Dv) : Prop := ∀ S, F_check_counts [.int 3, d] S = some (.exc "BadCrowd" [("crowd", d)] S)
theorem bad_2 (a b : Int) : Bad (.tup [.int a, .int b]) := fun S => by
  refine w_defX ?_ rfl
  unfold fsF_check_counts
  simp -dsimp (decide := true)
theorem bad_4 (a b c d : Int) : Bad (.tup [.int a, .int b, .int c, .int d]) := fun S => by
  refine w_defX ?_ rfl
  unfold fsF_check_counts
  simp -dsimp (decide := true)
theorem bad_3 (a b c : Int) (h : ¬ (0 ≤ a ∧ 0 ≤ b ∧ 0 ≤ c)) : Bad (.tup [.int a, .int b, .int c]) := fun S => by
  have e2 : ∀ x y z, asBls [Dv.bl x, Dv.bl y, Dv.bl z] = some [x, y, z] := fun _ _ _ => rfl
  refine w_defX ?_ rfl
  unfold fsF_check_counts
  by_cases h0 : 0 ≤ a <;> by_cases h1 : 0 ≤ b <;> by_cases h2 : 0 ≤ c <;> first | omega | simp -dsimp (decide := true) [h0, h1, h2, e2]
theorem x_end (u : W3) (d : Dv) (S : Store) (h : Bad d) (ho : okO S.length d = true) : F_Shares_end [shU u, d] S = some (.exc "BadCrowd" [("crowd", d)] S) := by
  refine w_defX ?_ (by simp [ho])
  unfold fsF_Shares_end
  simp -dsimp (decide := true) [show ∀ S, F_check_counts [.int 3, d] S = _ from h]
theorem x_goes1 (u : W3) (d : Dv) (n : Int) (S : Store) (h : ∀ S, F_size [d] S = some (.ok (.int n) S)) (hn : n ≠ tot u + 1) (ho : okO S.length d = true) : F_Shares_goes [shU u, d] S = some (.exc "BadCrowd" [("crowd", d)] S) := by
  refine w_defX ?_ (by simp [ho])
  unfold fsF_Shares_goes
  simp -dsimp (decide := true) [h, hn]
theorem x_goes2 (u : W3) (d : Dv) (n : Int) (S : Store) (h : ∀ S, F_size [d] S = some (.ok (.int n) S)) (hb : Bad d) (ho : okO S.length d = true) (ho2 : ∀ k, okO k d = true) : F_Shares_goes [shU u, d] S = some (.exc "BadCrowd" [("crowd", d)] S) := by
  by_cases hn : n = tot u + 1
  · have xe := fun S => x_end u d S hb (ho2 _)
    refine w_defX ?_ (by simp [ho])
    unfold fsF_Shares_goes
    simp -dsimp (decide := true) [h, hn, xe]
  · exact x_goes1 u d n S h hn ho
theorem rf_end (u : W3) (d : Dv) (S : Store) (h : Bad d) (ho : ∀ k, okO k d = true) : F__law_refused_end [shU u, d] S = some (.ok (rcD d) S) := by
  have xe := fun S => x_end u d S h (ho _)
  refine w_defP ?_ (by simp [rcD, ho])
  unfold fsF__law_refused_end
  simp -dsimp (decide := true) [xe, rcD, cnL]
theorem rf_goes (u : W3) (d : Dv) (S : Store) (h : ∀ S, F_Shares_goes [shU u, d] S = some (.exc "BadCrowd" [("crowd", d)] S)) (ho : ∀ k, okO k d = true) : F__law_refused_goes [shU u, d] S = some (.ok (rcD d) S) := by
  refine w_defP ?_ (by simp [rcD, ho])
  unfold fsF__law_refused_goes
  simp -dsimp (decide := true) [h, rcD, cnL]
theorem x_gainsK (u : W3) (k m : Int) (S : Store) (hk : ¬ (0 ≤ k ∧ k < 3)) : F_Shares_gains [shU u, .int k, .int m] S = some (.exc "BadKind" [("kind", .int k)] S) := by
  refine w_defX ?_ rfl
  unfold fsF_Shares_gains
  simp -dsimp (decide := true) [kind_no hk]
theorem x_gainsN (u : W3) (k m : Int) (S : Store) (hk : K3 k) (hm : ¬ (0 ≤ m ∧ m ≤ ln (u k))) : F_Shares_gains [shU u, .int k, .int m] S = some (.exc "BadNumber" [("number", .int m)] S) := by
  refine w_defX ?_ rfl
  unfold fsF_Shares_gains
  by_cases h0 : 0 ≤ m
  · have h1 : ¬ m ≤ ln (u k) := fun h => hm ⟨h0, h⟩
    simp -dsimp (decide := true) [kind_ok hk, at_tD _ hk, kp_at hk, h0, h1]
  · simp -dsimp (decide := true) [kind_ok hk, at_tD _ hk, kp_at hk, h0]
theorem rf_gainsK (u : W3) (k m : Int) (S : Store) (hk : ¬ (0 ≤ k ∧ k < 3)) : F__law_refused_gains [shU u, .int k, .int m] S = some (.ok (kdD k) S) := by
  have hx := fun S => x_gainsK u k m S hk
  refine w_defP ?_ rfl
  unfold fsF__law_refused_gains
  simp -dsimp (decide := true) [hx, kdD, cnL]
theorem rf_gainsN (u : W3) (k m : Int) (S : Store) (hk : K3 k) (hm : ¬ (0 ≤ m ∧ m ≤ ln (u k))) : F__law_refused_gains [shU u, .int k, .int m] S = some (.ok (nbD m) S) := by
  have hx := fun S => x_gainsN u k m S hk hm
  refine w_defP ?_ rfl
  unfold fsF__law_refused_gains
  simp -dsimp (decide := true) [hx, nbD, cnL]
theorem size_2 (a b : Int) (S : Store) : F_size [.tup [.int a, .int b]] S = some (.ok (.int (a + b)) S) := by
  refine w_defP ?_ rfl
  unfold fsF_size
  simp -dsimp
theorem size_3 (a b c : Int) (S : Store) : F_size [.tup [.int a, .int b, .int c]] S = some (.ok (.int (a + (b + c))) S) := by
  refine w_defP ?_ rfl
  unfold fsF_size
  simp -dsimp
theorem size_4 (a b c d : Int) (S : Store) : F_size [.tup [.int a, .int b, .int c, .int d]] S = some (.ok (.int (a + (b + (c + d)))) S) := by
  have e : asInts [Dv.int a, Dv.int b, Dv.int c, Dv.int d] = some [a, b, c, d] := rfl
  refine w_defP ?_ rfl
  unfold fsF_size
  simp -dsimp [e]
theorem eq_yes (u : W3) (S : Store) : F_Shares___eq__ [shU u, shU u] S = some (.ok (.bl true) S) := by
  have e1 := fun S => oEq_pl (x := tD3 (kp u)) (y := tD3 (kp u)) S rfl rfl
  have e2 := fun S => oEq_pl (x := wsD u) (y := wsD u) S (pl_wsD u) (pl_wsD u)
  have d1 : dEq (tD3 (kp u)) (tD3 (kp u)) = true := dEq_iff.2 rfl
  have d2 : dEq (wsD u) (wsD u) = true := dEq_iff.2 rfl
  refine gcD_pure ?_ rfl
  simp (decide := true) [fsF_Shares___eq__, insOf_shU, e1, e2, d1, d2]
theorem eq_no (u w : W3) (S : Store) (hk : kp w = kp u) (hn : wsD u ≠ wsD w) : F_Shares___eq__ [shU u, shU w] S = some (.ok (.bl false) S) := by
  have e1 := fun S => oEq_pl (x := tD3 (kp u)) (y := tD3 (kp u)) S rfl rfl
  have e2 := fun S => oEq_pl (x := wsD u) (y := wsD w) S (pl_wsD u) (pl_wsD w)
  have d1 : dEq (tD3 (kp u)) (tD3 (kp u)) = true := dEq_iff.2 rfl
  have d2 : dEq (wsD u) (wsD w) = false := by
    cases hd : dEq (wsD u) (wsD w) with
    | false => rfl
    | true => exact absurd (dEq_iff.1 hd) hn
  refine gcD_pure ?_ rfl
  simp (decide := true) [fsF_Shares___eq__, insOf_shU, e1, e2, d1, d2, hk]
end FCL

set_option Elab.async false
set_option linter.all false
set_option maxRecDepth 100000
set_option maxHeartbeats 4000000
namespace FCL
open PySem PySem.Spec L2 FC
/-! ### refusals right -/
theorem sl00 {a b c : Dv} {S : Store} : oSl false (.tup [a, b, c]) none (some 0) S = some (.ok (.tup []) S) := rfl
theorem sl01 {a b c : Dv} {S : Store} : oSl false (.tup [a, b, c]) none (some 1) S = some (.ok (.tup [a]) S) := rfl
theorem sl02 {a b c : Dv} {S : Store} : oSl false (.tup [a, b, c]) none (some 2) S = some (.ok (.tup [a, b]) S) := rfl
theorem sl31 {a b c : Dv} {S : Store} : oSl false (.tup [a, b, c]) (some 1) none S = some (.ok (.tup [b, c]) S) := rfl
theorem sl32 {a b c : Dv} {S : Store} : oSl false (.tup [a, b, c]) (some 2) none S = some (.ok (.tup [c]) S) := rfl
theorem sl33 {a b c : Dv} {S : Store} : oSl false (.tup [a, b, c]) (some 3) none S = some (.ok (.tup []) S) := rfl
theorem same_rc {d : Dv} (h : cmpD 4 d = true) (S : Store) : F__law_same [rcD d, .tup [d, .bl true, .bl true, .bl false]] S = some (.ok (.bl true) S) := same_ (by
  show (decide (List.length [d, .bl true, .bl true, .bl false] ≤ 1000000) && List.all [d, .bl true, .bl true, .bl false] (cmpD 4)) = true
  simp only [List.all_cons, List.all_nil, h]
  rfl)
theorem same_kd (n : Int) (S : Store) : F__law_same [kdD n, .tup [.str "kind", .int n, .bl true, .bl true, .bl false]] S = some (.ok (.bl true) S) := same_ rfl
theorem same_nb (n : Int) (S : Store) : F__law_same [nbD n, .tup [.str "number", .int n, .bl true, .bl true, .bl false]] S = some (.ok (.bl true) S) := same_ rfl
/-- there is a first one that is there -/
theorem there_ex (m : T3) (h : m.Nn) (hs : 0 < m.s) : ∃ x r, K3 x ∧ 0 < m.at x ∧ ([0, 1, 2] : List Int).filter (fun y => decide (0 < m.at y)) = x :: r := by
  obtain ⟨h0, h1, h2⟩ := h
  obtain ⟨a, b, c⟩ := m
  unfold T3.s at hs
  simp only at *
  by_cases z0 : 0 < a
  · exact ⟨0, _, .inl rfl, z0, by rw [List.filter_cons_of_pos (by simpa [T3.at] using z0)]⟩
  · by_cases z1 : 0 < b
    · refine ⟨1, _, .inr (.inl rfl), z1, by rw [List.filter_cons_of_neg (by simpa [T3.at] using z0), List.filter_cons_of_pos (by simpa [T3.at] using z1)]⟩
    · have z2 : 0 < c := by omega
      refine ⟨2, _, .inr (.inr rfl), z2, by rw [List.filter_cons_of_neg (by simpa [T3.at] using z0), List.filter_cons_of_neg (by simpa [T3.at] using z1), List.filter_cons_of_pos (by simpa [T3.at] using z2)]⟩
theorem at_tDm (t : T3) {x : Int} (hx : K3 x) (S : Store) : oIx (tD3 t) (.int x) S = some (.ok (.int (t.at x)) S) := by
  rcases hx with rfl | rfl | rfl <;> rfl
theorem w_refusals {S0 L : Store} {d : Dv} {j k : Nat} {u : W3} {c m : T3} {Q : Rs Dv → Prop} (hj : j < S0.length) (hp : Pool k d) (hk : k ≤ 10000) (hu : WOk u 200) (hc : c.Nn) (hm : m.Nn) (hs : m.s = tot u + 1) (h1 : 1 ≤ tot u) (h : ∀ (d' : Dv), Pool (k + 30) d' → Q (.ok (.bl true) (stP S0 j d' L))) : We (F__law_refusals_right [shU u, tD3 (kp u), tD3 c, tD3 m, .obj j] (stP S0 j d L)) Q := by
  have q := tot_nn hu
  obtain ⟨x, r, hx, hx1, hx2⟩ := there_ex m hm (by omega)
  have rk := fun k m (hk : ¬ (0 ≤ k ∧ k < 3)) S => rf_gainsK u k m S hk
  have rl := fun k (hk : ¬ (0 ≤ k ∧ k < 3)) S => rf_letK u k S hk
  obtain ⟨ca, cb, cc⟩ := c
  obtain ⟨ma, mb, mc⟩ := m
  obtain ⟨c0, c1, c2⟩ : 0 ≤ ca ∧ 0 ≤ cb ∧ 0 ≤ cc := hc
  obtain ⟨m0, m1, m2⟩ : 0 ≤ ma ∧ 0 ≤ mb ∧ 0 ≤ mc := hm
  have hs' : ma + mb + mc = tot u + 1 := hs
  refine w_defD (j := j) ?_
  unfold fsF__law_refusals_right LF__law_refusals_right_1 LF__law_refusals_right_2 LF__law_refusals_right_3 LF__law_refusals_right_5 LF__law_refusals_right_4
  simp -dsimp
  refine w_draw hj hp (by omega) (by decide) (by decide) fun t d1 t0 t1 p1 => ?_
  have ht := K3.of t0 t1
  simp -dsimp
  refine w_draw hj p1 (by omega) (by decide) (by decide) fun b d2 b0 b1 p2 => ?_
  have e2 := fun S => rf_end u (.tup [.int ca, .int cb]) S (bad_2 _ _) (fun _ => rfl)
  have e4 := fun S => rf_end u (.tup [.int ca, .int cb, .int cc, .int 0]) S (bad_4 _ _ _ _) (fun _ => rfl)
  have e3 := fun a b c (h : ¬ (0 ≤ a ∧ 0 ≤ b ∧ 0 ≤ c)) S => rf_end u (.tup [.int a, .int b, .int c]) S (bad_3 _ _ _ h) (fun _ => rfl)
  have g2 := fun S => rf_goes u (.tup [.int ma, .int mb]) S (fun S => x_goes2 u _ _ S (size_2 _ _) (bad_2 _ _) rfl (fun _ => rfl)) (fun _ => rfl)
  have g4 := fun S => rf_goes u (.tup [.int ma, .int mb, .int mc, .int 0]) S (fun S => x_goes2 u _ _ S (size_4 _ _ _ _) (bad_4 _ _ _ _) rfl (fun _ => rfl)) (fun _ => rfl)
  have g3 := fun a b c (h : ¬ (0 ≤ a ∧ 0 ≤ b ∧ 0 ≤ c)) S => rf_goes u (.tup [.int a, .int b, .int c]) S (fun S => x_goes2 u _ _ S (size_3 _ _ _) (bad_3 _ _ _ h) rfl (fun _ => rfl)) (fun _ => rfl)
  have g5 := fun a b c (h : ¬ a + (b + c) = tot u + 1) S => rf_goes u (.tup [.int a, .int b, .int c]) S (fun S => x_goes1 u _ _ S (size_3 _ _ _) h rfl) (fun _ => rfl)
  have s2 := fun a b S => same_rc (d := .tup [.int a, .int b]) rfl S
  have s3 := fun a b c S => same_rc (d := .tup [.int a, .int b, .int c]) rfl S
  have s4 := fun a b c d S => same_rc (d := .tup [.int a, .int b, .int c, .int d]) rfl S
  have A3 : ∀ {x y z v : Int}, ([Dv.int x, Dv.int y, Dv.int z].set 0 (.int v) = [.int v, .int y, .int z]) := rfl
  have fz : ∀ (t af bl a b c : Int), fzE (S0.length + L.length) (stP S0 j d2 (L ++ [.lst [.int a, .int b, .int c]])) [some (shU u), some (.tup [.int (kp u).a, .int (kp u).b, .int (kp u).c]), some (.tup [.int ca, .int cb, .int cc]), some (.tup [.int ma, .int mb, .int mc]), some (.obj j), some (.int t), some (.int af), some (.int bl), none, some (.obj (S0.length + L.length)), none, none, none, none, none, none, none] = some [some (shU u), some (.tup [.int (kp u).a, .int (kp u).b, .int (kp u).c]), some (.tup [.int ca, .int cb, .int cc]), some (.tup [.int ma, .int mb, .int mc]), some (.obj j), some (.int t), some (.int af), some (.int bl), none, some (.lst [.int a, .int b, .int c]), none, none, none, none, none, none, none] := fun t af bl a b c =>
    fzE_cons (fzd_ok0 (by simp)) (fzE_cons (fzd_ok0 (by simp)) (fzE_cons (fzd_ok0 (by simp)) (fzE_cons (fzd_ok0 (by simp)) (fzE_cons (fzd_ok0 (by simp; omega)) (fzE_cons (fzd_ok0 rfl) (fzE_cons (fzd_ok0 rfl) (fzE_cons (fzd_ok0 rfl) (fzE_none (fzE_cons (fzd_obj (Nat.le_refl _) (by simp) (fzs_ok0 (by simp))) (fzE_none (fzE_none (fzE_none (fzE_none (fzE_none (fzE_none (fzE_none fzE_nil))))))))))))))))
  have rn0 := fun m hm S => rf_gainsN u 0 m S (.inl rfl) hm
  have rn1 := fun m hm S => rf_gainsN u 1 m S (.inr (.inl rfl)) hm
  have rn2 := fun m hm S => rf_gainsN u 2 m S (.inr (.inr rfl)) hm
  have g7 := g5 (ma - 1) mb mc (by omega)
  have g8 := g5 ma (mb - 1) mc (by omega)
  have g9 := g5 ma mb (mc - 1) (by omega)
  have less : ∀ a b c : Int, a + (b + c) = ma + (mb + mc) - 1 → ¬ a + (b + c) = tot u + 1 := fun a b c h => by omega
  rcases ht with rfl | rfl | rfl
  · have e3 := e3 (-1 - b) cb cc (by omega)
    have g3 := g3 (-1 - b) (mb + ma - (-1 - b)) mc (by omega)
    have g6 := g5 (ma + 1) mb mc (by omega)
    simp -dsimp (decide := true) [-FC.oSl, tD3, sl00, sl01, sl02, sl31, sl32, sl33, oAddX, e2, e3, e4, s2, s3, s4]
    refine gsK_P p2 (fz _ _ _ _ _ _) ?_
    simp -dsimp (decide := true) [-FC.oSl, -FC.w_comp_cons, tD3, sl00, sl01, sl02, sl31, sl32, sl33, oAddX]
    refine w_lc Dv.int (fun y => decide (0 < (⟨ma, mb, mc⟩ : T3).at y)) Dv.int [0, 1, 2] (by simp) (fun y hy => ?_) ?_
    · have hy' : K3 y := by simpa [K3] using hy
      have := at_tD ⟨ma, mb, mc⟩ hy'
      simp only at this
      simp -dsimp [this]
    rw [hx2]
    rcases hx with rfl | rfl | rfl
    all_goals
      simp -dsimp (decide := true) [atI0, -FC.oSl, sl00, sl01, sl02, sl31, sl32, sl33, oAddX, g2, g3, g4, g6, g7, g8, g9, s2, s3, s4]
      refine w_draw hj p2 (by omega) (by decide) (by decide) fun v1 d3 v10 v11 p3 => ?_
      simp -dsimp
      refine w_draw hj p3 (by omega) (by decide) (by decide) fun v2 d4 v20 v21 p4 => ?_
      simp -dsimp (decide := true) [-FC.oSl, rl (-1 - v1) (by omega), rl (3 + v2) (by omega), rk (-1 - v1) 0 (by omega), rk (3 + v2) 0 (by omega), rk (-1 - v1) (-1) (by omega), rk (3 + v2) (-1) (by omega), same_kd]
      refine w_draw hj p4 (by omega) (by decide) (by decide) fun v1 d5 v10 v11 p5 => ?_
      simp -dsimp (decide := true) [-FC.oSl, kp]
      refine w_great hj p5 (by omega) fun v2 d6 v20 v21 p6 => ?_
      simp -dsimp (decide := true) [-FC.oSl, kp, rn0 (-1 - v1) (by omega), rn0 (ln (u 0) + 1) (by omega), rn0 (ln (u 0) + 1 + v2) (by omega), same_nb]
      refine w_draw hj p6 (by omega) (by decide) (by decide) fun v1 d5 v10 v11 p5 => ?_
      simp -dsimp (decide := true) [-FC.oSl, kp]
      refine w_great hj p5 (by omega) fun v2 d6 v20 v21 p6 => ?_
      simp -dsimp (decide := true) [-FC.oSl, kp, rn1 (-1 - v1) (by omega), rn1 (ln (u 1) + 1) (by omega), rn1 (ln (u 1) + 1 + v2) (by omega), same_nb]
      refine w_draw hj p6 (by omega) (by decide) (by decide) fun v1 d5 v10 v11 p5 => ?_
      simp -dsimp (decide := true) [-FC.oSl, kp]
      refine w_great hj p5 (by omega) fun v2 d6 v20 v21 p6 => ?_
      simp -dsimp (decide := true) [-FC.oSl, kp, rn2 (-1 - v1) (by omega), rn2 (ln (u 2) + 1) (by omega), rn2 (ln (u 2) + 1 + v2) (by omega), same_nb]
      exact PD_end0 p6 rfl (h _ (p6.mono (by omega)))
  · have e3 := e3 ca (-1 - b) cc (by omega)
    have g3 := g3 ma (-1 - b) (mc + mb - (-1 - b)) (by omega)
    have g6 := g5 ma (mb + 1) mc (by omega)
    simp -dsimp (decide := true) [-FC.oSl, tD3, sl00, sl01, sl02, sl31, sl32, sl33, oAddX, e2, e3, e4, s2, s3, s4]
    refine gsK_P p2 (fz _ _ _ _ _ _) ?_
    simp -dsimp (decide := true) [-FC.oSl, -FC.w_comp_cons, tD3, sl00, sl01, sl02, sl31, sl32, sl33, oAddX]
    refine w_lc Dv.int (fun y => decide (0 < (⟨ma, mb, mc⟩ : T3).at y)) Dv.int [0, 1, 2] (by simp) (fun y hy => ?_) ?_
    · have hy' : K3 y := by simpa [K3] using hy
      have := at_tD ⟨ma, mb, mc⟩ hy'
      simp only at this
      simp -dsimp [this]
    rw [hx2]
    rcases hx with rfl | rfl | rfl
    all_goals
      simp -dsimp (decide := true) [atI0, -FC.oSl, sl00, sl01, sl02, sl31, sl32, sl33, oAddX, g2, g3, g4, g6, g7, g8, g9, s2, s3, s4]
      refine w_draw hj p2 (by omega) (by decide) (by decide) fun v1 d3 v10 v11 p3 => ?_
      simp -dsimp
      refine w_draw hj p3 (by omega) (by decide) (by decide) fun v2 d4 v20 v21 p4 => ?_
      simp -dsimp (decide := true) [-FC.oSl, rl (-1 - v1) (by omega), rl (3 + v2) (by omega), rk (-1 - v1) 0 (by omega), rk (3 + v2) 0 (by omega), rk (-1 - v1) (-1) (by omega), rk (3 + v2) (-1) (by omega), same_kd]
      refine w_draw hj p4 (by omega) (by decide) (by decide) fun v1 d5 v10 v11 p5 => ?_
      simp -dsimp (decide := true) [-FC.oSl, kp]
      refine w_great hj p5 (by omega) fun v2 d6 v20 v21 p6 => ?_
      simp -dsimp (decide := true) [-FC.oSl, kp, rn0 (-1 - v1) (by omega), rn0 (ln (u 0) + 1) (by omega), rn0 (ln (u 0) + 1 + v2) (by omega), same_nb]
      refine w_draw hj p6 (by omega) (by decide) (by decide) fun v1 d5 v10 v11 p5 => ?_
      simp -dsimp (decide := true) [-FC.oSl, kp]
      refine w_great hj p5 (by omega) fun v2 d6 v20 v21 p6 => ?_
      simp -dsimp (decide := true) [-FC.oSl, kp, rn1 (-1 - v1) (by omega), rn1 (ln (u 1) + 1) (by omega), rn1 (ln (u 1) + 1 + v2) (by omega), same_nb]
      refine w_draw hj p6 (by omega) (by decide) (by decide) fun v1 d5 v10 v11 p5 => ?_
      simp -dsimp (decide := true) [-FC.oSl, kp]
      refine w_great hj p5 (by omega) fun v2 d6 v20 v21 p6 => ?_
      simp -dsimp (decide := true) [-FC.oSl, kp, rn2 (-1 - v1) (by omega), rn2 (ln (u 2) + 1) (by omega), rn2 (ln (u 2) + 1 + v2) (by omega), same_nb]
      exact PD_end0 p6 rfl (h _ (p6.mono (by omega)))
  · have e3 := e3 ca cb (-1 - b) (by omega)
    have g3 := g3 (ma + mc - (-1 - b)) mb (-1 - b) (by omega)
    have g6 := g5 ma mb (mc + 1) (by omega)
    simp -dsimp (decide := true) [-FC.oSl, tD3, sl00, sl01, sl02, sl31, sl32, sl33, oAddX, e2, e3, e4, s2, s3, s4]
    refine gsK_P p2 (fz _ _ _ _ _ _) ?_
    simp -dsimp (decide := true) [-FC.oSl, -FC.w_comp_cons, tD3, sl00, sl01, sl02, sl31, sl32, sl33, oAddX]
    refine w_lc Dv.int (fun y => decide (0 < (⟨ma, mb, mc⟩ : T3).at y)) Dv.int [0, 1, 2] (by simp) (fun y hy => ?_) ?_
    · have hy' : K3 y := by simpa [K3] using hy
      have := at_tD ⟨ma, mb, mc⟩ hy'
      simp only at this
      simp -dsimp [this]
    rw [hx2]
    rcases hx with rfl | rfl | rfl
    all_goals
      simp -dsimp (decide := true) [atI0, -FC.oSl, sl00, sl01, sl02, sl31, sl32, sl33, oAddX, g2, g3, g4, g6, g7, g8, g9, s2, s3, s4]
      refine w_draw hj p2 (by omega) (by decide) (by decide) fun v1 d3 v10 v11 p3 => ?_
      simp -dsimp
      refine w_draw hj p3 (by omega) (by decide) (by decide) fun v2 d4 v20 v21 p4 => ?_
      simp -dsimp (decide := true) [-FC.oSl, rl (-1 - v1) (by omega), rl (3 + v2) (by omega), rk (-1 - v1) 0 (by omega), rk (3 + v2) 0 (by omega), rk (-1 - v1) (-1) (by omega), rk (3 + v2) (-1) (by omega), same_kd]
      refine w_draw hj p4 (by omega) (by decide) (by decide) fun v1 d5 v10 v11 p5 => ?_
      simp -dsimp (decide := true) [-FC.oSl, kp]
      refine w_great hj p5 (by omega) fun v2 d6 v20 v21 p6 => ?_
      simp -dsimp (decide := true) [-FC.oSl, kp, rn0 (-1 - v1) (by omega), rn0 (ln (u 0) + 1) (by omega), rn0 (ln (u 0) + 1 + v2) (by omega), same_nb]
      refine w_draw hj p6 (by omega) (by decide) (by decide) fun v1 d5 v10 v11 p5 => ?_
      simp -dsimp (decide := true) [-FC.oSl, kp]
      refine w_great hj p5 (by omega) fun v2 d6 v20 v21 p6 => ?_
      simp -dsimp (decide := true) [-FC.oSl, kp, rn1 (-1 - v1) (by omega), rn1 (ln (u 1) + 1) (by omega), rn1 (ln (u 1) + 1 + v2) (by omega), same_nb]
      refine w_draw hj p6 (by omega) (by decide) (by decide) fun v1 d5 v10 v11 p5 => ?_
      simp -dsimp (decide := true) [-FC.oSl, kp]
      refine w_great hj p5 (by omega) fun v2 d6 v20 v21 p6 => ?_
      simp -dsimp (decide := true) [-FC.oSl, kp, rn2 (-1 - v1) (by omega), rn2 (ln (u 2) + 1) (by omega), rn2 (ln (u 2) + 1 + v2) (by omega), same_nb]
      exact PD_end0 p6 rfl (h _ (p6.mono (by omega)))
end FCL

set_option Elab.async false
set_option linter.all false
set_option maxRecDepth 100000
set_option maxHeartbeats 4000000
namespace FCL
open PySem PySem.Spec L2 FC
/-! ### the limit -/
def one3 (x l n : Int) : W3 := fun i => if i = x then [(l, n)] else []
theorem one3_ok {x l n : Int} (hx : K3 x) (hl : 0 ≤ l ∧ l < 3 ∧ l ≠ x) (hn : 1 ≤ n) : WOk (one3 x l n) 200 ∧ tot (one3 x l n) = n := by
  have g : WG [(l, n)] x := ⟨by simpa using hl, by simpa using hn, by intro i a b q1 q2; simp at q2⟩
  refine ⟨⟨fun i hi => ?_, fun i hi => ?_⟩, ?_⟩
  · unfold one3
    by_cases z : i = x
    · subst z; rw [if_pos rfl]; exact g
    · rw [if_neg z]; exact WG.nil
  · unfold one3
    by_cases z : i = x
    · rw [if_pos z]; simp
    · rw [if_neg z]; simp
  · rcases hx with rfl | rfl | rfl <;> simp [tot, one3]
theorem w_limit {S0 L : Store} {d : Dv} {j k : Nat} {Q : Rs Dv → Prop} (hj : j < S0.length) (hp : Pool k d) (hk : k ≤ 9000) (h : ∀ (d' : Dv), Pool (k + 20) d' → Q (.ok (.bl true) (stP S0 j d' L))) : We (F__law_limit_right [.obj j] (stP S0 j d L)) Q := by
  refine w_defD (j := j) ?_
  unfold fsF__law_limit_right
  simp -dsimp
  refine w_draw hj hp (by omega) (by decide) (by decide) fun n d1 n0 n1 p1 => ?_
  simp -dsimp
  refine w_draw hj p1 (by omega) (by decide) (by decide) fun x d2 x0 x1 p2 => ?_
  have hx := K3.of x0 x1
  simp -dsimp
  refine w_draw hj p2 (by omega) (by decide) (by decide) fun v d3 v0 v1 p3 => ?_
  have hl := hx.o1 v v0 v1
  simp -dsimp
  generalize (x + 1 + v) % 3 = l at *
  obtain ⟨ho, ht⟩ := one3_ok (n := 999 + n) hx hl (by omega)
  have q := tot_nn ho
  have mk := fun S => mk_u (one3 x l (999 + n)) S ho (by omega) (by omega)
  have h2 : tot (one3 x l (999 + n)) ≤ 10 ^ 18 := by rw [ht]; omega
  have hk2 : k + 1 + 1 + 1 ≤ 10000 := by omega
  rcases hx with rfl | rfl | rfl
  · have ea : tD3 (kp (one3 0 l (999 + n))) = .tup [.int (999 + n), .int 0, .int 0] := by unfold tD3 kp; simp [one3]
    have ew : wsD (one3 0 l (999 + n)) = .tup [.tup [.tup [.int l, .int (999 + n)]], .tup [], .tup []] := by unfold wsD wD one3; simp [encP]
    have mk' : ∀ S, gcR S (mkR F_Shares___init__ "Shares" (fun o => [o, .tup [.int (999 + n), .int 0, .int 0], .tup [.tup [.tup [.int l, .int (999 + n)]], .tup [], .tup []]]) S) = some (.ok (shU (one3 0 l (999 + n))) S) := fun S => by
      have := mk S
      rw [ea, ew] at this
      exact this
    unfold wsD at ew
    have ew := Dv.tup.inj ew
    simp -dsimp (decide := true) [mk']
    refine w_lettersr hj p3 hk2 ho h2 ?_ ?_ fun d' p' => ?_
    · intro d'
      have e : ∀ a b : Dv, (stP S0 j d' (L ++ [a, b]))[S0.length + (L.length + 1)]? = some b := fun a b => by rw [stP_get, app_get]; rfl
      rw [ew]
      unfold seqOf
      simp only [e]
    · simp
    · simp -dsimp
      exact PD_end _ p' rfl (h _ (p'.mono (by omega)))
  · have ea : tD3 (kp (one3 1 l (999 + n))) = .tup [.int 0, .int (999 + n), .int 0] := by unfold tD3 kp; simp [one3]
    have ew : wsD (one3 1 l (999 + n)) = .tup [.tup [], .tup [.tup [.int l, .int (999 + n)]], .tup []] := by unfold wsD wD one3; simp [encP]
    have mk' : ∀ S, gcR S (mkR F_Shares___init__ "Shares" (fun o => [o, .tup [.int 0, .int (999 + n), .int 0], .tup [.tup [], .tup [.tup [.int l, .int (999 + n)]], .tup []]]) S) = some (.ok (shU (one3 1 l (999 + n))) S) := fun S => by
      have := mk S
      rw [ea, ew] at this
      exact this
    unfold wsD at ew
    have ew := Dv.tup.inj ew
    simp -dsimp (decide := true) [mk']
    refine w_lettersr hj p3 hk2 ho h2 ?_ ?_ fun d' p' => ?_
    · intro d'
      have e : ∀ a b : Dv, (stP S0 j d' (L ++ [a, b]))[S0.length + (L.length + 1)]? = some b := fun a b => by rw [stP_get, app_get]; rfl
      rw [ew]
      unfold seqOf
      simp only [e]
    · simp
    · simp -dsimp
      exact PD_end _ p' rfl (h _ (p'.mono (by omega)))
  · have ea : tD3 (kp (one3 2 l (999 + n))) = .tup [.int 0, .int 0, .int (999 + n)] := by unfold tD3 kp; simp [one3]
    have ew : wsD (one3 2 l (999 + n)) = .tup [.tup [], .tup [], .tup [.tup [.int l, .int (999 + n)]]] := by unfold wsD wD one3; simp [encP]
    have mk' : ∀ S, gcR S (mkR F_Shares___init__ "Shares" (fun o => [o, .tup [.int 0, .int 0, .int (999 + n)], .tup [.tup [], .tup [], .tup [.tup [.int l, .int (999 + n)]]]]) S) = some (.ok (shU (one3 2 l (999 + n))) S) := fun S => by
      have := mk S
      rw [ea, ew] at this
      exact this
    unfold wsD at ew
    have ew := Dv.tup.inj ew
    simp -dsimp (decide := true) [mk']
    refine w_lettersr hj p3 hk2 ho h2 ?_ ?_ fun d' p' => ?_
    · intro d'
      have e : ∀ a b : Dv, (stP S0 j d' (L ++ [a, b]))[S0.length + (L.length + 1)]? = some b := fun a b => by rw [stP_get, app_get]; rfl
      rw [ew]
      unfold seqOf
      simp only [e]
    · simp
    · simp -dsimp
      exact PD_end _ p' rfl (h _ (p'.mono (by omega)))
end FCL

set_option Elab.async false
set_option linter.all false
set_option maxRecDepth 100000
set_option maxHeartbeats 4000000
namespace FCL
open PySem PySem.Spec L2 FC
/-! ### the law -/
@[simp ↓] theorem frozen_wsD {u : W3} : frozen (wsD u) = some [wD (u 0), wD (u 1), wD (u 2)] := rfl
theorem w_pool {ns : List Int} {k : Nat} {S : Store} {Q : Rs Dv → Prop} (hn : ns.length ≤ 63) (h : ∀ d, Pool 0 d → Q (.ok (.obj S.length) (S ++ [d]))) : We (M__law_pool [.lst (ns.map .int), .int k] S) Q := by
  obtain ⟨d, h1, h2⟩ := g_pool ns k S hn
  exact We_ok h2 (h d h1)
theorem wsD_inj {u v : W3} (h : wsD u = wsD v) : ∀ k, K3 k → u k = v k := by
  unfold wsD at h
  have h := Dv.tup.inj h
  simp only [List.cons.injEq, and_true] at h
  intro k hk
  rcases hk with rfl | rfl | rfl
  · exact wD_inj h.1
  · exact wD_inj h.2.1
  · exact wD_inj h.2.2
theorem kp_put {u : W3} {x : Int} {v : Wrd} (hx : K3 x) (h : ln v = ln (u x)) : kp (put u x v) = kp u := by
  rcases hx with rfl | rfl | rfl <;> simp [kp, put, h]
theorem given_at {u : W3} {v : Int} (h0 : 0 ≤ v) (h1 : v < ((([0, 1, 2] : List Int).filter fun y => decide (0 < ln (u y))).length : Int)) : ∃ x, K3 x ∧ 0 < ln (u x) ∧ atI ((([0, 1, 2] : List Int).filter fun y => decide (0 < ln (u y))).map Dv.int) v = some (.int x) := by
  generalize hl : (([0, 1, 2] : List Int).filter fun y => decide (0 < ln (u y))) = l at *
  have hv : v = ((v.toNat : Nat) : Int) := by omega
  have hn : v.toNat < l.length := by omega
  have hm : l[v.toNat] ∈ l := List.getElem_mem hn
  have hm2 : l[v.toNat] ∈ (([0, 1, 2] : List Int).filter fun y => decide (0 < ln (u y))) := by rw [hl]; exact hm
  have hf := List.mem_filter.1 hm2
  refine ⟨l[v.toNat], by simpa [K3] using hf.1, by simpa using hf.2, ?_⟩
  have e : atI (l.map Dv.int) ((v.toNat : Nat) : Int) = some (.int l[v.toNat]) := by rw [atI_nat]; simp [hn]
  rw [← hv] at e
  exact e
theorem given_pos {u : W3} (h : 1 ≤ tot u) : 0 < (((([0, 1, 2] : List Int).filter fun y => decide (0 < ln (u y))).length : Nat) : Int) := by
  have : ∃ x ∈ ([0, 1, 2] : List Int), decide (0 < ln (u x)) = true := by
    unfold tot at h
    by_cases h0 : 0 < ln (u 0)
    · exact ⟨0, by simp, by simpa using h0⟩
    · by_cases h1 : 0 < ln (u 1)
      · exact ⟨1, by simp, by simpa using h1⟩
      · exact ⟨2, by simp, by simp; omega⟩
  obtain ⟨x, hx, hp⟩ := this
  have hm := List.mem_filter (p := fun y => decide (0 < ln (u y))) |>.2 ⟨hx, hp⟩
  have := List.length_pos_of_mem hm
  omega
theorem law_good (ns : List Int) (h : ns.length ≤ 63) : ∃ S', F_law [.lst (ns.map Dv.int)] [] = some (.ok (.bl true) S') := by
  suffices H : We (F_law [.lst (ns.map Dv.int)] []) (fun r => ∃ S', r = .ok (.bl true) S') by
    obtain ⟨r, e, S', rfl⟩ := H
    exact ⟨S', e⟩
  show We (bodyF 12 fsF_law _ _) _
  rw [w_body]
  unfold fsF_law
  simp -dsimp
  refine w_pool (k := 0) h fun q0 p0 => ?_
  simp -dsimp
  refine w_words (S0 := [q0]) (j := 0) (d := q0) (L := []) (by simp) p0 (by decide) fun u d0 hu198 t1 t2 p0 => ?_
  have hu := hu198.mono (n := 200) (by omega)
  have l0 := hu.l 0 (.inl rfl)
  have l1 := hu.l 1 (.inr (.inl rfl))
  have l2 := hu.l 2 (.inr (.inr rfl))
  have z0 := fun S => z_long (u 0) S (by omega)
  have z1 := fun S => z_long (u 1) S (by omega)
  have z2 := fun S => z_long (u 2) S (by omega)
  have kpe : Dv.tup [.int (ln (u 0)), .int (ln (u 1)), .int (ln (u 2))] = tD3 (kp u) := rfl
  simp -dsimp [stP, z0, z1, z2]
  rw [kpe]
  refine w_pool (k := 1) h fun q1 p1 => ?_
  simp -dsimp
  refine w_near (S0 := [d0, q1]) (j := 1) (d := q1) (L := []) (by simp) p1 (by decide) hu t1 t2 fun c0 d1 nc0 _ p1 => ?_
  simp -dsimp
  refine w_any (S0 := [d0, q1]) (j := 1) (d := d1) (L := []) (by simp) p1 (by decide) (kpNn hu) fun c1 d1 nc1 p1 => ?_
  simp -dsimp [stP]
  refine w_pool (k := 2) h fun q2 p2 => ?_
  simp -dsimp
  refine w_near (S0 := [d0, d1, q2]) (j := 2) (d := q2) (L := []) (by simp) p2 (by decide) hu t1 t2 fun m0 d2 nm0 sm0 p2 => ?_
  have ts : (kp u).a + ((kp u).b + (kp u).c) = tot u := rfl
  simp -dsimp [ts]
  refine w_meeting (S0 := [d0, d1, q2]) (j := 2) (d := d2) (L := []) (by simp) p2 (by decide) t1 fun m1 d2 nm1 sm1 p2 => ?_
  simp -dsimp [stP]
  refine w_pool (k := 3) h fun q3 p3 => ?_
  simp -dsimp [-FC.w_comp_cons]
  refine w_lc Dv.int (fun y => decide (0 < ln (u y))) Dv.int [0, 1, 2] (by simp) (fun y hy => ?_) ?_
  · have hy' : K3 y := by simpa [K3] using hy
    have := at_tD (kp u) hy'
    rw [kp_at hy'] at this
    simp -dsimp [this]
  have gp := given_pos (u := u) t1
  have gl : (([0, 1, 2] : List Int).filter fun y => decide (0 < ln (u y))).length ≤ 3 := List.length_filter_le _ _
  simp -dsimp
  refine w_draw (S0 := [d0, d1, d2, q3]) (j := 3) (d := q3) (L := []) (by simp) p3 (by decide) gp (by omega) fun v d3 v0 v1 p3 => ?_
  obtain ⟨x, hx, lx, ax⟩ := given_at v0 v1
  simp -dsimp [ax, at_ws hx]
  refine w_great (S0 := [d0, d1, d2, q3]) (j := 3) (d := d3) (L := [_]) (by simp) p3 (by decide) fun b d3 b0 b1 p3 => ?_
  have ax2 := at_tD (kp u) hx
  rw [kp_at hx] at ax2
  simp -dsimp [ax2, lx]
  have n0 := Int.emod_nonneg b (show ln (u x) ≠ 0 by omega)
  have n1 := Int.emod_lt_of_pos b (show 0 < ln (u x) by omega)
  generalize b % ln (u x) = n at *
  obtain ⟨v', et, gv, lv, szv, nev⟩ := z_turned (u x) x n (stP [d0, d1, d2, q3] 3 d3 [.lst [wD (u 0), wD (u 1), wD (u 2)]]) hx (hu.g x hx) (hu.l x hx) n0 n1
  have hw : WOk (put u x v') 200 := hu.put (by omega) gv (by have := hu198.l x hx; omega)
  have hkp : kp (put u x v') = kp u := kp_put hx lv
  have hne : wsD u ≠ wsD (put u x v') := fun e => by
    have := wsD_inj e x hx
    unfold put at this
    rw [if_pos rfl] at this
    exact nev this.symm
  have st := set_ws (u := u) (w := v') hx
  have htw : tot (put u x v') = tot u := by rw [tot_put hx, lv]; omega
  refine We_ok et ?_
  clear et
  generalize put u x v' = w at *
  have hWs : Dv.tup [wD (w 0), wD (w 1), wD (w 2)] = wsD w := rfl
  have sm0 := sm0 rfl
  have mu := fun S => mk_u u S hu t1 t2
  have mw := fun S => mk_u w S hw (by omega) (by omega)
  have ey := fun S => eq_yes u S
  have en := fun S => eq_no u w S hkp hne
  have fu := fun S => z_fields u hu S
  have fw := fun S => z_fields w hw S
  have eu := fun S => z_ends u hu c0 c1 m0 m1 S nc0 nc1 nm0 nm1
  have ew := fun S => z_ends w hw c0 c1 m0 m1 S nc0 nc1 nm0 nm1
  have gu := fun S => z_goesr u hu m0 m1 S nm0 nm1 sm0 sm1
  have gw := fun S => z_goesr w hw m0 m1 S nm0 nm1 (by omega) (by omega)
  rw [hkp] at mw
  simp only [hkp] at mw fw ew gw
  simp -dsimp (decide := true) [stP, hx.ix, st, hWs, mu, mw, oOwn, oAddX, notTup, ey, en, fu, fw, eu, ew, gu, gw]
  refine w_pool (k := 4) h fun q4 p4 => ?_
  simp -dsimp (decide := true)
  refine w_lettersr (S0 := [d0, d1, d2, d3, .lst [wD (w 0), wD (w 1), wD (w 2)], q4]) (j := 5) (d := q4) (L := []) (by simp) p4 (by decide) hu t2 (fun _ => rfl) (by simp) fun d4 p4 => ?_
  simp -dsimp (decide := true)
  refine w_refusals (S0 := [d0, d1, d2, d3, .lst [wD (w 0), wD (w 1), wD (w 2)], q4]) (j := 5) (d := d4) (L := []) (by simp) p4 (by decide) hu nc0 nm0 sm0 t1 fun d4 p4 => ?_
  simp -dsimp (decide := true)
  refine w_draw (S0 := [d0, d1, d2, d3, .lst [wD (w 0), wD (w 1), wD (w 2)], q4]) (j := 5) (d := d4) (L := []) (by simp) p4 (by decide) (by decide) (by decide) fun t d4 t0 t1 p4 => ?_
  simp -dsimp (decide := true)
  refine Br_dec (fun z => ?_) (fun z => ?_)
  · simp -dsimp (decide := true)
    refine w_limit (S0 := [d0, d1, d2, d3, .lst [wD (w 0), wD (w 1), wD (w 2)], q4]) (j := 5) (d := d4) (L := []) (by simp) p4 (by decide) fun d4 p4 => ?_
    simp -dsimp (decide := true) [fu, oAddX, notTup, eu]
  · simp -dsimp (decide := true) [fu, oAddX, notTup, eu]
end FCL


set_option Elab.async false
set_option linter.all false
set_option maxRecDepth 100000
set_option maxHeartbeats 4000000
namespace FCL
open PySem PySem.Spec L2 FC
open PySem.SupX (SupTxt)
theorem all_mk {l : PySem.W.OpenLaw} {w : World} {K : PySem.W.Frag} {h : Heap} {mg : Str → Option Value} {fa : Addr} (hl : l.prog = PySem.Challenge.pw_fewchairs_k36_shares_ends) (X : K.In h) (G : h.Ns mainGlobals mg) (hfa : mg "law" = some (.ref fa))
    {f__law_pool : Addr} {od__law_pool an__law_pool : Option Addr} {sl__law_pool : Array (Option Value)} {oc__law_pool dc__law_pool pm__law_pool cd__law_pool ct__law_pool : Value}
    {kV__law_pool : Value}
    {f__law_draw : Addr} {od__law_draw an__law_draw : Option Addr} {sl__law_draw : Array (Option Value)} {oc__law_draw dc__law_draw pm__law_draw cd__law_draw ct__law_draw : Value}
    {kV__law_draw : Value}
    {f__law_great : Addr} {od__law_great an__law_great : Option Addr} {sl__law_great : Array (Option Value)} {oc__law_great dc__law_great pm__law_great cd__law_great ct__law_great : Value}
    {kV__law_great : Value}
    {f__law_drawn_word : Addr} {od__law_drawn_word an__law_drawn_word : Option Addr} {sl__law_drawn_word : Array (Option Value)} {oc__law_drawn_word dc__law_drawn_word pm__law_drawn_word cd__law_drawn_word ct__law_drawn_word : Value}
    {kV__law_drawn_word : Value}
    {f__law_long : Addr} {od__law_long an__law_long : Option Addr} {sl__law_long : Array (Option Value)} {oc__law_long dc__law_long pm__law_long cd__law_long ct__law_long : Value}
    {kV__law_long : Value}
    {f__law_words : Addr} {od__law_words an__law_words : Option Addr} {sl__law_words : Array (Option Value)} {oc__law_words dc__law_words pm__law_words cd__law_words ct__law_words : Value}
    {kV__law_words : Value}
    {f__law_lack : Addr} {od__law_lack an__law_lack : Option Addr} {sl__law_lack : Array (Option Value)} {oc__law_lack dc__law_lack pm__law_lack cd__law_lack ct__law_lack : Value}
    {kV__law_lack : Value}
    {f__law_letters_of : Addr} {od__law_letters_of an__law_letters_of : Option Addr} {sl__law_letters_of : Array (Option Value)} {oc__law_letters_of dc__law_letters_of pm__law_letters_of cd__law_letters_of ct__law_letters_of : Value}
    {kV__law_letters_of : Value}
    {f__law_near : Addr} {od__law_near an__law_near : Option Addr} {sl__law_near : Array (Option Value)} {oc__law_near dc__law_near pm__law_near cd__law_near ct__law_near : Value}
    {kV__law_near : Value}
    {f__law_any : Addr} {od__law_any an__law_any : Option Addr} {sl__law_any : Array (Option Value)} {oc__law_any dc__law_any pm__law_any cd__law_any ct__law_any : Value}
    {kV__law_any : Value}
    {f__law_any_meeting : Addr} {od__law_any_meeting an__law_any_meeting : Option Addr} {sl__law_any_meeting : Array (Option Value)} {oc__law_any_meeting dc__law_any_meeting pm__law_any_meeting cd__law_any_meeting ct__law_any_meeting : Value}
    {kV__law_any_meeting : Value}
    {f__law_turned : Addr} {od__law_turned an__law_turned : Option Addr} {sl__law_turned : Array (Option Value)} {oc__law_turned dc__law_turned pm__law_turned cd__law_turned ct__law_turned : Value}
    {kV__law_turned : Value}
    {f__is_word : Addr} {od__is_word an__is_word : Option Addr} {sl__is_word : Array (Option Value)} {oc__is_word dc__is_word pm__is_word cd__is_word ct__is_word : Value}
    {kV__is_word : Value}
    {f_Shares___init__ : Addr} {od_Shares___init__ an_Shares___init__ : Option Addr} {sl_Shares___init__ : Array (Option Value)} {oc_Shares___init__ dc_Shares___init__ pm_Shares___init__ cd_Shares___init__ ct_Shares___init__ : Value}
    {kV_Shares___init__ : Value}
    {f_Shares___eq__ : Addr} {od_Shares___eq__ an_Shares___eq__ : Option Addr} {sl_Shares___eq__ : Array (Option Value)} {oc_Shares___eq__ dc_Shares___eq__ pm_Shares___eq__ cd_Shares___eq__ ct_Shares___eq__ : Value}
    {kV_Shares___eq__ : Value}
    {f__law_same : Addr} {od__law_same an__law_same : Option Addr} {sl__law_same : Array (Option Value)} {oc__law_same dc__law_same pm__law_same cd__law_same ct__law_same : Value}
    {kV__law_same : Value}
    {f__law_fields_right : Addr} {od__law_fields_right an__law_fields_right : Option Addr} {sl__law_fields_right : Array (Option Value)} {oc__law_fields_right dc__law_fields_right pm__law_fields_right cd__law_fields_right ct__law_fields_right : Value}
    {kV__law_fields_right : Value}
    {f_check_counts : Addr} {od_check_counts an_check_counts : Option Addr} {sl_check_counts : Array (Option Value)} {oc_check_counts dc_check_counts pm_check_counts cd_check_counts ct_check_counts : Value}
    {kV_check_counts : Value}
    {f_size : Addr} {od_size an_size : Option Addr} {sl_size : Array (Option Value)} {oc_size dc_size pm_size cd_size ct_size : Value}
    {kV_size : Value}
    {f_others : Addr} {od_others an_others : Option Addr} {sl_others : Array (Option Value)} {oc_others dc_others pm_others cd_others ct_others : Value}
    {kV_others : Value}
    {f_check_kind_of : Addr} {od_check_kind_of an_check_kind_of : Option Addr} {sl_check_kind_of : Array (Option Value)} {oc_check_kind_of dc_check_kind_of pm_check_kind_of cd_check_kind_of ct_check_kind_of : Value}
    {kV_check_kind_of : Value}
    {f_Shares_gains : Addr} {od_Shares_gains an_Shares_gains : Option Addr} {sl_Shares_gains : Array (Option Value)} {oc_Shares_gains dc_Shares_gains pm_Shares_gains cd_Shares_gains ct_Shares_gains : Value}
    {kV_Shares_gains : Value}
    {f_with_count : Addr} {od_with_count an_with_count : Option Addr} {sl_with_count : Array (Option Value)} {oc_with_count dc_with_count pm_with_count cd_with_count ct_with_count : Value}
    {kV_with_count : Value}
    {f_Shares__end_beside : Addr} {od_Shares__end_beside an_Shares__end_beside : Option Addr} {sl_Shares__end_beside : Array (Option Value)} {oc_Shares__end_beside dc_Shares__end_beside pm_Shares__end_beside cd_Shares__end_beside ct_Shares__end_beside : Value}
    {kV_Shares__end_beside : Value}
    {f_Shares_end : Addr} {od_Shares_end an_Shares_end : Option Addr} {sl_Shares_end : Array (Option Value)} {oc_Shares_end dc_Shares_end pm_Shares_end cd_Shares_end ct_Shares_end : Value}
    {kV_Shares_end : Value}
    {f__law_due_end : Addr} {od__law_due_end an__law_due_end : Option Addr} {sl__law_due_end : Array (Option Value)} {oc__law_due_end dc__law_due_end pm__law_due_end cd__law_due_end ct__law_due_end : Value}
    {kV__law_due_end : Value}
    {f__law_ends_right : Addr} {od__law_ends_right an__law_ends_right : Option Addr} {sl__law_ends_right : Array (Option Value)} {oc__law_ends_right dc__law_ends_right pm__law_ends_right cd__law_ends_right ct__law_ends_right : Value}
    {kV__law_ends_right : Value}
    {f_Shares_goes : Addr} {od_Shares_goes an_Shares_goes : Option Addr} {sl_Shares_goes : Array (Option Value)} {oc_Shares_goes dc_Shares_goes pm_Shares_goes cd_Shares_goes ct_Shares_goes : Value}
    {kV_Shares_goes : Value}
    {f__law_goes_right : Addr} {od__law_goes_right an__law_goes_right : Option Addr} {sl__law_goes_right : Array (Option Value)} {oc__law_goes_right dc__law_goes_right pm__law_goes_right cd__law_goes_right ct__law_goes_right : Value}
    {kV__law_goes_right : Value}
    {f_Shares_letters : Addr} {od_Shares_letters an_Shares_letters : Option Addr} {sl_Shares_letters : Array (Option Value)} {oc_Shares_letters dc_Shares_letters pm_Shares_letters cd_Shares_letters ct_Shares_letters : Value}
    {kV_Shares_letters : Value}
    {f__law_refused_letters : Addr} {od__law_refused_letters an__law_refused_letters : Option Addr} {sl__law_refused_letters : Array (Option Value)} {oc__law_refused_letters dc__law_refused_letters pm__law_refused_letters cd__law_refused_letters ct__law_refused_letters : Value}
    {kV__law_refused_letters : Value}
    {f__law_spelled : Addr} {od__law_spelled an__law_spelled : Option Addr} {sl__law_spelled : Array (Option Value)} {oc__law_spelled dc__law_spelled pm__law_spelled cd__law_spelled ct__law_spelled : Value}
    {kV__law_spelled : Value}
    {f__law_letters_right : Addr} {od__law_letters_right an__law_letters_right : Option Addr} {sl__law_letters_right : Array (Option Value)} {oc__law_letters_right dc__law_letters_right pm__law_letters_right cd__law_letters_right ct__law_letters_right : Value}
    {kV__law_letters_right : Value}
    {f__law_refused_end : Addr} {od__law_refused_end an__law_refused_end : Option Addr} {sl__law_refused_end : Array (Option Value)} {oc__law_refused_end dc__law_refused_end pm__law_refused_end cd__law_refused_end ct__law_refused_end : Value}
    {kV__law_refused_end : Value}
    {f__law_refused_goes : Addr} {od__law_refused_goes an__law_refused_goes : Option Addr} {sl__law_refused_goes : Array (Option Value)} {oc__law_refused_goes dc__law_refused_goes pm__law_refused_goes cd__law_refused_goes ct__law_refused_goes : Value}
    {kV__law_refused_goes : Value}
    {f__law_refused_gains : Addr} {od__law_refused_gains an__law_refused_gains : Option Addr} {sl__law_refused_gains : Array (Option Value)} {oc__law_refused_gains dc__law_refused_gains pm__law_refused_gains cd__law_refused_gains ct__law_refused_gains : Value}
    {kV__law_refused_gains : Value}
    {f__law_refusals_right : Addr} {od__law_refusals_right an__law_refusals_right : Option Addr} {sl__law_refusals_right : Array (Option Value)} {oc__law_refusals_right dc__law_refusals_right pm__law_refusals_right cd__law_refusals_right ct__law_refusals_right : Value}
    {kV__law_refusals_right : Value}
    {f__law_limit_right : Addr} {od__law_limit_right an__law_limit_right : Option Addr} {sl__law_limit_right : Array (Option Value)} {oc__law_limit_right dc__law_limit_right pm__law_limit_right cd__law_limit_right ct__law_limit_right : Value}
    {kV__law_limit_right : Value}
    {f_law : Addr} {od_law an_law : Option Addr} {sl_law : Array (Option Value)} {oc_law dc_law pm_law cd_law ct_law : Value}
    {kV_law : Value}
    {C_Shares : Addr}
    (a_Shares : PySem.W.nsIn K mainGlobals "Shares" = some (some (.ref C_Shares)))
    (pg_Shares : PySem.W.plainGet K C_Shares Str.empty = true)
    (hd_Shares : PySem.W.hasDictIn K C_Shares = true)
    (po_Shares : PySem.W.plainOver K C_Shares = true)
    (sa_Shares : PySem.W.findIn K (.ref C_Shares) "__setattr__" = some (some (.builtin "object.__setattr__")))
    (rd_Shares : PySem.W.readsIn K C_Shares (.type "type") = true)
    (ga_Shares : PySem.W.specialIn K (.ref C_Shares) "__getattribute__" = some (some (.builtin "type.__getattribute__")))
    (mk_Shares : PySem.W.makesIn K C_Shares = true)
    (kp_Shares : PySem.W.keepIn K (.ref C_Shares) = true)
    (cla_Shares : PySem.W.findIn K (.ref C_Shares) "__class__" = some (some (.builtin "object.__class__")))
    (mo_Shares : PySem.W.mroIn K C_Shares (.type "object") = some true)
    (spg : PySem.W.specialIn K (.builtin "object.__class__") "__get__" = some (some (.builtin "getset_descriptor.__get__")))
    (tko : PySem.W.takesIn K (.builtin "object.__class__") = some true)
    (kito_Shares_Shares : PySem.W.kitOne K (.ref C_Shares) (.ref C_Shares) = some true)
    (mt_Shares__end_beside : PySem.W.findIn K (.ref C_Shares) "_end_beside" = some (some (.ref f_Shares__end_beside)))
    (mt_Shares_end : PySem.W.findIn K (.ref C_Shares) "end" = some (some (.ref f_Shares_end)))
    (mt_Shares_gains : PySem.W.findIn K (.ref C_Shares) "gains" = some (some (.ref f_Shares_gains)))
    (mt_Shares_goes : PySem.W.findIn K (.ref C_Shares) "goes" = some (some (.ref f_Shares_goes)))
    (mt_Shares_letters : PySem.W.findIn K (.ref C_Shares) "letters" = some (some (.ref f_Shares_letters)))
    (in_Shares : PySem.W.findIn K (.ref C_Shares) "__init__" = some (some (.ref f_Shares___init__)))
    (eq_Shares : PySem.W.findIn K (.ref C_Shares) "__eq__" = some (some (.ref f_Shares___eq__)))
    (na_Shares_chairs : PySem.W.findIn K (.ref C_Shares) "chairs" = some none)
    (na_Shares_keep : PySem.W.findIn K (.ref C_Shares) "keep" = some none)
    (na_Shares_words : PySem.W.findIn K (.ref C_Shares) "words" = some none)
    (a__law_pool : PySem.W.nsIn K mainGlobals "_law_pool" = some (some (.ref f__law_pool)))
    (l__law_pool : K.lookup f__law_pool = some ⟨oc__law_pool, od__law_pool, .func (PySem.W.fnOf "_law_pool" "_law_pool" (defArgs s__law_pool) (defBody s__law_pool) (defScope s__law_pool) .none kV__law_pool dc__law_pool pm__law_pool an__law_pool cd__law_pool ct__law_pool), sl__law_pool⟩)
    (c__law_pool : PySem.W.codeIn K cd__law_pool "_law_pool" = true)
    (k__law_pool : PySem.W.keepIn K (.ref f__law_pool) = true)
    (a__law_draw : PySem.W.nsIn K mainGlobals "_law_draw" = some (some (.ref f__law_draw)))
    (l__law_draw : K.lookup f__law_draw = some ⟨oc__law_draw, od__law_draw, .func (PySem.W.fnOf "_law_draw" "_law_draw" (defArgs s__law_draw) (defBody s__law_draw) (defScope s__law_draw) .none kV__law_draw dc__law_draw pm__law_draw an__law_draw cd__law_draw ct__law_draw), sl__law_draw⟩)
    (c__law_draw : PySem.W.codeIn K cd__law_draw "_law_draw" = true)
    (k__law_draw : PySem.W.keepIn K (.ref f__law_draw) = true)
    (a__law_great : PySem.W.nsIn K mainGlobals "_law_great" = some (some (.ref f__law_great)))
    (l__law_great : K.lookup f__law_great = some ⟨oc__law_great, od__law_great, .func (PySem.W.fnOf "_law_great" "_law_great" (defArgs s__law_great) (defBody s__law_great) (defScope s__law_great) .none kV__law_great dc__law_great pm__law_great an__law_great cd__law_great ct__law_great), sl__law_great⟩)
    (c__law_great : PySem.W.codeIn K cd__law_great "_law_great" = true)
    (k__law_great : PySem.W.keepIn K (.ref f__law_great) = true)
    (a__law_drawn_word : PySem.W.nsIn K mainGlobals "_law_drawn_word" = some (some (.ref f__law_drawn_word)))
    (l__law_drawn_word : K.lookup f__law_drawn_word = some ⟨oc__law_drawn_word, od__law_drawn_word, .func (PySem.W.fnOf "_law_drawn_word" "_law_drawn_word" (defArgs s__law_drawn_word) (defBody s__law_drawn_word) (defScope s__law_drawn_word) .none kV__law_drawn_word dc__law_drawn_word pm__law_drawn_word an__law_drawn_word cd__law_drawn_word ct__law_drawn_word), sl__law_drawn_word⟩)
    (c__law_drawn_word : PySem.W.codeIn K cd__law_drawn_word "_law_drawn_word" = true)
    (k__law_drawn_word : PySem.W.keepIn K (.ref f__law_drawn_word) = true)
    (a__law_long : PySem.W.nsIn K mainGlobals "_law_long" = some (some (.ref f__law_long)))
    (l__law_long : K.lookup f__law_long = some ⟨oc__law_long, od__law_long, .func (PySem.W.fnOf "_law_long" "_law_long" (defArgs s__law_long) (defBody s__law_long) (defScope s__law_long) .none kV__law_long dc__law_long pm__law_long an__law_long cd__law_long ct__law_long), sl__law_long⟩)
    (c__law_long : PySem.W.codeIn K cd__law_long "_law_long" = true)
    (k__law_long : PySem.W.keepIn K (.ref f__law_long) = true)
    (a__law_words : PySem.W.nsIn K mainGlobals "_law_words" = some (some (.ref f__law_words)))
    (l__law_words : K.lookup f__law_words = some ⟨oc__law_words, od__law_words, .func (PySem.W.fnOf "_law_words" "_law_words" (defArgs s__law_words) (defBody s__law_words) (defScope s__law_words) .none kV__law_words dc__law_words pm__law_words an__law_words cd__law_words ct__law_words), sl__law_words⟩)
    (c__law_words : PySem.W.codeIn K cd__law_words "_law_words" = true)
    (k__law_words : PySem.W.keepIn K (.ref f__law_words) = true)
    (a__law_lack : PySem.W.nsIn K mainGlobals "_law_lack" = some (some (.ref f__law_lack)))
    (l__law_lack : K.lookup f__law_lack = some ⟨oc__law_lack, od__law_lack, .func (PySem.W.fnOf "_law_lack" "_law_lack" (defArgs s__law_lack) (defBody s__law_lack) (defScope s__law_lack) .none kV__law_lack dc__law_lack pm__law_lack an__law_lack cd__law_lack ct__law_lack), sl__law_lack⟩)
    (c__law_lack : PySem.W.codeIn K cd__law_lack "_law_lack" = true)
    (k__law_lack : PySem.W.keepIn K (.ref f__law_lack) = true)
    (a__law_letters_of : PySem.W.nsIn K mainGlobals "_law_letters_of" = some (some (.ref f__law_letters_of)))
    (l__law_letters_of : K.lookup f__law_letters_of = some ⟨oc__law_letters_of, od__law_letters_of, .func (PySem.W.fnOf "_law_letters_of" "_law_letters_of" (defArgs s__law_letters_of) (defBody s__law_letters_of) (defScope s__law_letters_of) .none kV__law_letters_of dc__law_letters_of pm__law_letters_of an__law_letters_of cd__law_letters_of ct__law_letters_of), sl__law_letters_of⟩)
    (c__law_letters_of : PySem.W.codeIn K cd__law_letters_of "_law_letters_of" = true)
    (k__law_letters_of : PySem.W.keepIn K (.ref f__law_letters_of) = true)
    (a__law_near : PySem.W.nsIn K mainGlobals "_law_near" = some (some (.ref f__law_near)))
    (l__law_near : K.lookup f__law_near = some ⟨oc__law_near, od__law_near, .func (PySem.W.fnOf "_law_near" "_law_near" (defArgs s__law_near) (defBody s__law_near) (defScope s__law_near) .none kV__law_near dc__law_near pm__law_near an__law_near cd__law_near ct__law_near), sl__law_near⟩)
    (c__law_near : PySem.W.codeIn K cd__law_near "_law_near" = true)
    (k__law_near : PySem.W.keepIn K (.ref f__law_near) = true)
    (a__law_any : PySem.W.nsIn K mainGlobals "_law_any" = some (some (.ref f__law_any)))
    (l__law_any : K.lookup f__law_any = some ⟨oc__law_any, od__law_any, .func (PySem.W.fnOf "_law_any" "_law_any" (defArgs s__law_any) (defBody s__law_any) (defScope s__law_any) .none kV__law_any dc__law_any pm__law_any an__law_any cd__law_any ct__law_any), sl__law_any⟩)
    (c__law_any : PySem.W.codeIn K cd__law_any "_law_any" = true)
    (k__law_any : PySem.W.keepIn K (.ref f__law_any) = true)
    (a__law_any_meeting : PySem.W.nsIn K mainGlobals "_law_any_meeting" = some (some (.ref f__law_any_meeting)))
    (l__law_any_meeting : K.lookup f__law_any_meeting = some ⟨oc__law_any_meeting, od__law_any_meeting, .func (PySem.W.fnOf "_law_any_meeting" "_law_any_meeting" (defArgs s__law_any_meeting) (defBody s__law_any_meeting) (defScope s__law_any_meeting) .none kV__law_any_meeting dc__law_any_meeting pm__law_any_meeting an__law_any_meeting cd__law_any_meeting ct__law_any_meeting), sl__law_any_meeting⟩)
    (c__law_any_meeting : PySem.W.codeIn K cd__law_any_meeting "_law_any_meeting" = true)
    (k__law_any_meeting : PySem.W.keepIn K (.ref f__law_any_meeting) = true)
    (a__law_turned : PySem.W.nsIn K mainGlobals "_law_turned" = some (some (.ref f__law_turned)))
    (l__law_turned : K.lookup f__law_turned = some ⟨oc__law_turned, od__law_turned, .func (PySem.W.fnOf "_law_turned" "_law_turned" (defArgs s__law_turned) (defBody s__law_turned) (defScope s__law_turned) .none kV__law_turned dc__law_turned pm__law_turned an__law_turned cd__law_turned ct__law_turned), sl__law_turned⟩)
    (c__law_turned : PySem.W.codeIn K cd__law_turned "_law_turned" = true)
    (k__law_turned : PySem.W.keepIn K (.ref f__law_turned) = true)
    (a__is_word : PySem.W.nsIn K mainGlobals "_is_word" = some (some (.ref f__is_word)))
    (l__is_word : K.lookup f__is_word = some ⟨oc__is_word, od__is_word, .func (PySem.W.fnOf "_is_word" "_is_word" (defArgs s__is_word) (defBody s__is_word) (defScope s__is_word) .none kV__is_word dc__is_word pm__is_word an__is_word cd__is_word ct__is_word), sl__is_word⟩)
    (c__is_word : PySem.W.codeIn K cd__is_word "_is_word" = true)
    (k__is_word : PySem.W.keepIn K (.ref f__is_word) = true)
    (l_Shares___init__ : K.lookup f_Shares___init__ = some ⟨oc_Shares___init__, od_Shares___init__, .func (PySem.W.fnOf "__init__" "Shares.__init__" (defArgs s_Shares___init__) (defBody s_Shares___init__) (defScope s_Shares___init__) .none kV_Shares___init__ dc_Shares___init__ pm_Shares___init__ an_Shares___init__ cd_Shares___init__ ct_Shares___init__), sl_Shares___init__⟩)
    (c_Shares___init__ : PySem.W.codeIn K cd_Shares___init__ "Shares.__init__" = true)
    (k_Shares___init__ : PySem.W.keepIn K (.ref f_Shares___init__) = true)
    (fn_Shares___init__ : PySem.W.isFn K (.ref f_Shares___init__) = true)
    (l_Shares___eq__ : K.lookup f_Shares___eq__ = some ⟨oc_Shares___eq__, od_Shares___eq__, .func (PySem.W.fnOf "__eq__" "Shares.__eq__" (defArgs s_Shares___eq__) (defBody s_Shares___eq__) (defScope s_Shares___eq__) .none kV_Shares___eq__ dc_Shares___eq__ pm_Shares___eq__ an_Shares___eq__ cd_Shares___eq__ ct_Shares___eq__), sl_Shares___eq__⟩)
    (c_Shares___eq__ : PySem.W.codeIn K cd_Shares___eq__ "Shares.__eq__" = true)
    (k_Shares___eq__ : PySem.W.keepIn K (.ref f_Shares___eq__) = true)
    (fn_Shares___eq__ : PySem.W.isFn K (.ref f_Shares___eq__) = true)
    (a__law_same : PySem.W.nsIn K mainGlobals "_law_same" = some (some (.ref f__law_same)))
    (l__law_same : K.lookup f__law_same = some ⟨oc__law_same, od__law_same, .func (PySem.W.fnOf "_law_same" "_law_same" (defArgs s__law_same) (defBody s__law_same) (defScope s__law_same) .none kV__law_same dc__law_same pm__law_same an__law_same cd__law_same ct__law_same), sl__law_same⟩)
    (c__law_same : PySem.W.codeIn K cd__law_same "_law_same" = true)
    (k__law_same : PySem.W.keepIn K (.ref f__law_same) = true)
    (a__law_fields_right : PySem.W.nsIn K mainGlobals "_law_fields_right" = some (some (.ref f__law_fields_right)))
    (l__law_fields_right : K.lookup f__law_fields_right = some ⟨oc__law_fields_right, od__law_fields_right, .func (PySem.W.fnOf "_law_fields_right" "_law_fields_right" (defArgs s__law_fields_right) (defBody s__law_fields_right) (defScope s__law_fields_right) .none kV__law_fields_right dc__law_fields_right pm__law_fields_right an__law_fields_right cd__law_fields_right ct__law_fields_right), sl__law_fields_right⟩)
    (c__law_fields_right : PySem.W.codeIn K cd__law_fields_right "_law_fields_right" = true)
    (k__law_fields_right : PySem.W.keepIn K (.ref f__law_fields_right) = true)
    (a_check_counts : PySem.W.nsIn K mainGlobals "check_counts" = some (some (.ref f_check_counts)))
    (l_check_counts : K.lookup f_check_counts = some ⟨oc_check_counts, od_check_counts, .func (PySem.W.fnOf "check_counts" "check_counts" (defArgs s_check_counts) (defBody s_check_counts) (defScope s_check_counts) .none kV_check_counts dc_check_counts pm_check_counts an_check_counts cd_check_counts ct_check_counts), sl_check_counts⟩)
    (c_check_counts : PySem.W.codeIn K cd_check_counts "check_counts" = true)
    (k_check_counts : PySem.W.keepIn K (.ref f_check_counts) = true)
    (a_size : PySem.W.nsIn K mainGlobals "size" = some (some (.ref f_size)))
    (l_size : K.lookup f_size = some ⟨oc_size, od_size, .func (PySem.W.fnOf "size" "size" (defArgs s_size) (defBody s_size) (defScope s_size) .none kV_size dc_size pm_size an_size cd_size ct_size), sl_size⟩)
    (c_size : PySem.W.codeIn K cd_size "size" = true)
    (k_size : PySem.W.keepIn K (.ref f_size) = true)
    (a_others : PySem.W.nsIn K mainGlobals "others" = some (some (.ref f_others)))
    (l_others : K.lookup f_others = some ⟨oc_others, od_others, .func (PySem.W.fnOf "others" "others" (defArgs s_others) (defBody s_others) (defScope s_others) .none kV_others dc_others pm_others an_others cd_others ct_others), sl_others⟩)
    (c_others : PySem.W.codeIn K cd_others "others" = true)
    (k_others : PySem.W.keepIn K (.ref f_others) = true)
    (a_check_kind_of : PySem.W.nsIn K mainGlobals "check_kind_of" = some (some (.ref f_check_kind_of)))
    (l_check_kind_of : K.lookup f_check_kind_of = some ⟨oc_check_kind_of, od_check_kind_of, .func (PySem.W.fnOf "check_kind_of" "check_kind_of" (defArgs s_check_kind_of) (defBody s_check_kind_of) (defScope s_check_kind_of) .none kV_check_kind_of dc_check_kind_of pm_check_kind_of an_check_kind_of cd_check_kind_of ct_check_kind_of), sl_check_kind_of⟩)
    (c_check_kind_of : PySem.W.codeIn K cd_check_kind_of "check_kind_of" = true)
    (k_check_kind_of : PySem.W.keepIn K (.ref f_check_kind_of) = true)
    (l_Shares_gains : K.lookup f_Shares_gains = some ⟨oc_Shares_gains, od_Shares_gains, .func (PySem.W.fnOf "gains" "Shares.gains" (defArgs s_Shares_gains) (defBody s_Shares_gains) (defScope s_Shares_gains) .none kV_Shares_gains dc_Shares_gains pm_Shares_gains an_Shares_gains cd_Shares_gains ct_Shares_gains), sl_Shares_gains⟩)
    (c_Shares_gains : PySem.W.codeIn K cd_Shares_gains "Shares.gains" = true)
    (k_Shares_gains : PySem.W.keepIn K (.ref f_Shares_gains) = true)
    (fn_Shares_gains : PySem.W.isFn K (.ref f_Shares_gains) = true)
    (a_with_count : PySem.W.nsIn K mainGlobals "with_count" = some (some (.ref f_with_count)))
    (l_with_count : K.lookup f_with_count = some ⟨oc_with_count, od_with_count, .func (PySem.W.fnOf "with_count" "with_count" (defArgs s_with_count) (defBody s_with_count) (defScope s_with_count) .none kV_with_count dc_with_count pm_with_count an_with_count cd_with_count ct_with_count), sl_with_count⟩)
    (c_with_count : PySem.W.codeIn K cd_with_count "with_count" = true)
    (k_with_count : PySem.W.keepIn K (.ref f_with_count) = true)
    (l_Shares__end_beside : K.lookup f_Shares__end_beside = some ⟨oc_Shares__end_beside, od_Shares__end_beside, .func (PySem.W.fnOf "_end_beside" "Shares._end_beside" (defArgs s_Shares__end_beside) (defBody s_Shares__end_beside) (defScope s_Shares__end_beside) .none kV_Shares__end_beside dc_Shares__end_beside pm_Shares__end_beside an_Shares__end_beside cd_Shares__end_beside ct_Shares__end_beside), sl_Shares__end_beside⟩)
    (c_Shares__end_beside : PySem.W.codeIn K cd_Shares__end_beside "Shares._end_beside" = true)
    (k_Shares__end_beside : PySem.W.keepIn K (.ref f_Shares__end_beside) = true)
    (fn_Shares__end_beside : PySem.W.isFn K (.ref f_Shares__end_beside) = true)
    (l_Shares_end : K.lookup f_Shares_end = some ⟨oc_Shares_end, od_Shares_end, .func (PySem.W.fnOf "end" "Shares.end" (defArgs s_Shares_end) (defBody s_Shares_end) (defScope s_Shares_end) .none kV_Shares_end dc_Shares_end pm_Shares_end an_Shares_end cd_Shares_end ct_Shares_end), sl_Shares_end⟩)
    (c_Shares_end : PySem.W.codeIn K cd_Shares_end "Shares.end" = true)
    (k_Shares_end : PySem.W.keepIn K (.ref f_Shares_end) = true)
    (fn_Shares_end : PySem.W.isFn K (.ref f_Shares_end) = true)
    (a__law_due_end : PySem.W.nsIn K mainGlobals "_law_due_end" = some (some (.ref f__law_due_end)))
    (l__law_due_end : K.lookup f__law_due_end = some ⟨oc__law_due_end, od__law_due_end, .func (PySem.W.fnOf "_law_due_end" "_law_due_end" (defArgs s__law_due_end) (defBody s__law_due_end) (defScope s__law_due_end) .none kV__law_due_end dc__law_due_end pm__law_due_end an__law_due_end cd__law_due_end ct__law_due_end), sl__law_due_end⟩)
    (c__law_due_end : PySem.W.codeIn K cd__law_due_end "_law_due_end" = true)
    (k__law_due_end : PySem.W.keepIn K (.ref f__law_due_end) = true)
    (a__law_ends_right : PySem.W.nsIn K mainGlobals "_law_ends_right" = some (some (.ref f__law_ends_right)))
    (l__law_ends_right : K.lookup f__law_ends_right = some ⟨oc__law_ends_right, od__law_ends_right, .func (PySem.W.fnOf "_law_ends_right" "_law_ends_right" (defArgs s__law_ends_right) (defBody s__law_ends_right) (defScope s__law_ends_right) .none kV__law_ends_right dc__law_ends_right pm__law_ends_right an__law_ends_right cd__law_ends_right ct__law_ends_right), sl__law_ends_right⟩)
    (c__law_ends_right : PySem.W.codeIn K cd__law_ends_right "_law_ends_right" = true)
    (k__law_ends_right : PySem.W.keepIn K (.ref f__law_ends_right) = true)
    (l_Shares_goes : K.lookup f_Shares_goes = some ⟨oc_Shares_goes, od_Shares_goes, .func (PySem.W.fnOf "goes" "Shares.goes" (defArgs s_Shares_goes) (defBody s_Shares_goes) (defScope s_Shares_goes) .none kV_Shares_goes dc_Shares_goes pm_Shares_goes an_Shares_goes cd_Shares_goes ct_Shares_goes), sl_Shares_goes⟩)
    (c_Shares_goes : PySem.W.codeIn K cd_Shares_goes "Shares.goes" = true)
    (k_Shares_goes : PySem.W.keepIn K (.ref f_Shares_goes) = true)
    (fn_Shares_goes : PySem.W.isFn K (.ref f_Shares_goes) = true)
    (a__law_goes_right : PySem.W.nsIn K mainGlobals "_law_goes_right" = some (some (.ref f__law_goes_right)))
    (l__law_goes_right : K.lookup f__law_goes_right = some ⟨oc__law_goes_right, od__law_goes_right, .func (PySem.W.fnOf "_law_goes_right" "_law_goes_right" (defArgs s__law_goes_right) (defBody s__law_goes_right) (defScope s__law_goes_right) .none kV__law_goes_right dc__law_goes_right pm__law_goes_right an__law_goes_right cd__law_goes_right ct__law_goes_right), sl__law_goes_right⟩)
    (c__law_goes_right : PySem.W.codeIn K cd__law_goes_right "_law_goes_right" = true)
    (k__law_goes_right : PySem.W.keepIn K (.ref f__law_goes_right) = true)
    (l_Shares_letters : K.lookup f_Shares_letters = some ⟨oc_Shares_letters, od_Shares_letters, .func (PySem.W.fnOf "letters" "Shares.letters" (defArgs s_Shares_letters) (defBody s_Shares_letters) (defScope s_Shares_letters) .none kV_Shares_letters dc_Shares_letters pm_Shares_letters an_Shares_letters cd_Shares_letters ct_Shares_letters), sl_Shares_letters⟩)
    (c_Shares_letters : PySem.W.codeIn K cd_Shares_letters "Shares.letters" = true)
    (k_Shares_letters : PySem.W.keepIn K (.ref f_Shares_letters) = true)
    (fn_Shares_letters : PySem.W.isFn K (.ref f_Shares_letters) = true)
    (a__law_refused_letters : PySem.W.nsIn K mainGlobals "_law_refused_letters" = some (some (.ref f__law_refused_letters)))
    (l__law_refused_letters : K.lookup f__law_refused_letters = some ⟨oc__law_refused_letters, od__law_refused_letters, .func (PySem.W.fnOf "_law_refused_letters" "_law_refused_letters" (defArgs s__law_refused_letters) (defBody s__law_refused_letters) (defScope s__law_refused_letters) .none kV__law_refused_letters dc__law_refused_letters pm__law_refused_letters an__law_refused_letters cd__law_refused_letters ct__law_refused_letters), sl__law_refused_letters⟩)
    (c__law_refused_letters : PySem.W.codeIn K cd__law_refused_letters "_law_refused_letters" = true)
    (k__law_refused_letters : PySem.W.keepIn K (.ref f__law_refused_letters) = true)
    (a__law_spelled : PySem.W.nsIn K mainGlobals "_law_spelled" = some (some (.ref f__law_spelled)))
    (l__law_spelled : K.lookup f__law_spelled = some ⟨oc__law_spelled, od__law_spelled, .func (PySem.W.fnOf "_law_spelled" "_law_spelled" (defArgs s__law_spelled) (defBody s__law_spelled) (defScope s__law_spelled) .none kV__law_spelled dc__law_spelled pm__law_spelled an__law_spelled cd__law_spelled ct__law_spelled), sl__law_spelled⟩)
    (c__law_spelled : PySem.W.codeIn K cd__law_spelled "_law_spelled" = true)
    (k__law_spelled : PySem.W.keepIn K (.ref f__law_spelled) = true)
    (a__law_letters_right : PySem.W.nsIn K mainGlobals "_law_letters_right" = some (some (.ref f__law_letters_right)))
    (l__law_letters_right : K.lookup f__law_letters_right = some ⟨oc__law_letters_right, od__law_letters_right, .func (PySem.W.fnOf "_law_letters_right" "_law_letters_right" (defArgs s__law_letters_right) (defBody s__law_letters_right) (defScope s__law_letters_right) .none kV__law_letters_right dc__law_letters_right pm__law_letters_right an__law_letters_right cd__law_letters_right ct__law_letters_right), sl__law_letters_right⟩)
    (c__law_letters_right : PySem.W.codeIn K cd__law_letters_right "_law_letters_right" = true)
    (k__law_letters_right : PySem.W.keepIn K (.ref f__law_letters_right) = true)
    (a__law_refused_end : PySem.W.nsIn K mainGlobals "_law_refused_end" = some (some (.ref f__law_refused_end)))
    (l__law_refused_end : K.lookup f__law_refused_end = some ⟨oc__law_refused_end, od__law_refused_end, .func (PySem.W.fnOf "_law_refused_end" "_law_refused_end" (defArgs s__law_refused_end) (defBody s__law_refused_end) (defScope s__law_refused_end) .none kV__law_refused_end dc__law_refused_end pm__law_refused_end an__law_refused_end cd__law_refused_end ct__law_refused_end), sl__law_refused_end⟩)
    (c__law_refused_end : PySem.W.codeIn K cd__law_refused_end "_law_refused_end" = true)
    (k__law_refused_end : PySem.W.keepIn K (.ref f__law_refused_end) = true)
    (a__law_refused_goes : PySem.W.nsIn K mainGlobals "_law_refused_goes" = some (some (.ref f__law_refused_goes)))
    (l__law_refused_goes : K.lookup f__law_refused_goes = some ⟨oc__law_refused_goes, od__law_refused_goes, .func (PySem.W.fnOf "_law_refused_goes" "_law_refused_goes" (defArgs s__law_refused_goes) (defBody s__law_refused_goes) (defScope s__law_refused_goes) .none kV__law_refused_goes dc__law_refused_goes pm__law_refused_goes an__law_refused_goes cd__law_refused_goes ct__law_refused_goes), sl__law_refused_goes⟩)
    (c__law_refused_goes : PySem.W.codeIn K cd__law_refused_goes "_law_refused_goes" = true)
    (k__law_refused_goes : PySem.W.keepIn K (.ref f__law_refused_goes) = true)
    (a__law_refused_gains : PySem.W.nsIn K mainGlobals "_law_refused_gains" = some (some (.ref f__law_refused_gains)))
    (l__law_refused_gains : K.lookup f__law_refused_gains = some ⟨oc__law_refused_gains, od__law_refused_gains, .func (PySem.W.fnOf "_law_refused_gains" "_law_refused_gains" (defArgs s__law_refused_gains) (defBody s__law_refused_gains) (defScope s__law_refused_gains) .none kV__law_refused_gains dc__law_refused_gains pm__law_refused_gains an__law_refused_gains cd__law_refused_gains ct__law_refused_gains), sl__law_refused_gains⟩)
    (c__law_refused_gains : PySem.W.codeIn K cd__law_refused_gains "_law_refused_gains" = true)
    (k__law_refused_gains : PySem.W.keepIn K (.ref f__law_refused_gains) = true)
    (a__law_refusals_right : PySem.W.nsIn K mainGlobals "_law_refusals_right" = some (some (.ref f__law_refusals_right)))
    (l__law_refusals_right : K.lookup f__law_refusals_right = some ⟨oc__law_refusals_right, od__law_refusals_right, .func (PySem.W.fnOf "_law_refusals_right" "_law_refusals_right" (defArgs s__law_refusals_right) (defBody s__law_refusals_right) (defScope s__law_refusals_right) .none kV__law_refusals_right dc__law_refusals_right pm__law_refusals_right an__law_refusals_right cd__law_refusals_right ct__law_refusals_right), sl__law_refusals_right⟩)
    (c__law_refusals_right : PySem.W.codeIn K cd__law_refusals_right "_law_refusals_right" = true)
    (k__law_refusals_right : PySem.W.keepIn K (.ref f__law_refusals_right) = true)
    (a__law_limit_right : PySem.W.nsIn K mainGlobals "_law_limit_right" = some (some (.ref f__law_limit_right)))
    (l__law_limit_right : K.lookup f__law_limit_right = some ⟨oc__law_limit_right, od__law_limit_right, .func (PySem.W.fnOf "_law_limit_right" "_law_limit_right" (defArgs s__law_limit_right) (defBody s__law_limit_right) (defScope s__law_limit_right) .none kV__law_limit_right dc__law_limit_right pm__law_limit_right an__law_limit_right cd__law_limit_right ct__law_limit_right), sl__law_limit_right⟩)
    (c__law_limit_right : PySem.W.codeIn K cd__law_limit_right "_law_limit_right" = true)
    (k__law_limit_right : PySem.W.keepIn K (.ref f__law_limit_right) = true)
    (a_law : PySem.W.nsIn K mainGlobals "law" = some (some (.ref f_law)))
    (l_law : K.lookup f_law = some ⟨oc_law, od_law, .func (PySem.W.fnOf "law" "law" (defArgs s_law) (defBody s_law) (defScope s_law) .none kV_law dc_law pm_law an_law cd_law ct_law), sl_law⟩)
    (c_law : PySem.W.codeIn K cd_law "law" = true)
    (k_law : PySem.W.keepIn K (.ref f_law) = true)
    (z_ValueError : PySem.W.nsIn K mainGlobals "ValueError" = some none)
    (z_abs : PySem.W.nsIn K mainGlobals "abs" = some none)
    (z_all : PySem.W.nsIn K mainGlobals "all" = some none)
    (z_bool : PySem.W.nsIn K mainGlobals "bool" = some none)
    (z_int : PySem.W.nsIn K mainGlobals "int" = some none)
    (z_isinstance : PySem.W.nsIn K mainGlobals "isinstance" = some none)
    (z_len : PySem.W.nsIn K mainGlobals "len" = some none)
    (z_list : PySem.W.nsIn K mainGlobals "list" = some none)
    (z_max : PySem.W.nsIn K mainGlobals "max" = some none)
    (z_min : PySem.W.nsIn K mainGlobals "min" = some none)
    (z_range : PySem.W.nsIn K mainGlobals "range" = some none)
    (z_str : PySem.W.nsIn K mainGlobals "str" = some none)
    (z_sum : PySem.W.nsIn K mainGlobals "sum" = some none)
    (z_tuple : PySem.W.nsIn K mainGlobals "tuple" = some none)
    (z_super : PySem.W.nsIn K mainGlobals "super" = some none)
    {t_MOST_CHAIRS : Tok}
    (q_MOST_CHAIRS : PySem.W.nsIn K mainGlobals "MOST_CHAIRS" = some (some (.int 1000000000000000000 t_MOST_CHAIRS)))
    {t_MOST_LETTERS : Tok}
    (q_MOST_LETTERS : PySem.W.nsIn K mainGlobals "MOST_LETTERS" = some (some (.int 1000 t_MOST_LETTERS)))
    {t_MOST_STRETCHES : Tok}
    (q_MOST_STRETCHES : PySem.W.nsIn K mainGlobals "MOST_STRETCHES" = some (some (.int 200 t_MOST_STRETCHES)))
    {C_HallError : Addr}
    (a_HallError : PySem.W.nsIn K mainGlobals "HallError" = some (some (.ref C_HallError)))
    {C_BadCrowd I_BadCrowd cc_BadCrowd cda_BadCrowd : Addr} {nm_BadCrowd q_BadCrowd : Str} {NN_BadCrowd : Addr} {bs_BadCrowd bm_BadCrowd : List Value} {sn_BadCrowd : List Str} {sub_BadCrowd : List Value} {ab_BadCrowd : Bool} {col_BadCrowd : Option Bool} {dd_BadCrowd : Option Addr} {m0_BadCrowd m1_BadCrowd m2_BadCrowd m3_BadCrowd m5_BadCrowd : Option Value}
    {od_BadCrowd an_BadCrowd cdd_BadCrowd cld_BadCrowd : Option Addr} {sl_BadCrowd ccs_BadCrowd csl_BadCrowd : Array (Option Value)} {oc_BadCrowd dc_BadCrowd pm_BadCrowd ct_BadCrowd ccl_BadCrowd cl_BadCrowd : Value} {vs_BadCrowd : Array Value} {file_BadCrowd : Str} {tf_BadCrowd : Tok}
    (a_BadCrowd : PySem.W.nsIn K mainGlobals "BadCrowd" = some (some (.ref C_BadCrowd)))
    (x_BadCrowd : K.lookup C_BadCrowd = some (excClassObj nm_BadCrowd q_BadCrowd C_BadCrowd NN_BadCrowd bs_BadCrowd bm_BadCrowd true sn_BadCrowd sub_BadCrowd ab_BadCrowd col_BadCrowd dd_BadCrowd m0_BadCrowd m1_BadCrowd m2_BadCrowd m3_BadCrowd m5_BadCrowd "ValueError.__new__"))
    (bm_ok_BadCrowd : PySem.HandSPX.refsVE bm_BadCrowd = true)
    (sa_BadCrowd : PySem.W.findIn K (.ref C_BadCrowd) "__setattr__" = some (some (.builtin "object.__setattr__")))
    (ga_BadCrowd : PySem.W.findIn K (.ref C_BadCrowd) "__getattribute__" = some (some (.builtin "BaseException.__getattribute__")))
    (gg_BadCrowd : PySem.W.findIn K (.ref C_BadCrowd) "__getattr__" = some none)
    (nn_BadCrowd : PySem.W.findIn K (.ref C_BadCrowd) "crowd" = some none)
    (i_BadCrowd : PySem.W.findIn K (.ref C_BadCrowd) "__init__" = some (some (.ref I_BadCrowd)))
    (t_BadCrowd : PySem.W.typeIn K (.ref I_BadCrowd) = some (.type "function"))
    (kc_BadCrowd : PySem.W.keepIn K (.ref C_BadCrowd) = true)
    (ec_BadCrowd : PySem.W.subIn K (.ref C_BadCrowd) (.type "BaseException") = some true)
    (vc_BadCrowd : PySem.W.subIn K (.ref C_BadCrowd) (.type "ValueError") = some true)
    (ty_BadCrowd : PySem.W.typeIn K (.ref C_BadCrowd) = some (.type "type"))
    (hd_BadCrowd : PySem.W.hasDictIn K C_BadCrowd = true)
    (sp_BadCrowd : PySem.W.ks_superIn K C_BadCrowd C_BadCrowd "__init__" = some (some (.builtin "ValueError.__init__")))
    (l_BadCrowd : K.lookup I_BadCrowd = some ⟨oc_BadCrowd, od_BadCrowd, .func (PySem.W.ksFn "__init__" "BadCrowd.__init__" (PySem.SupX.sArgs "crowd" ⟨9, 17, 9, 21⟩ ⟨9, 23, 9, 28⟩) (PySem.SupX.sBody "crowd" "this is not a crowd that is wanted here" ⟨10, 8, 10, 13⟩ ⟨10, 8, 10, 15⟩ ⟨10, 8, 10, 24⟩ ⟨10, 25, 10, 66⟩ ⟨10, 8, 10, 67⟩ ⟨10, 8, 10, 67⟩ ⟨11, 8, 11, 12⟩ ⟨11, 8, 11, 18⟩ ⟨11, 21, 11, 26⟩ ⟨11, 8, 11, 26⟩) (PySem.SupX.sScope "crowd") .none .none dc_BadCrowd pm_BadCrowd an_BadCrowd (.ref cda_BadCrowd) ct_BadCrowd cc_BadCrowd), sl_BadCrowd⟩)
    (c_BadCrowd : PySem.W.codeIn K (.ref cda_BadCrowd) "BadCrowd.__init__" = true)
    (cd_BadCrowd : K.lookup cda_BadCrowd = some ⟨ccl_BadCrowd, cdd_BadCrowd, .fields vs_BadCrowd, ccs_BadCrowd⟩)
    (vs2_BadCrowd : vs_BadCrowd[2]? = some (.str file_BadCrowd tf_BadCrowd))
    (fi_BadCrowd : ((PySem.Challenge.pw_fewchairs_k36_shares_ends.main.file : Str) == file_BadCrowd) = true)
    (ce_BadCrowd : K.lookup cc_BadCrowd = some ⟨cl_BadCrowd, cld_BadCrowd, .cell (some (.ref C_BadCrowd)), csl_BadCrowd⟩)
    {C_BadKind I_BadKind cc_BadKind cda_BadKind : Addr} {nm_BadKind q_BadKind : Str} {NN_BadKind : Addr} {bs_BadKind bm_BadKind : List Value} {sn_BadKind : List Str} {sub_BadKind : List Value} {ab_BadKind : Bool} {col_BadKind : Option Bool} {dd_BadKind : Option Addr} {m0_BadKind m1_BadKind m2_BadKind m3_BadKind m5_BadKind : Option Value}
    {od_BadKind an_BadKind cdd_BadKind cld_BadKind : Option Addr} {sl_BadKind ccs_BadKind csl_BadKind : Array (Option Value)} {oc_BadKind dc_BadKind pm_BadKind ct_BadKind ccl_BadKind cl_BadKind : Value} {vs_BadKind : Array Value} {file_BadKind : Str} {tf_BadKind : Tok}
    (a_BadKind : PySem.W.nsIn K mainGlobals "BadKind" = some (some (.ref C_BadKind)))
    (x_BadKind : K.lookup C_BadKind = some (excClassObj nm_BadKind q_BadKind C_BadKind NN_BadKind bs_BadKind bm_BadKind true sn_BadKind sub_BadKind ab_BadKind col_BadKind dd_BadKind m0_BadKind m1_BadKind m2_BadKind m3_BadKind m5_BadKind "ValueError.__new__"))
    (bm_ok_BadKind : PySem.HandSPX.refsVE bm_BadKind = true)
    (sa_BadKind : PySem.W.findIn K (.ref C_BadKind) "__setattr__" = some (some (.builtin "object.__setattr__")))
    (ga_BadKind : PySem.W.findIn K (.ref C_BadKind) "__getattribute__" = some (some (.builtin "BaseException.__getattribute__")))
    (gg_BadKind : PySem.W.findIn K (.ref C_BadKind) "__getattr__" = some none)
    (nn_BadKind : PySem.W.findIn K (.ref C_BadKind) "kind" = some none)
    (i_BadKind : PySem.W.findIn K (.ref C_BadKind) "__init__" = some (some (.ref I_BadKind)))
    (t_BadKind : PySem.W.typeIn K (.ref I_BadKind) = some (.type "function"))
    (kc_BadKind : PySem.W.keepIn K (.ref C_BadKind) = true)
    (ec_BadKind : PySem.W.subIn K (.ref C_BadKind) (.type "BaseException") = some true)
    (vc_BadKind : PySem.W.subIn K (.ref C_BadKind) (.type "ValueError") = some true)
    (ty_BadKind : PySem.W.typeIn K (.ref C_BadKind) = some (.type "type"))
    (hd_BadKind : PySem.W.hasDictIn K C_BadKind = true)
    (sp_BadKind : PySem.W.ks_superIn K C_BadKind C_BadKind "__init__" = some (some (.builtin "ValueError.__init__")))
    (l_BadKind : K.lookup I_BadKind = some ⟨oc_BadKind, od_BadKind, .func (PySem.W.ksFn "__init__" "BadKind.__init__" (PySem.SupX.sArgs "kind" ⟨14, 17, 14, 21⟩ ⟨14, 23, 14, 27⟩) (PySem.SupX.sBody "kind" "this is not a kind that is wanted here" ⟨15, 8, 15, 13⟩ ⟨15, 8, 15, 15⟩ ⟨15, 8, 15, 24⟩ ⟨15, 25, 15, 65⟩ ⟨15, 8, 15, 66⟩ ⟨15, 8, 15, 66⟩ ⟨16, 8, 16, 12⟩ ⟨16, 8, 16, 17⟩ ⟨16, 20, 16, 24⟩ ⟨16, 8, 16, 24⟩) (PySem.SupX.sScope "kind") .none .none dc_BadKind pm_BadKind an_BadKind (.ref cda_BadKind) ct_BadKind cc_BadKind), sl_BadKind⟩)
    (c_BadKind : PySem.W.codeIn K (.ref cda_BadKind) "BadKind.__init__" = true)
    (cd_BadKind : K.lookup cda_BadKind = some ⟨ccl_BadKind, cdd_BadKind, .fields vs_BadKind, ccs_BadKind⟩)
    (vs2_BadKind : vs_BadKind[2]? = some (.str file_BadKind tf_BadKind))
    (fi_BadKind : ((PySem.Challenge.pw_fewchairs_k36_shares_ends.main.file : Str) == file_BadKind) = true)
    (ce_BadKind : K.lookup cc_BadKind = some ⟨cl_BadKind, cld_BadKind, .cell (some (.ref C_BadKind)), csl_BadKind⟩)
    {C_BadNumber I_BadNumber cc_BadNumber cda_BadNumber : Addr} {nm_BadNumber q_BadNumber : Str} {NN_BadNumber : Addr} {bs_BadNumber bm_BadNumber : List Value} {sn_BadNumber : List Str} {sub_BadNumber : List Value} {ab_BadNumber : Bool} {col_BadNumber : Option Bool} {dd_BadNumber : Option Addr} {m0_BadNumber m1_BadNumber m2_BadNumber m3_BadNumber m5_BadNumber : Option Value}
    {od_BadNumber an_BadNumber cdd_BadNumber cld_BadNumber : Option Addr} {sl_BadNumber ccs_BadNumber csl_BadNumber : Array (Option Value)} {oc_BadNumber dc_BadNumber pm_BadNumber ct_BadNumber ccl_BadNumber cl_BadNumber : Value} {vs_BadNumber : Array Value} {file_BadNumber : Str} {tf_BadNumber : Tok}
    (a_BadNumber : PySem.W.nsIn K mainGlobals "BadNumber" = some (some (.ref C_BadNumber)))
    (x_BadNumber : K.lookup C_BadNumber = some (excClassObj nm_BadNumber q_BadNumber C_BadNumber NN_BadNumber bs_BadNumber bm_BadNumber true sn_BadNumber sub_BadNumber ab_BadNumber col_BadNumber dd_BadNumber m0_BadNumber m1_BadNumber m2_BadNumber m3_BadNumber m5_BadNumber "ValueError.__new__"))
    (bm_ok_BadNumber : PySem.HandSPX.refsVE bm_BadNumber = true)
    (sa_BadNumber : PySem.W.findIn K (.ref C_BadNumber) "__setattr__" = some (some (.builtin "object.__setattr__")))
    (ga_BadNumber : PySem.W.findIn K (.ref C_BadNumber) "__getattribute__" = some (some (.builtin "BaseException.__getattribute__")))
    (gg_BadNumber : PySem.W.findIn K (.ref C_BadNumber) "__getattr__" = some none)
    (nn_BadNumber : PySem.W.findIn K (.ref C_BadNumber) "number" = some none)
    (i_BadNumber : PySem.W.findIn K (.ref C_BadNumber) "__init__" = some (some (.ref I_BadNumber)))
    (t_BadNumber : PySem.W.typeIn K (.ref I_BadNumber) = some (.type "function"))
    (kc_BadNumber : PySem.W.keepIn K (.ref C_BadNumber) = true)
    (ec_BadNumber : PySem.W.subIn K (.ref C_BadNumber) (.type "BaseException") = some true)
    (vc_BadNumber : PySem.W.subIn K (.ref C_BadNumber) (.type "ValueError") = some true)
    (ty_BadNumber : PySem.W.typeIn K (.ref C_BadNumber) = some (.type "type"))
    (hd_BadNumber : PySem.W.hasDictIn K C_BadNumber = true)
    (sp_BadNumber : PySem.W.ks_superIn K C_BadNumber C_BadNumber "__init__" = some (some (.builtin "ValueError.__init__")))
    (l_BadNumber : K.lookup I_BadNumber = some ⟨oc_BadNumber, od_BadNumber, .func (PySem.W.ksFn "__init__" "BadNumber.__init__" (PySem.SupX.sArgs "number" ⟨19, 17, 19, 21⟩ ⟨19, 23, 19, 29⟩) (PySem.SupX.sBody "number" "the number is out of its bounds" ⟨20, 8, 20, 13⟩ ⟨20, 8, 20, 15⟩ ⟨20, 8, 20, 24⟩ ⟨20, 25, 20, 58⟩ ⟨20, 8, 20, 59⟩ ⟨20, 8, 20, 59⟩ ⟨21, 8, 21, 12⟩ ⟨21, 8, 21, 19⟩ ⟨21, 22, 21, 28⟩ ⟨21, 8, 21, 28⟩) (PySem.SupX.sScope "number") .none .none dc_BadNumber pm_BadNumber an_BadNumber (.ref cda_BadNumber) ct_BadNumber cc_BadNumber), sl_BadNumber⟩)
    (c_BadNumber : PySem.W.codeIn K (.ref cda_BadNumber) "BadNumber.__init__" = true)
    (cd_BadNumber : K.lookup cda_BadNumber = some ⟨ccl_BadNumber, cdd_BadNumber, .fields vs_BadNumber, ccs_BadNumber⟩)
    (vs2_BadNumber : vs_BadNumber[2]? = some (.str file_BadNumber tf_BadNumber))
    (fi_BadNumber : ((PySem.Challenge.pw_fewchairs_k36_shares_ends.main.file : Str) == file_BadNumber) = true)
    (ce_BadNumber : K.lookup cc_BadNumber = some ⟨cl_BadNumber, cld_BadNumber, .cell (some (.ref C_BadNumber)), csl_BadNumber⟩)
    {C_TooLarge I_TooLarge cc_TooLarge cda_TooLarge : Addr} {nm_TooLarge q_TooLarge : Str} {NN_TooLarge : Addr} {bs_TooLarge bm_TooLarge : List Value} {sn_TooLarge : List Str} {sub_TooLarge : List Value} {ab_TooLarge : Bool} {col_TooLarge : Option Bool} {dd_TooLarge : Option Addr} {m0_TooLarge m1_TooLarge m2_TooLarge m3_TooLarge m5_TooLarge : Option Value}
    {od_TooLarge an_TooLarge cdd_TooLarge cld_TooLarge : Option Addr} {sl_TooLarge ccs_TooLarge csl_TooLarge : Array (Option Value)} {oc_TooLarge dc_TooLarge pm_TooLarge ct_TooLarge ccl_TooLarge cl_TooLarge : Value} {vs_TooLarge : Array Value} {file_TooLarge : Str} {tf_TooLarge : Tok}
    (a_TooLarge : PySem.W.nsIn K mainGlobals "TooLarge" = some (some (.ref C_TooLarge)))
    (x_TooLarge : K.lookup C_TooLarge = some (excClassObj nm_TooLarge q_TooLarge C_TooLarge NN_TooLarge bs_TooLarge bm_TooLarge true sn_TooLarge sub_TooLarge ab_TooLarge col_TooLarge dd_TooLarge m0_TooLarge m1_TooLarge m2_TooLarge m3_TooLarge m5_TooLarge "ValueError.__new__"))
    (bm_ok_TooLarge : PySem.HandSPX.refsVE bm_TooLarge = true)
    (sa_TooLarge : PySem.W.findIn K (.ref C_TooLarge) "__setattr__" = some (some (.builtin "object.__setattr__")))
    (ga_TooLarge : PySem.W.findIn K (.ref C_TooLarge) "__getattribute__" = some (some (.builtin "BaseException.__getattribute__")))
    (gg_TooLarge : PySem.W.findIn K (.ref C_TooLarge) "__getattr__" = some none)
    (nn_TooLarge : PySem.W.findIn K (.ref C_TooLarge) "size" = some none)
    (i_TooLarge : PySem.W.findIn K (.ref C_TooLarge) "__init__" = some (some (.ref I_TooLarge)))
    (t_TooLarge : PySem.W.typeIn K (.ref I_TooLarge) = some (.type "function"))
    (kc_TooLarge : PySem.W.keepIn K (.ref C_TooLarge) = true)
    (ec_TooLarge : PySem.W.subIn K (.ref C_TooLarge) (.type "BaseException") = some true)
    (vc_TooLarge : PySem.W.subIn K (.ref C_TooLarge) (.type "ValueError") = some true)
    (ty_TooLarge : PySem.W.typeIn K (.ref C_TooLarge) = some (.type "type"))
    (hd_TooLarge : PySem.W.hasDictIn K C_TooLarge = true)
    (sp_TooLarge : PySem.W.ks_superIn K C_TooLarge C_TooLarge "__init__" = some (some (.builtin "ValueError.__init__")))
    (l_TooLarge : K.lookup I_TooLarge = some ⟨oc_TooLarge, od_TooLarge, .func (PySem.W.ksFn "__init__" "TooLarge.__init__" (PySem.SupX.sArgs "size" ⟨24, 17, 24, 21⟩ ⟨24, 23, 24, 27⟩) (PySem.SupX.sBody "size" "this is too large" ⟨25, 8, 25, 13⟩ ⟨25, 8, 25, 15⟩ ⟨25, 8, 25, 24⟩ ⟨25, 25, 25, 44⟩ ⟨25, 8, 25, 45⟩ ⟨25, 8, 25, 45⟩ ⟨26, 8, 26, 12⟩ ⟨26, 8, 26, 17⟩ ⟨26, 20, 26, 24⟩ ⟨26, 8, 26, 24⟩) (PySem.SupX.sScope "size") .none .none dc_TooLarge pm_TooLarge an_TooLarge (.ref cda_TooLarge) ct_TooLarge cc_TooLarge), sl_TooLarge⟩)
    (c_TooLarge : PySem.W.codeIn K (.ref cda_TooLarge) "TooLarge.__init__" = true)
    (cd_TooLarge : K.lookup cda_TooLarge = some ⟨ccl_TooLarge, cdd_TooLarge, .fields vs_TooLarge, ccs_TooLarge⟩)
    (vs2_TooLarge : vs_TooLarge[2]? = some (.str file_TooLarge tf_TooLarge))
    (fi_TooLarge : ((PySem.Challenge.pw_fewchairs_k36_shares_ends.main.file : Str) == file_TooLarge) = true)
    (ce_TooLarge : K.lookup cc_TooLarge = some ⟨cl_TooLarge, cld_TooLarge, .cell (some (.ref C_TooLarge)), csl_TooLarge⟩)
    {C_BadShares I_BadShares cc_BadShares cda_BadShares : Addr} {nm_BadShares q_BadShares : Str} {NN_BadShares : Addr} {bs_BadShares bm_BadShares : List Value} {sn_BadShares : List Str} {sub_BadShares : List Value} {ab_BadShares : Bool} {col_BadShares : Option Bool} {dd_BadShares : Option Addr} {m0_BadShares m1_BadShares m2_BadShares m3_BadShares m5_BadShares : Option Value}
    {od_BadShares an_BadShares cdd_BadShares cld_BadShares : Option Addr} {sl_BadShares ccs_BadShares csl_BadShares : Array (Option Value)} {oc_BadShares dc_BadShares pm_BadShares ct_BadShares ccl_BadShares cl_BadShares : Value} {vs_BadShares : Array Value} {file_BadShares : Str} {tf_BadShares : Tok}
    (a_BadShares : PySem.W.nsIn K mainGlobals "BadShares" = some (some (.ref C_BadShares)))
    (x_BadShares : K.lookup C_BadShares = some (excClassObj nm_BadShares q_BadShares C_BadShares NN_BadShares bs_BadShares bm_BadShares true sn_BadShares sub_BadShares ab_BadShares col_BadShares dd_BadShares m0_BadShares m1_BadShares m2_BadShares m3_BadShares m5_BadShares "ValueError.__new__"))
    (bm_ok_BadShares : PySem.HandSPX.refsVE bm_BadShares = true)
    (sa_BadShares : PySem.W.findIn K (.ref C_BadShares) "__setattr__" = some (some (.builtin "object.__setattr__")))
    (ga_BadShares : PySem.W.findIn K (.ref C_BadShares) "__getattribute__" = some (some (.builtin "BaseException.__getattribute__")))
    (gg_BadShares : PySem.W.findIn K (.ref C_BadShares) "__getattr__" = some none)
    (nn_BadShares : PySem.W.findIn K (.ref C_BadShares) "what" = some none)
    (i_BadShares : PySem.W.findIn K (.ref C_BadShares) "__init__" = some (some (.ref I_BadShares)))
    (t_BadShares : PySem.W.typeIn K (.ref I_BadShares) = some (.type "function"))
    (kc_BadShares : PySem.W.keepIn K (.ref C_BadShares) = true)
    (ec_BadShares : PySem.W.subIn K (.ref C_BadShares) (.type "BaseException") = some true)
    (vc_BadShares : PySem.W.subIn K (.ref C_BadShares) (.type "ValueError") = some true)
    (ty_BadShares : PySem.W.typeIn K (.ref C_BadShares) = some (.type "type"))
    (hd_BadShares : PySem.W.hasDictIn K C_BadShares = true)
    (sp_BadShares : PySem.W.ks_superIn K C_BadShares C_BadShares "__init__" = some (some (.builtin "ValueError.__init__")))
    (l_BadShares : K.lookup I_BadShares = some ⟨oc_BadShares, od_BadShares, .func (PySem.W.ksFn "__init__" "BadShares.__init__" (PySem.SupX.sArgs "what" ⟨29, 17, 29, 21⟩ ⟨29, 23, 29, 27⟩) (PySem.SupX.sBody "what" "an argument of the shares is wrong" ⟨30, 8, 30, 13⟩ ⟨30, 8, 30, 15⟩ ⟨30, 8, 30, 24⟩ ⟨30, 25, 30, 61⟩ ⟨30, 8, 30, 62⟩ ⟨30, 8, 30, 62⟩ ⟨31, 8, 31, 12⟩ ⟨31, 8, 31, 17⟩ ⟨31, 20, 31, 24⟩ ⟨31, 8, 31, 24⟩) (PySem.SupX.sScope "what") .none .none dc_BadShares pm_BadShares an_BadShares (.ref cda_BadShares) ct_BadShares cc_BadShares), sl_BadShares⟩)
    (c_BadShares : PySem.W.codeIn K (.ref cda_BadShares) "BadShares.__init__" = true)
    (cd_BadShares : K.lookup cda_BadShares = some ⟨ccl_BadShares, cdd_BadShares, .fields vs_BadShares, ccs_BadShares⟩)
    (vs2_BadShares : vs_BadShares[2]? = some (.str file_BadShares tf_BadShares))
    (fi_BadShares : ((PySem.Challenge.pw_fewchairs_k36_shares_ends.main.file : Str) == file_BadShares) = true)
    (ce_BadShares : K.lookup cc_BadShares = some ⟨cl_BadShares, cld_BadShares, .cell (some (.ref C_BadShares)), csl_BadShares⟩)
    (opq : PySem.W.nsIn K PySem.cStatics "thirdparty.any" = some none)
    (cls_BadCrowd : PySem.W.findIn K (.ref C_BadCrowd) "__class__" = some (some (.builtin "object.__class__")))
    (mo_BadCrowd : PySem.W.mroIn K C_BadCrowd (.type "object") = some true)
    (isc_BadCrowd : PySem.W.isClsIn K C_BadCrowd = true)
    (cls_BadKind : PySem.W.findIn K (.ref C_BadKind) "__class__" = some (some (.builtin "object.__class__")))
    (mo_BadKind : PySem.W.mroIn K C_BadKind (.type "object") = some true)
    (isc_BadKind : PySem.W.isClsIn K C_BadKind = true)
    (cls_BadNumber : PySem.W.findIn K (.ref C_BadNumber) "__class__" = some (some (.builtin "object.__class__")))
    (mo_BadNumber : PySem.W.mroIn K C_BadNumber (.type "object") = some true)
    (isc_BadNumber : PySem.W.isClsIn K C_BadNumber = true)
    (cls_TooLarge : PySem.W.findIn K (.ref C_TooLarge) "__class__" = some (some (.builtin "object.__class__")))
    (mo_TooLarge : PySem.W.mroIn K C_TooLarge (.type "object") = some true)
    (isc_TooLarge : PySem.W.isClsIn K C_TooLarge = true)
    (ss_BadCrowd_BadCrowd : PySem.W.subIn K (.ref C_BadCrowd) (.ref C_BadCrowd) = some true)
    (ss_BadKind_BadKind : PySem.W.subIn K (.ref C_BadKind) (.ref C_BadKind) = some true)
    (ss_BadNumber_BadKind : PySem.W.subIn K (.ref C_BadNumber) (.ref C_BadKind) = some false)
    (ss_BadNumber_BadNumber : PySem.W.subIn K (.ref C_BadNumber) (.ref C_BadNumber) = some true)
    (ss_TooLarge_BadKind : PySem.W.subIn K (.ref C_TooLarge) (.ref C_BadKind) = some false)
    (ss_TooLarge_TooLarge : PySem.W.subIn K (.ref C_TooLarge) (.ref C_TooLarge) = some true)
    (kit_BadCrowd_BadKind : PySem.W.kitOne K (.ref C_BadCrowd) (.ref C_BadKind) = some false)
    (kit_BadCrowd_BadNumber : PySem.W.kitOne K (.ref C_BadCrowd) (.ref C_BadNumber) = some false)
    (kit_BadCrowd_HallError : PySem.W.kitOne K (.ref C_BadCrowd) (.ref C_HallError) = some true)
    (kit_BadCrowd_ValueError : PySem.W.kitOne K (.ref C_BadCrowd) (.type "ValueError") = some true)
    (kit_BadKind_BadNumber : PySem.W.kitOne K (.ref C_BadKind) (.ref C_BadNumber) = some false)
    (kit_BadKind_HallError : PySem.W.kitOne K (.ref C_BadKind) (.ref C_HallError) = some true)
    (kit_BadKind_TooLarge : PySem.W.kitOne K (.ref C_BadKind) (.ref C_TooLarge) = some false)
    (kit_BadKind_ValueError : PySem.W.kitOne K (.ref C_BadKind) (.type "ValueError") = some true)
    (kit_BadNumber_BadKind : PySem.W.kitOne K (.ref C_BadNumber) (.ref C_BadKind) = some false)
    (kit_BadNumber_HallError : PySem.W.kitOne K (.ref C_BadNumber) (.ref C_HallError) = some true)
    (kit_BadNumber_ValueError : PySem.W.kitOne K (.ref C_BadNumber) (.type "ValueError") = some true)
    (kit_TooLarge_BadKind : PySem.W.kitOne K (.ref C_TooLarge) (.ref C_BadKind) = some false)
    (kit_TooLarge_HallError : PySem.W.kitOne K (.ref C_TooLarge) (.ref C_HallError) = some true)
    (kit_TooLarge_ValueError : PySem.W.kitOne K (.ref C_TooLarge) (.type "ValueError") = some true)
    (goodS : ∀ ns : List Int, ns.length ≤ 63 → ∃ S', F_law [.lst (ns.map Dv.int)] [] = some (.ok (.bl true) S')) :
    ∃ fd : FuncData, (∀ (s : Shared) (v : Value), BindsTo s fd ⟨[v], []⟩ [("script", v)]) ∧ ∀ base : Heap, K.In base → base.Ns mainGlobals mg → FnOk l.prog w K mg base (L2.CX l.prog w) 8 fa fd ["script"] (spLaw 63 K) := by
  have e := hfa.symm.trans (PySem.W.mg_of X G a_law)
  cases e
  rw [hl]
  have F_law_pool := fun_mk (st := s__law_pool) l__law_pool c__law_pool k__law_pool
  have F_law_draw := fun_mk (st := s__law_draw) l__law_draw c__law_draw k__law_draw
  have F_law_great := fun_mk (st := s__law_great) l__law_great c__law_great k__law_great
  have F_law_drawn_word := fun_mk (st := s__law_drawn_word) l__law_drawn_word c__law_drawn_word k__law_drawn_word
  have F_law_long := fun_mk (st := s__law_long) l__law_long c__law_long k__law_long
  have F_law_words := fun_mk (st := s__law_words) l__law_words c__law_words k__law_words
  have F_law_lack := fun_mk (st := s__law_lack) l__law_lack c__law_lack k__law_lack
  have F_law_letters_of := fun_mk (st := s__law_letters_of) l__law_letters_of c__law_letters_of k__law_letters_of
  have F_law_near := fun_mk (st := s__law_near) l__law_near c__law_near k__law_near
  have F_law_any := fun_mk (st := s__law_any) l__law_any c__law_any k__law_any
  have F_law_any_meeting := fun_mk (st := s__law_any_meeting) l__law_any_meeting c__law_any_meeting k__law_any_meeting
  have F_law_turned := fun_mk (st := s__law_turned) l__law_turned c__law_turned k__law_turned
  have F_is_word := fun_mk (st := s__is_word) l__is_word c__is_word k__is_word
  have FShares___init__ := fun_mk (st := s_Shares___init__) l_Shares___init__ c_Shares___init__ k_Shares___init__
  have FShares___eq__ := fun_mk (st := s_Shares___eq__) l_Shares___eq__ c_Shares___eq__ k_Shares___eq__
  have F_law_same := fun_mk (st := s__law_same) l__law_same c__law_same k__law_same
  have F_law_fields_right := fun_mk (st := s__law_fields_right) l__law_fields_right c__law_fields_right k__law_fields_right
  have Fcheck_counts := fun_mk (st := s_check_counts) l_check_counts c_check_counts k_check_counts
  have Fsize := fun_mk (st := s_size) l_size c_size k_size
  have Fothers := fun_mk (st := s_others) l_others c_others k_others
  have Fcheck_kind_of := fun_mk (st := s_check_kind_of) l_check_kind_of c_check_kind_of k_check_kind_of
  have FShares_gains := fun_mk (st := s_Shares_gains) l_Shares_gains c_Shares_gains k_Shares_gains
  have Fwith_count := fun_mk (st := s_with_count) l_with_count c_with_count k_with_count
  have FShares__end_beside := fun_mk (st := s_Shares__end_beside) l_Shares__end_beside c_Shares__end_beside k_Shares__end_beside
  have FShares_end := fun_mk (st := s_Shares_end) l_Shares_end c_Shares_end k_Shares_end
  have F_law_due_end := fun_mk (st := s__law_due_end) l__law_due_end c__law_due_end k__law_due_end
  have F_law_ends_right := fun_mk (st := s__law_ends_right) l__law_ends_right c__law_ends_right k__law_ends_right
  have FShares_goes := fun_mk (st := s_Shares_goes) l_Shares_goes c_Shares_goes k_Shares_goes
  have F_law_goes_right := fun_mk (st := s__law_goes_right) l__law_goes_right c__law_goes_right k__law_goes_right
  have FShares_letters := fun_mk (st := s_Shares_letters) l_Shares_letters c_Shares_letters k_Shares_letters
  have F_law_refused_letters := fun_mk (st := s__law_refused_letters) l__law_refused_letters c__law_refused_letters k__law_refused_letters
  have F_law_spelled := fun_mk (st := s__law_spelled) l__law_spelled c__law_spelled k__law_spelled
  have F_law_letters_right := fun_mk (st := s__law_letters_right) l__law_letters_right c__law_letters_right k__law_letters_right
  have F_law_refused_end := fun_mk (st := s__law_refused_end) l__law_refused_end c__law_refused_end k__law_refused_end
  have F_law_refused_goes := fun_mk (st := s__law_refused_goes) l__law_refused_goes c__law_refused_goes k__law_refused_goes
  have F_law_refused_gains := fun_mk (st := s__law_refused_gains) l__law_refused_gains c__law_refused_gains k__law_refused_gains
  have F_law_refusals_right := fun_mk (st := s__law_refusals_right) l__law_refusals_right c__law_refusals_right k__law_refusals_right
  have F_law_limit_right := fun_mk (st := s__law_limit_right) l__law_limit_right c__law_limit_right k__law_limit_right
  have Flaw := fun_mk (st := s_law) l_law c_law k_law
  have B_law_pool := F_law_pool.binds (ps := ["script", "at"]) fun _ _ _ _ _ _ us hl => match us, hl with | [_, _], _ => rfl
  have B_law_draw := F_law_draw.binds (ps := ["pool", "many"]) fun _ _ _ _ _ _ us hl => match us, hl with | [_, _], _ => rfl
  have B_law_great := F_law_great.binds (ps := ["pool"]) fun _ _ _ _ _ _ us hl => match us, hl with | [_], _ => rfl
  have B_law_drawn_word := F_law_drawn_word.binds (ps := ["pool", "kind", "room", "plain"]) fun _ _ _ _ _ _ us hl => match us, hl with | [_, _, _, _], _ => rfl
  have B_law_long := F_law_long.binds (ps := ["word"]) fun _ _ _ _ _ _ us hl => match us, hl with | [_], _ => rfl
  have B_law_words := F_law_words.binds (ps := ["pool"]) fun _ _ _ _ _ _ us hl => match us, hl with | [_], _ => rfl
  have B_law_lack := F_law_lack.binds (ps := ["pool", "word"]) fun _ _ _ _ _ _ us hl => match us, hl with | [_, _], _ => rfl
  have B_law_letters_of := F_law_letters_of.binds (ps := ["word", "number", "kind"]) fun _ _ _ _ _ _ us hl => match us, hl with | [_, _, _], _ => rfl
  have B_law_near := F_law_near.binds (ps := ["pool", "keep", "words", "whole"]) fun _ _ _ _ _ _ us hl => match us, hl with | [_, _, _, _], _ => rfl
  have B_law_any := F_law_any.binds (ps := ["pool", "keep"]) fun _ _ _ _ _ _ us hl => match us, hl with | [_, _], _ => rfl
  have B_law_any_meeting := F_law_any_meeting.binds (ps := ["pool", "chairs"]) fun _ _ _ _ _ _ us hl => match us, hl with | [_, _], _ => rfl
  have B_law_turned := F_law_turned.binds (ps := ["word", "kind", "at"]) fun _ _ _ _ _ _ us hl => match us, hl with | [_, _, _], _ => rfl
  have B_is_word := F_is_word.binds (ps := ["word", "kind", "length"]) fun _ _ _ _ _ _ us hl => match us, hl with | [_, _, _], _ => rfl
  have BShares___init__ := FShares___init__.binds (ps := ["self", "keep", "words"]) fun _ _ _ _ _ _ us hl => match us, hl with | [_, _, _], _ => rfl
  have BShares___eq__ := FShares___eq__.binds (ps := ["self", "other"]) fun _ _ _ _ _ _ us hl => match us, hl with | [_, _], _ => rfl
  have B_law_same := F_law_same.binds (ps := ["got", "due"]) fun _ _ _ _ _ _ us hl => match us, hl with | [_, _], _ => rfl
  have B_law_fields_right := F_law_fields_right.binds (ps := ["shares", "keep", "words"]) fun _ _ _ _ _ _ us hl => match us, hl with | [_, _, _], _ => rfl
  have Bcheck_counts := Fcheck_counts.binds (ps := ["kinds", "crowd"]) fun _ _ _ _ _ _ us hl => match us, hl with | [_, _], _ => rfl
  have Bsize := Fsize.binds (ps := ["crowd"]) fun _ _ _ _ _ _ us hl => match us, hl with | [_], _ => rfl
  have Bothers := Fothers.binds (ps := ["kind"]) fun _ _ _ _ _ _ us hl => match us, hl with | [_], _ => rfl
  have Bcheck_kind_of := Fcheck_kind_of.binds (ps := ["kinds", "kind"]) fun _ _ _ _ _ _ us hl => match us, hl with | [_, _], _ => rfl
  have BShares_gains := FShares_gains.binds (ps := ["self", "kind", "lacking"]) fun _ _ _ _ _ _ us hl => match us, hl with | [_, _, _], _ => rfl
  have Bwith_count := Fwith_count.binds (ps := ["crowd", "kind", "count"]) fun _ _ _ _ _ _ us hl => match us, hl with | [_, _, _], _ => rfl
  have BShares__end_beside := FShares__end_beside.binds (ps := ["self", "crowd", "kind"]) fun _ _ _ _ _ _ us hl => match us, hl with | [_, _, _], _ => rfl
  have BShares_end := FShares_end.binds (ps := ["self", "crowd"]) fun _ _ _ _ _ _ us hl => match us, hl with | [_, _], _ => rfl
  have B_law_due_end := F_law_due_end.binds (ps := ["keep", "words", "crowd"]) fun _ _ _ _ _ _ us hl => match us, hl with | [_, _, _], _ => rfl
  have B_law_ends_right := F_law_ends_right.binds (ps := ["shares", "keep", "words", "crowds"]) fun _ _ _ _ _ _ us hl => match us, hl with | [_, _, _, _], _ => rfl
  have BShares_goes := FShares_goes.binds (ps := ["self", "meeting"]) fun _ _ _ _ _ _ us hl => match us, hl with | [_, _], _ => rfl
  have B_law_goes_right := F_law_goes_right.binds (ps := ["shares", "keep", "words", "meetings"]) fun _ _ _ _ _ _ us hl => match us, hl with | [_, _, _, _], _ => rfl
  have BShares_letters := FShares_letters.binds (ps := ["self", "kind"]) fun _ _ _ _ _ _ us hl => match us, hl with | [_, _], _ => rfl
  have B_law_refused_letters := F_law_refused_letters.binds (ps := ["shares", "kind"]) fun _ _ _ _ _ _ us hl => match us, hl with | [_, _], _ => rfl
  have B_law_spelled := F_law_spelled.binds (ps := ["word"]) fun _ _ _ _ _ _ us hl => match us, hl with | [_], _ => rfl
  have B_law_letters_right := F_law_letters_right.binds (ps := ["shares", "words", "pool"]) fun _ _ _ _ _ _ us hl => match us, hl with | [_, _, _], _ => rfl
  have B_law_refused_end := F_law_refused_end.binds (ps := ["shares", "crowd"]) fun _ _ _ _ _ _ us hl => match us, hl with | [_, _], _ => rfl
  have B_law_refused_goes := F_law_refused_goes.binds (ps := ["shares", "meeting"]) fun _ _ _ _ _ _ us hl => match us, hl with | [_, _], _ => rfl
  have B_law_refused_gains := F_law_refused_gains.binds (ps := ["shares", "kind", "lacking"]) fun _ _ _ _ _ _ us hl => match us, hl with | [_, _, _], _ => rfl
  have B_law_refusals_right := F_law_refusals_right.binds (ps := ["shares", "keep", "crowd", "meeting", "pool"]) fun _ _ _ _ _ _ us hl => match us, hl with | [_, _, _, _, _], _ => rfl
  have B_law_limit_right := F_law_limit_right.binds (ps := ["pool"]) fun _ _ _ _ _ _ us hl => match us, hl with | [_], _ => rfl
  have gShares := PySem.W.mg_of X G a_Shares
  have coShares : cOf mg "Shares" = C_Shares := cOf_of gShares
  have gHallError := PySem.W.mg_of X G a_HallError
  have coHallError : cOf mg "HallError" = C_HallError := cOf_of gHallError
  have gBadCrowd := PySem.W.mg_of X G a_BadCrowd
  have coBadCrowd : cOf mg "BadCrowd" = C_BadCrowd := cOf_of gBadCrowd
  have gBadKind := PySem.W.mg_of X G a_BadKind
  have coBadKind : cOf mg "BadKind" = C_BadKind := cOf_of gBadKind
  have gBadNumber := PySem.W.mg_of X G a_BadNumber
  have coBadNumber : cOf mg "BadNumber" = C_BadNumber := cOf_of gBadNumber
  have gTooLarge := PySem.W.mg_of X G a_TooLarge
  have coTooLarge : cOf mg "TooLarge" = C_TooLarge := cOf_of gTooLarge
  have gBadShares := PySem.W.mg_of X G a_BadShares
  have coBadShares : cOf mg "BadShares" = C_BadShares := cOf_of gBadShares
  have TBadCrowd : SupTxt PySem.Challenge.pw_fewchairs_k36_shares_ends K mg "BadCrowd" "crowd" C_BadCrowd I_BadCrowd := { gC := gBadCrowd, cls := ⟨_, _, _, _, _, _, _, _, _, _, _, _, _, _, _, x_BadCrowd, bm_ok_BadCrowd⟩, sa := sa_BadCrowd, ga := ga_BadCrowd, gg := gg_BadCrowd, noN := nn_BadCrowd, iC := i_BadCrowd, tC := t_BadCrowd, kC := kc_BadCrowd, exC := ec_BadCrowd, vC := vc_BadCrowd, tyC := ty_BadCrowd, hdC := hd_BadCrowd, opq := opq, spI := sp_BadCrowd, spN := PySem.W.mg_none_of X G z_super, top := (by decide +kernel), l1 := rfl, l2 := rfl, l3 := rfl, l4 := (by decide), l5 := (by decide), fn := ⟨"BadCrowd.__init__", _, _, _, _, _, _, cda_BadCrowd, cc_BadCrowd, _, _, _, _, _, _, _, _, _, _, _, _, _, _, _, _, _, _, _, _, _, _, _, l_BadCrowd, c_BadCrowd, cd_BadCrowd, vs2_BadCrowd, fi_BadCrowd, ce_BadCrowd, fun _ _ => rfl, _, fun _ => rfl⟩ }
  have TBadKind : SupTxt PySem.Challenge.pw_fewchairs_k36_shares_ends K mg "BadKind" "kind" C_BadKind I_BadKind := { gC := gBadKind, cls := ⟨_, _, _, _, _, _, _, _, _, _, _, _, _, _, _, x_BadKind, bm_ok_BadKind⟩, sa := sa_BadKind, ga := ga_BadKind, gg := gg_BadKind, noN := nn_BadKind, iC := i_BadKind, tC := t_BadKind, kC := kc_BadKind, exC := ec_BadKind, vC := vc_BadKind, tyC := ty_BadKind, hdC := hd_BadKind, opq := opq, spI := sp_BadKind, spN := PySem.W.mg_none_of X G z_super, top := (by decide +kernel), l1 := rfl, l2 := rfl, l3 := rfl, l4 := (by decide), l5 := (by decide), fn := ⟨"BadKind.__init__", _, _, _, _, _, _, cda_BadKind, cc_BadKind, _, _, _, _, _, _, _, _, _, _, _, _, _, _, _, _, _, _, _, _, _, _, _, l_BadKind, c_BadKind, cd_BadKind, vs2_BadKind, fi_BadKind, ce_BadKind, fun _ _ => rfl, _, fun _ => rfl⟩ }
  have TBadNumber : SupTxt PySem.Challenge.pw_fewchairs_k36_shares_ends K mg "BadNumber" "number" C_BadNumber I_BadNumber := { gC := gBadNumber, cls := ⟨_, _, _, _, _, _, _, _, _, _, _, _, _, _, _, x_BadNumber, bm_ok_BadNumber⟩, sa := sa_BadNumber, ga := ga_BadNumber, gg := gg_BadNumber, noN := nn_BadNumber, iC := i_BadNumber, tC := t_BadNumber, kC := kc_BadNumber, exC := ec_BadNumber, vC := vc_BadNumber, tyC := ty_BadNumber, hdC := hd_BadNumber, opq := opq, spI := sp_BadNumber, spN := PySem.W.mg_none_of X G z_super, top := (by decide +kernel), l1 := rfl, l2 := rfl, l3 := rfl, l4 := (by decide), l5 := (by decide), fn := ⟨"BadNumber.__init__", _, _, _, _, _, _, cda_BadNumber, cc_BadNumber, _, _, _, _, _, _, _, _, _, _, _, _, _, _, _, _, _, _, _, _, _, _, _, l_BadNumber, c_BadNumber, cd_BadNumber, vs2_BadNumber, fi_BadNumber, ce_BadNumber, fun _ _ => rfl, _, fun _ => rfl⟩ }
  have TTooLarge : SupTxt PySem.Challenge.pw_fewchairs_k36_shares_ends K mg "TooLarge" "size" C_TooLarge I_TooLarge := { gC := gTooLarge, cls := ⟨_, _, _, _, _, _, _, _, _, _, _, _, _, _, _, x_TooLarge, bm_ok_TooLarge⟩, sa := sa_TooLarge, ga := ga_TooLarge, gg := gg_TooLarge, noN := nn_TooLarge, iC := i_TooLarge, tC := t_TooLarge, kC := kc_TooLarge, exC := ec_TooLarge, vC := vc_TooLarge, tyC := ty_TooLarge, hdC := hd_TooLarge, opq := opq, spI := sp_TooLarge, spN := PySem.W.mg_none_of X G z_super, top := (by decide +kernel), l1 := rfl, l2 := rfl, l3 := rfl, l4 := (by decide), l5 := (by decide), fn := ⟨"TooLarge.__init__", _, _, _, _, _, _, cda_TooLarge, cc_TooLarge, _, _, _, _, _, _, _, _, _, _, _, _, _, _, _, _, _, _, _, _, _, _, _, l_TooLarge, c_TooLarge, cd_TooLarge, vs2_TooLarge, fi_TooLarge, ce_TooLarge, fun _ _ => rfl, _, fun _ => rfl⟩ }
  have TBadShares : SupTxt PySem.Challenge.pw_fewchairs_k36_shares_ends K mg "BadShares" "what" C_BadShares I_BadShares := { gC := gBadShares, cls := ⟨_, _, _, _, _, _, _, _, _, _, _, _, _, _, _, x_BadShares, bm_ok_BadShares⟩, sa := sa_BadShares, ga := ga_BadShares, gg := gg_BadShares, noN := nn_BadShares, iC := i_BadShares, tC := t_BadShares, kC := kc_BadShares, exC := ec_BadShares, vC := vc_BadShares, tyC := ty_BadShares, hdC := hd_BadShares, opq := opq, spI := sp_BadShares, spN := PySem.W.mg_none_of X G z_super, top := (by decide +kernel), l1 := rfl, l2 := rfl, l3 := rfl, l4 := (by decide), l5 := (by decide), fn := ⟨"BadShares.__init__", _, _, _, _, _, _, cda_BadShares, cc_BadShares, _, _, _, _, _, _, _, _, _, _, _, _, _, _, _, _, _, _, _, _, _, _, _, l_BadShares, c_BadShares, cd_BadShares, vs2_BadShares, fi_BadShares, ce_BadShares, fun _ _ => rfl, _, fun _ => rfl⟩ }
  have iscShares_Shares : ∀ c' b, ([("Shares", true)] : List (Str × Bool)).lookup c' = some b → InsC' K (cOf mg c') ∧ PySem.W.kitOne K (.ref (cOf mg c')) (.ref (cOf mg "Shares")) = some b := by
    refine lk_all fun q hq => ?_
    simp only [List.mem_cons, List.not_mem_nil, or_false] at hq
    subst hq
    · rw [coShares]; exact ⟨⟨⟨pg_Shares, hd_Shares, po_Shares, sa_Shares⟩, cla_Shares, spg, tko, mo_Shares⟩, kito_Shares_Shares⟩
  let T : Txt PySem.Challenge.pw_fewchairs_k36_shares_ends K mg := { m_ValueError := PySem.W.mg_none_of X G z_ValueError, m_abs := PySem.W.mg_none_of X G z_abs, m_all := PySem.W.mg_none_of X G z_all, m_bool := PySem.W.mg_none_of X G z_bool, m_int := PySem.W.mg_none_of X G z_int, m_isinstance := PySem.W.mg_none_of X G z_isinstance, m_len := PySem.W.mg_none_of X G z_len, m_list := PySem.W.mg_none_of X G z_list, m_max := PySem.W.mg_none_of X G z_max, m_min := PySem.W.mg_none_of X G z_min, m_range := PySem.W.mg_none_of X G z_range, m_str := PySem.W.mg_none_of X G z_str, m_sum := PySem.W.mg_none_of X G z_sum, m_tuple := PySem.W.mg_none_of X G z_tuple, k_MOST_CHAIRS := ⟨_, PySem.W.mg_of X G q_MOST_CHAIRS⟩, k_MOST_LETTERS := ⟨_, PySem.W.mg_of X G q_MOST_LETTERS⟩, k_MOST_STRETCHES := ⟨_, PySem.W.mg_of X G q_MOST_STRETCHES⟩, f__law_pool := f__law_pool, d__law_pool := _, F__law_pool := F_law_pool, g__law_pool := PySem.W.mg_of X G a__law_pool, B__law_pool := B_law_pool, f__law_draw := f__law_draw, d__law_draw := _, F__law_draw := F_law_draw, g__law_draw := PySem.W.mg_of X G a__law_draw, B__law_draw := B_law_draw, f__law_great := f__law_great, d__law_great := _, F__law_great := F_law_great, g__law_great := PySem.W.mg_of X G a__law_great, B__law_great := B_law_great, f__law_drawn_word := f__law_drawn_word, d__law_drawn_word := _, F__law_drawn_word := F_law_drawn_word, g__law_drawn_word := PySem.W.mg_of X G a__law_drawn_word, B__law_drawn_word := B_law_drawn_word, f__law_long := f__law_long, d__law_long := _, F__law_long := F_law_long, g__law_long := PySem.W.mg_of X G a__law_long, B__law_long := B_law_long, f__law_words := f__law_words, d__law_words := _, F__law_words := F_law_words, g__law_words := PySem.W.mg_of X G a__law_words, B__law_words := B_law_words, f__law_lack := f__law_lack, d__law_lack := _, F__law_lack := F_law_lack, g__law_lack := PySem.W.mg_of X G a__law_lack, B__law_lack := B_law_lack, f__law_letters_of := f__law_letters_of, d__law_letters_of := _, F__law_letters_of := F_law_letters_of, g__law_letters_of := PySem.W.mg_of X G a__law_letters_of, B__law_letters_of := B_law_letters_of, f__law_near := f__law_near, d__law_near := _, F__law_near := F_law_near, g__law_near := PySem.W.mg_of X G a__law_near, B__law_near := B_law_near, f__law_any := f__law_any, d__law_any := _, F__law_any := F_law_any, g__law_any := PySem.W.mg_of X G a__law_any, B__law_any := B_law_any, f__law_any_meeting := f__law_any_meeting, d__law_any_meeting := _, F__law_any_meeting := F_law_any_meeting, g__law_any_meeting := PySem.W.mg_of X G a__law_any_meeting, B__law_any_meeting := B_law_any_meeting, f__law_turned := f__law_turned, d__law_turned := _, F__law_turned := F_law_turned, g__law_turned := PySem.W.mg_of X G a__law_turned, B__law_turned := B_law_turned, f__is_word := f__is_word, d__is_word := _, F__is_word := F_is_word, g__is_word := PySem.W.mg_of X G a__is_word, B__is_word := B_is_word, f_Shares___init__ := f_Shares___init__, d_Shares___init__ := _, F_Shares___init__ := FShares___init__, B_Shares___init__ := BShares___init__, fn_Shares___init__ := fn_Shares___init__, f_Shares___eq__ := f_Shares___eq__, d_Shares___eq__ := _, F_Shares___eq__ := FShares___eq__, B_Shares___eq__ := BShares___eq__, fn_Shares___eq__ := fn_Shares___eq__, f__law_same := f__law_same, d__law_same := _, F__law_same := F_law_same, g__law_same := PySem.W.mg_of X G a__law_same, B__law_same := B_law_same, f__law_fields_right := f__law_fields_right, d__law_fields_right := _, F__law_fields_right := F_law_fields_right, g__law_fields_right := PySem.W.mg_of X G a__law_fields_right, B__law_fields_right := B_law_fields_right, f_check_counts := f_check_counts, d_check_counts := _, F_check_counts := Fcheck_counts, g_check_counts := PySem.W.mg_of X G a_check_counts, B_check_counts := Bcheck_counts, f_size := f_size, d_size := _, F_size := Fsize, g_size := PySem.W.mg_of X G a_size, B_size := Bsize, f_others := f_others, d_others := _, F_others := Fothers, g_others := PySem.W.mg_of X G a_others, B_others := Bothers, f_check_kind_of := f_check_kind_of, d_check_kind_of := _, F_check_kind_of := Fcheck_kind_of, g_check_kind_of := PySem.W.mg_of X G a_check_kind_of, B_check_kind_of := Bcheck_kind_of, f_Shares_gains := f_Shares_gains, d_Shares_gains := _, F_Shares_gains := FShares_gains, B_Shares_gains := BShares_gains, fn_Shares_gains := fn_Shares_gains, f_with_count := f_with_count, d_with_count := _, F_with_count := Fwith_count, g_with_count := PySem.W.mg_of X G a_with_count, B_with_count := Bwith_count, f_Shares__end_beside := f_Shares__end_beside, d_Shares__end_beside := _, F_Shares__end_beside := FShares__end_beside, B_Shares__end_beside := BShares__end_beside, fn_Shares__end_beside := fn_Shares__end_beside, f_Shares_end := f_Shares_end, d_Shares_end := _, F_Shares_end := FShares_end, B_Shares_end := BShares_end, fn_Shares_end := fn_Shares_end, f__law_due_end := f__law_due_end, d__law_due_end := _, F__law_due_end := F_law_due_end, g__law_due_end := PySem.W.mg_of X G a__law_due_end, B__law_due_end := B_law_due_end, f__law_ends_right := f__law_ends_right, d__law_ends_right := _, F__law_ends_right := F_law_ends_right, g__law_ends_right := PySem.W.mg_of X G a__law_ends_right, B__law_ends_right := B_law_ends_right, f_Shares_goes := f_Shares_goes, d_Shares_goes := _, F_Shares_goes := FShares_goes, B_Shares_goes := BShares_goes, fn_Shares_goes := fn_Shares_goes, f__law_goes_right := f__law_goes_right, d__law_goes_right := _, F__law_goes_right := F_law_goes_right, g__law_goes_right := PySem.W.mg_of X G a__law_goes_right, B__law_goes_right := B_law_goes_right, f_Shares_letters := f_Shares_letters, d_Shares_letters := _, F_Shares_letters := FShares_letters, B_Shares_letters := BShares_letters, fn_Shares_letters := fn_Shares_letters, f__law_refused_letters := f__law_refused_letters, d__law_refused_letters := _, F__law_refused_letters := F_law_refused_letters, g__law_refused_letters := PySem.W.mg_of X G a__law_refused_letters, B__law_refused_letters := B_law_refused_letters, f__law_spelled := f__law_spelled, d__law_spelled := _, F__law_spelled := F_law_spelled, g__law_spelled := PySem.W.mg_of X G a__law_spelled, B__law_spelled := B_law_spelled, f__law_letters_right := f__law_letters_right, d__law_letters_right := _, F__law_letters_right := F_law_letters_right, g__law_letters_right := PySem.W.mg_of X G a__law_letters_right, B__law_letters_right := B_law_letters_right, f__law_refused_end := f__law_refused_end, d__law_refused_end := _, F__law_refused_end := F_law_refused_end, g__law_refused_end := PySem.W.mg_of X G a__law_refused_end, B__law_refused_end := B_law_refused_end, f__law_refused_goes := f__law_refused_goes, d__law_refused_goes := _, F__law_refused_goes := F_law_refused_goes, g__law_refused_goes := PySem.W.mg_of X G a__law_refused_goes, B__law_refused_goes := B_law_refused_goes, f__law_refused_gains := f__law_refused_gains, d__law_refused_gains := _, F__law_refused_gains := F_law_refused_gains, g__law_refused_gains := PySem.W.mg_of X G a__law_refused_gains, B__law_refused_gains := B_law_refused_gains, f__law_refusals_right := f__law_refusals_right, d__law_refusals_right := _, F__law_refusals_right := F_law_refusals_right, g__law_refusals_right := PySem.W.mg_of X G a__law_refusals_right, B__law_refusals_right := B_law_refusals_right, f__law_limit_right := f__law_limit_right, d__law_limit_right := _, F__law_limit_right := F_law_limit_right, g__law_limit_right := PySem.W.mg_of X G a__law_limit_right, B__law_limit_right := B_law_limit_right, g_Shares := by rw [coShares]; exact gShares, cl_Shares := by rw [coShares]; exact ⟨pg_Shares, hd_Shares, po_Shares, sa_Shares⟩, cr_Shares := by rw [coShares]; exact ⟨rd_Shares, ga_Shares⟩, mk_Shares := by rw [coShares]; exact ⟨mk_Shares, in_Shares, fn_Shares___init__, kp_Shares⟩, eq_Shares := by rw [coShares]; exact eq_Shares, na_Shares_chairs := by rw [coShares]; exact na_Shares_chairs, na_Shares_keep := by rw [coShares]; exact na_Shares_keep, na_Shares_words := by rw [coShares]; exact na_Shares_words, mt_Shares__end_beside := by rw [coShares]; exact ⟨mt_Shares__end_beside, fn_Shares__end_beside, k_Shares__end_beside⟩, mt_Shares_end := by rw [coShares]; exact ⟨mt_Shares_end, fn_Shares_end, k_Shares_end⟩, mt_Shares_gains := by rw [coShares]; exact ⟨mt_Shares_gains, fn_Shares_gains, k_Shares_gains⟩, mt_Shares_goes := by rw [coShares]; exact ⟨mt_Shares_goes, fn_Shares_goes, k_Shares_goes⟩, mt_Shares_letters := by rw [coShares]; exact ⟨mt_Shares_letters, fn_Shares_letters, k_Shares_letters⟩, isc_Shares_Shares := iscShares_Shares, C_HallError := C_HallError, g_HallError := gHallError, C_BadCrowd := C_BadCrowd, I_BadCrowd := I_BadCrowd, g_BadCrowd := gBadCrowd, T_BadCrowd := TBadCrowd, C_BadKind := C_BadKind, I_BadKind := I_BadKind, g_BadKind := gBadKind, T_BadKind := TBadKind, C_BadNumber := C_BadNumber, I_BadNumber := I_BadNumber, g_BadNumber := gBadNumber, T_BadNumber := TBadNumber, C_TooLarge := C_TooLarge, I_TooLarge := I_TooLarge, g_TooLarge := gTooLarge, T_TooLarge := TTooLarge, C_BadShares := C_BadShares, I_BadShares := I_BadShares, g_BadShares := gBadShares, T_BadShares := TBadShares, xf_BadCrowd := by rw [coBadCrowd]; exact ⟨ga_BadCrowd, gg_BadCrowd, ec_BadCrowd, hd_BadCrowd⟩, xn_BadCrowd := by rw [coBadCrowd]; exact nn_BadCrowd, ec_BadCrowd := by rw [coBadCrowd]; exact ⟨ga_BadCrowd, gg_BadCrowd, ec_BadCrowd, hd_BadCrowd, cls_BadCrowd, spg, tko, mo_BadCrowd⟩, xf_BadKind := by rw [coBadKind]; exact ⟨ga_BadKind, gg_BadKind, ec_BadKind, hd_BadKind⟩, xn_BadKind := by rw [coBadKind]; exact nn_BadKind, ec_BadKind := by rw [coBadKind]; exact ⟨ga_BadKind, gg_BadKind, ec_BadKind, hd_BadKind, cls_BadKind, spg, tko, mo_BadKind⟩, xf_BadNumber := by rw [coBadNumber]; exact ⟨ga_BadNumber, gg_BadNumber, ec_BadNumber, hd_BadNumber⟩, xn_BadNumber := by rw [coBadNumber]; exact nn_BadNumber, ec_BadNumber := by rw [coBadNumber]; exact ⟨ga_BadNumber, gg_BadNumber, ec_BadNumber, hd_BadNumber, cls_BadNumber, spg, tko, mo_BadNumber⟩, xf_TooLarge := by rw [coTooLarge]; exact ⟨ga_TooLarge, gg_TooLarge, ec_TooLarge, hd_TooLarge⟩, xn_TooLarge := by rw [coTooLarge]; exact nn_TooLarge, ec_TooLarge := by rw [coTooLarge]; exact ⟨ga_TooLarge, gg_TooLarge, ec_TooLarge, hd_TooLarge, cls_TooLarge, spg, tko, mo_TooLarge⟩, exm_BadCrowd_BadCrowd := by rw [coBadCrowd]; exact PySem.W.exm_ref ec_BadCrowd hd_BadCrowd ty_BadCrowd ss_BadCrowd_BadCrowd, exm_BadKind_BadKind := by rw [coBadKind]; exact PySem.W.exm_ref ec_BadKind hd_BadKind ty_BadKind ss_BadKind_BadKind, exm_BadNumber_BadKind := by rw [coBadNumber]; exact PySem.W.exm_ref ec_BadKind hd_BadKind ty_BadKind ss_BadNumber_BadKind, exm_BadNumber_BadNumber := by rw [coBadNumber]; exact PySem.W.exm_ref ec_BadNumber hd_BadNumber ty_BadNumber ss_BadNumber_BadNumber, exm_TooLarge_BadKind := by rw [coTooLarge]; exact PySem.W.exm_ref ec_BadKind hd_BadKind ty_BadKind ss_TooLarge_BadKind, exm_TooLarge_TooLarge := by rw [coTooLarge]; exact PySem.W.exm_ref ec_TooLarge hd_TooLarge ty_TooLarge ss_TooLarge_TooLarge, kit_BadCrowd_BadKind := by rw [coBadCrowd]; exact kit_BadCrowd_BadKind, kit_BadCrowd_BadNumber := by rw [coBadCrowd]; exact kit_BadCrowd_BadNumber, kit_BadCrowd_HallError := by rw [coBadCrowd]; exact kit_BadCrowd_HallError, kit_BadCrowd_ValueError := by rw [coBadCrowd]; exact kit_BadCrowd_ValueError, kit_BadKind_BadNumber := by rw [coBadKind]; exact kit_BadKind_BadNumber, kit_BadKind_HallError := by rw [coBadKind]; exact kit_BadKind_HallError, kit_BadKind_TooLarge := by rw [coBadKind]; exact kit_BadKind_TooLarge, kit_BadKind_ValueError := by rw [coBadKind]; exact kit_BadKind_ValueError, kit_BadNumber_BadKind := by rw [coBadNumber]; exact kit_BadNumber_BadKind, kit_BadNumber_HallError := by rw [coBadNumber]; exact kit_BadNumber_HallError, kit_BadNumber_ValueError := by rw [coBadNumber]; exact kit_BadNumber_ValueError, kit_TooLarge_BadKind := by rw [coTooLarge]; exact kit_TooLarge_BadKind, kit_TooLarge_HallError := by rw [coTooLarge]; exact kit_TooLarge_HallError, kit_TooLarge_ValueError := by rw [coTooLarge]; exact kit_TooLarge_ValueError }
  exact ⟨PySem.W.fnOf "law" "law" (defArgs s_law) (defBody s_law) (defScope s_law) .none kV_law dc_law pm_law an_law cd_law ct_law, fun s v => .of_eq rfl, fun base _ _ => fn_law (ok_law T Flaw) goodS⟩
end FCL
open PySem PySem.W PyProof.Rows
set_option maxHeartbeats 0 in
theorem PySem.Challenge.cw_fewchairs_k36_shares_ends_holds : PySem.Challenge.rw_fewchairs_k36_shares_ends.Holds := by
  w_on; o_law; k_head; (case hw => w_witness2)
  k_fill
  refine L2.walk_of (l := PySem.Challenge.rw_fewchairs_k36_shares_ends) (n := 63) (k := 8) (x := "script") (CX := fun w => L2.CX PySem.Challenge.rw_fewchairs_k36_shares_ends.prog w) (sp := fun w => FC.spLaw 63 _) rfl (by decide) rfl ⟨rfl, by decide, by decide⟩ (fun w h Y => PySem.W.kIn_of Y) ?F (fun _ _ a ns hl _ hS => ⟨a, ns, rfl, hS, hl, fun _ => rfl⟩) (fun _ _ _ _ _ h => by obtain ⟨_, _, _, _, _, _, _, _, _, _, _, _, z⟩ := h; exact z.elim)
  case F =>
    intro w mg fa h KX G hmg
    refine' FCL.all_mk rfl KX G hmg ?a_Shares ?pg_Shares ?hd_Shares ?po_Shares ?sa_Shares ?rd_Shares ?ga_Shares ?mk_Shares ?kp_Shares ?cla_Shares ?mo_Shares ?spg ?tko ?kito_Shares_Shares ?mt_Shares__end_beside ?mt_Shares_end ?mt_Shares_gains ?mt_Shares_goes ?mt_Shares_letters ?in_Shares ?eq_Shares ?na_Shares_chairs ?na_Shares_keep ?na_Shares_words ?a__law_pool ?l__law_pool ?c__law_pool ?k__law_pool ?a__law_draw ?l__law_draw ?c__law_draw ?k__law_draw ?a__law_great ?l__law_great ?c__law_great ?k__law_great ?a__law_drawn_word ?l__law_drawn_word ?c__law_drawn_word ?k__law_drawn_word ?a__law_long ?l__law_long ?c__law_long ?k__law_long ?a__law_words ?l__law_words ?c__law_words ?k__law_words ?a__law_lack ?l__law_lack ?c__law_lack ?k__law_lack ?a__law_letters_of ?l__law_letters_of ?c__law_letters_of ?k__law_letters_of ?a__law_near ?l__law_near ?c__law_near ?k__law_near ?a__law_any ?l__law_any ?c__law_any ?k__law_any ?a__law_any_meeting ?l__law_any_meeting ?c__law_any_meeting ?k__law_any_meeting ?a__law_turned ?l__law_turned ?c__law_turned ?k__law_turned ?a__is_word ?l__is_word ?c__is_word ?k__is_word ?l_Shares___init__ ?c_Shares___init__ ?k_Shares___init__ ?fn_Shares___init__ ?l_Shares___eq__ ?c_Shares___eq__ ?k_Shares___eq__ ?fn_Shares___eq__ ?a__law_same ?l__law_same ?c__law_same ?k__law_same ?a__law_fields_right ?l__law_fields_right ?c__law_fields_right ?k__law_fields_right ?a_check_counts ?l_check_counts ?c_check_counts ?k_check_counts ?a_size ?l_size ?c_size ?k_size ?a_others ?l_others ?c_others ?k_others ?a_check_kind_of ?l_check_kind_of ?c_check_kind_of ?k_check_kind_of ?l_Shares_gains ?c_Shares_gains ?k_Shares_gains ?fn_Shares_gains ?a_with_count ?l_with_count ?c_with_count ?k_with_count ?l_Shares__end_beside ?c_Shares__end_beside ?k_Shares__end_beside ?fn_Shares__end_beside ?l_Shares_end ?c_Shares_end ?k_Shares_end ?fn_Shares_end ?a__law_due_end ?l__law_due_end ?c__law_due_end ?k__law_due_end ?a__law_ends_right ?l__law_ends_right ?c__law_ends_right ?k__law_ends_right ?l_Shares_goes ?c_Shares_goes ?k_Shares_goes ?fn_Shares_goes ?a__law_goes_right ?l__law_goes_right ?c__law_goes_right ?k__law_goes_right ?l_Shares_letters ?c_Shares_letters ?k_Shares_letters ?fn_Shares_letters ?a__law_refused_letters ?l__law_refused_letters ?c__law_refused_letters ?k__law_refused_letters ?a__law_spelled ?l__law_spelled ?c__law_spelled ?k__law_spelled ?a__law_letters_right ?l__law_letters_right ?c__law_letters_right ?k__law_letters_right ?a__law_refused_end ?l__law_refused_end ?c__law_refused_end ?k__law_refused_end ?a__law_refused_goes ?l__law_refused_goes ?c__law_refused_goes ?k__law_refused_goes ?a__law_refused_gains ?l__law_refused_gains ?c__law_refused_gains ?k__law_refused_gains ?a__law_refusals_right ?l__law_refusals_right ?c__law_refusals_right ?k__law_refusals_right ?a__law_limit_right ?l__law_limit_right ?c__law_limit_right ?k__law_limit_right ?a_law ?l_law ?c_law ?k_law ?z_ValueError ?z_abs ?z_all ?z_bool ?z_int ?z_isinstance ?z_len ?z_list ?z_max ?z_min ?z_range ?z_str ?z_sum ?z_tuple ?z_super ?q_MOST_CHAIRS ?q_MOST_LETTERS ?q_MOST_STRETCHES ?a_HallError ?a_BadCrowd ?x_BadCrowd ?bm_ok_BadCrowd ?sa_BadCrowd ?ga_BadCrowd ?gg_BadCrowd ?nn_BadCrowd ?i_BadCrowd ?t_BadCrowd ?kc_BadCrowd ?ec_BadCrowd ?vc_BadCrowd ?ty_BadCrowd ?hd_BadCrowd ?sp_BadCrowd ?l_BadCrowd ?c_BadCrowd ?cd_BadCrowd ?vs2_BadCrowd ?fi_BadCrowd ?ce_BadCrowd ?a_BadKind ?x_BadKind ?bm_ok_BadKind ?sa_BadKind ?ga_BadKind ?gg_BadKind ?nn_BadKind ?i_BadKind ?t_BadKind ?kc_BadKind ?ec_BadKind ?vc_BadKind ?ty_BadKind ?hd_BadKind ?sp_BadKind ?l_BadKind ?c_BadKind ?cd_BadKind ?vs2_BadKind ?fi_BadKind ?ce_BadKind ?a_BadNumber ?x_BadNumber ?bm_ok_BadNumber ?sa_BadNumber ?ga_BadNumber ?gg_BadNumber ?nn_BadNumber ?i_BadNumber ?t_BadNumber ?kc_BadNumber ?ec_BadNumber ?vc_BadNumber ?ty_BadNumber ?hd_BadNumber ?sp_BadNumber ?l_BadNumber ?c_BadNumber ?cd_BadNumber ?vs2_BadNumber ?fi_BadNumber ?ce_BadNumber ?a_TooLarge ?x_TooLarge ?bm_ok_TooLarge ?sa_TooLarge ?ga_TooLarge ?gg_TooLarge ?nn_TooLarge ?i_TooLarge ?t_TooLarge ?kc_TooLarge ?ec_TooLarge ?vc_TooLarge ?ty_TooLarge ?hd_TooLarge ?sp_TooLarge ?l_TooLarge ?c_TooLarge ?cd_TooLarge ?vs2_TooLarge ?fi_TooLarge ?ce_TooLarge ?a_BadShares ?x_BadShares ?bm_ok_BadShares ?sa_BadShares ?ga_BadShares ?gg_BadShares ?nn_BadShares ?i_BadShares ?t_BadShares ?kc_BadShares ?ec_BadShares ?vc_BadShares ?ty_BadShares ?hd_BadShares ?sp_BadShares ?l_BadShares ?c_BadShares ?cd_BadShares ?vs2_BadShares ?fi_BadShares ?ce_BadShares ?opq ?cls_BadCrowd ?mo_BadCrowd ?isc_BadCrowd ?cls_BadKind ?mo_BadKind ?isc_BadKind ?cls_BadNumber ?mo_BadNumber ?isc_BadNumber ?cls_TooLarge ?mo_TooLarge ?isc_TooLarge ?ss_BadCrowd_BadCrowd ?ss_BadKind_BadKind ?ss_BadNumber_BadKind ?ss_BadNumber_BadNumber ?ss_TooLarge_BadKind ?ss_TooLarge_TooLarge ?kit_BadCrowd_BadKind ?kit_BadCrowd_BadNumber ?kit_BadCrowd_HallError ?kit_BadCrowd_ValueError ?kit_BadKind_BadNumber ?kit_BadKind_HallError ?kit_BadKind_TooLarge ?kit_BadKind_ValueError ?kit_BadNumber_BadKind ?kit_BadNumber_HallError ?kit_BadNumber_ValueError ?kit_TooLarge_BadKind ?kit_TooLarge_HallError ?kit_TooLarge_ValueError FCL.law_good
    (case a_Shares => k_is)
    (case pg_Shares => k_is)
    (case hd_Shares => k_is)
    (case po_Shares => k_is)
    (case sa_Shares => k_is)
    (case rd_Shares => k_is)
    (case ga_Shares => k_is)
    (case mk_Shares => k_is)
    (case kp_Shares => k_is)
    (case cla_Shares => k_is)
    (case mo_Shares => k_is)
    (case spg => k_is)
    (case tko => k_is)
    (case kito_Shares_Shares => first | kit_is | k_is | rfl)
    (case mt_Shares__end_beside => k_is)
    (case mt_Shares_end => k_is)
    (case mt_Shares_gains => k_is)
    (case mt_Shares_goes => k_is)
    (case mt_Shares_letters => k_is)
    (case in_Shares => k_is)
    (case eq_Shares => k_is)
    (case na_Shares_chairs => k_is)
    (case na_Shares_keep => k_is)
    (case na_Shares_words => k_is)
    (case a__law_pool => k_is)
    (case l__law_pool => k_is)
    (case c__law_pool => k_is)
    (case k__law_pool => k_is)
    (case a__law_draw => k_is)
    (case l__law_draw => k_is)
    (case c__law_draw => k_is)
    (case k__law_draw => k_is)
    (case a__law_great => k_is)
    (case l__law_great => k_is)
    (case c__law_great => k_is)
    (case k__law_great => k_is)
    (case a__law_drawn_word => k_is)
    (case l__law_drawn_word => k_is)
    (case c__law_drawn_word => k_is)
    (case k__law_drawn_word => k_is)
    (case a__law_long => k_is)
    (case l__law_long => k_is)
    (case c__law_long => k_is)
    (case k__law_long => k_is)
    (case a__law_words => k_is)
    (case l__law_words => k_is)
    (case c__law_words => k_is)
    (case k__law_words => k_is)
    (case a__law_lack => k_is)
    (case l__law_lack => k_is)
    (case c__law_lack => k_is)
    (case k__law_lack => k_is)
    (case a__law_letters_of => k_is)
    (case l__law_letters_of => k_is)
    (case c__law_letters_of => k_is)
    (case k__law_letters_of => k_is)
    (case a__law_near => k_is)
    (case l__law_near => k_is)
    (case c__law_near => k_is)
    (case k__law_near => k_is)
    (case a__law_any => k_is)
    (case l__law_any => k_is)
    (case c__law_any => k_is)
    (case k__law_any => k_is)
    (case a__law_any_meeting => k_is)
    (case l__law_any_meeting => k_is)
    (case c__law_any_meeting => k_is)
    (case k__law_any_meeting => k_is)
    (case a__law_turned => k_is)
    (case l__law_turned => k_is)
    (case c__law_turned => k_is)
    (case k__law_turned => k_is)
    (case a__is_word => k_is)
    (case l__is_word => k_is)
    (case c__is_word => k_is)
    (case k__is_word => k_is)
    (case l_Shares___init__ => k_is)
    (case c_Shares___init__ => k_is)
    (case k_Shares___init__ => k_is)
    (case fn_Shares___init__ => k_is)
    (case l_Shares___eq__ => k_is)
    (case c_Shares___eq__ => k_is)
    (case k_Shares___eq__ => k_is)
    (case fn_Shares___eq__ => k_is)
    (case a__law_same => k_is)
    (case l__law_same => k_is)
    (case c__law_same => k_is)
    (case k__law_same => k_is)
    (case a__law_fields_right => k_is)
    (case l__law_fields_right => k_is)
    (case c__law_fields_right => k_is)
    (case k__law_fields_right => k_is)
    (case a_check_counts => k_is)
    (case l_check_counts => k_is)
    (case c_check_counts => k_is)
    (case k_check_counts => k_is)
    (case a_size => k_is)
    (case l_size => k_is)
    (case c_size => k_is)
    (case k_size => k_is)
    (case a_others => k_is)
    (case l_others => k_is)
    (case c_others => k_is)
    (case k_others => k_is)
    (case a_check_kind_of => k_is)
    (case l_check_kind_of => k_is)
    (case c_check_kind_of => k_is)
    (case k_check_kind_of => k_is)
    (case l_Shares_gains => k_is)
    (case c_Shares_gains => k_is)
    (case k_Shares_gains => k_is)
    (case fn_Shares_gains => k_is)
    (case a_with_count => k_is)
    (case l_with_count => k_is)
    (case c_with_count => k_is)
    (case k_with_count => k_is)
    (case l_Shares__end_beside => k_is)
    (case c_Shares__end_beside => k_is)
    (case k_Shares__end_beside => k_is)
    (case fn_Shares__end_beside => k_is)
    (case l_Shares_end => k_is)
    (case c_Shares_end => k_is)
    (case k_Shares_end => k_is)
    (case fn_Shares_end => k_is)
    (case a__law_due_end => k_is)
    (case l__law_due_end => k_is)
    (case c__law_due_end => k_is)
    (case k__law_due_end => k_is)
    (case a__law_ends_right => k_is)
    (case l__law_ends_right => k_is)
    (case c__law_ends_right => k_is)
    (case k__law_ends_right => k_is)
    (case l_Shares_goes => k_is)
    (case c_Shares_goes => k_is)
    (case k_Shares_goes => k_is)
    (case fn_Shares_goes => k_is)
    (case a__law_goes_right => k_is)
    (case l__law_goes_right => k_is)
    (case c__law_goes_right => k_is)
    (case k__law_goes_right => k_is)
    (case l_Shares_letters => k_is)
    (case c_Shares_letters => k_is)
    (case k_Shares_letters => k_is)
    (case fn_Shares_letters => k_is)
    (case a__law_refused_letters => k_is)
    (case l__law_refused_letters => k_is)
    (case c__law_refused_letters => k_is)
    (case k__law_refused_letters => k_is)
    (case a__law_spelled => k_is)
    (case l__law_spelled => k_is)
    (case c__law_spelled => k_is)
    (case k__law_spelled => k_is)
    (case a__law_letters_right => k_is)
    (case l__law_letters_right => k_is)
    (case c__law_letters_right => k_is)
    (case k__law_letters_right => k_is)
    (case a__law_refused_end => k_is)
    (case l__law_refused_end => k_is)
    (case c__law_refused_end => k_is)
    (case k__law_refused_end => k_is)
    (case a__law_refused_goes => k_is)
    (case l__law_refused_goes => k_is)
    (case c__law_refused_goes => k_is)
    (case k__law_refused_goes => k_is)
    (case a__law_refused_gains => k_is)
    (case l__law_refused_gains => k_is)
    (case c__law_refused_gains => k_is)
    (case k__law_refused_gains => k_is)
    (case a__law_refusals_right => k_is)
    (case l__law_refusals_right => k_is)
    (case c__law_refusals_right => k_is)
    (case k__law_refusals_right => k_is)
    (case a__law_limit_right => k_is)
    (case l__law_limit_right => k_is)
    (case c__law_limit_right => k_is)
    (case k__law_limit_right => k_is)
    (case a_law => k_is)
    (case l_law => k_is)
    (case c_law => k_is)
    (case k_law => k_is)
    (case z_ValueError => k_is)
    (case z_abs => k_is)
    (case z_all => k_is)
    (case z_bool => k_is)
    (case z_int => k_is)
    (case z_isinstance => k_is)
    (case z_len => k_is)
    (case z_list => k_is)
    (case z_max => k_is)
    (case z_min => k_is)
    (case z_range => k_is)
    (case z_str => k_is)
    (case z_sum => k_is)
    (case z_tuple => k_is)
    (case z_super => k_is)
    (case q_MOST_CHAIRS => k_is)
    (case q_MOST_LETTERS => k_is)
    (case q_MOST_STRETCHES => k_is)
    (case a_HallError => k_is)
    (case a_BadCrowd => k_is)
    (case x_BadCrowd => k_is)
    (case bm_ok_BadCrowd => decide +kernel)
    (case sa_BadCrowd => k_is)
    (case ga_BadCrowd => k_is)
    (case gg_BadCrowd => k_is)
    (case nn_BadCrowd => k_is)
    (case i_BadCrowd => k_is)
    (case t_BadCrowd => k_is)
    (case kc_BadCrowd => k_is)
    (case ec_BadCrowd => k_is)
    (case vc_BadCrowd => k_is)
    (case ty_BadCrowd => k_is)
    (case hd_BadCrowd => k_is)
    (case sp_BadCrowd => first | ks_is | k_is)
    (case l_BadCrowd => k_is)
    (case c_BadCrowd => k_is)
    (case cd_BadCrowd => k_is)
    (case vs2_BadCrowd => rfl)
    (case fi_BadCrowd => decide +kernel)
    (case ce_BadCrowd => k_is)
    (case a_BadKind => k_is)
    (case x_BadKind => k_is)
    (case bm_ok_BadKind => decide +kernel)
    (case sa_BadKind => k_is)
    (case ga_BadKind => k_is)
    (case gg_BadKind => k_is)
    (case nn_BadKind => k_is)
    (case i_BadKind => k_is)
    (case t_BadKind => k_is)
    (case kc_BadKind => k_is)
    (case ec_BadKind => k_is)
    (case vc_BadKind => k_is)
    (case ty_BadKind => k_is)
    (case hd_BadKind => k_is)
    (case sp_BadKind => first | ks_is | k_is)
    (case l_BadKind => k_is)
    (case c_BadKind => k_is)
    (case cd_BadKind => k_is)
    (case vs2_BadKind => rfl)
    (case fi_BadKind => decide +kernel)
    (case ce_BadKind => k_is)
    (case a_BadNumber => k_is)
    (case x_BadNumber => k_is)
    (case bm_ok_BadNumber => decide +kernel)
    (case sa_BadNumber => k_is)
    (case ga_BadNumber => k_is)
    (case gg_BadNumber => k_is)
    (case nn_BadNumber => k_is)
    (case i_BadNumber => k_is)
    (case t_BadNumber => k_is)
    (case kc_BadNumber => k_is)
    (case ec_BadNumber => k_is)
    (case vc_BadNumber => k_is)
    (case ty_BadNumber => k_is)
    (case hd_BadNumber => k_is)
    (case sp_BadNumber => first | ks_is | k_is)
    (case l_BadNumber => k_is)
    (case c_BadNumber => k_is)
    (case cd_BadNumber => k_is)
    (case vs2_BadNumber => rfl)
    (case fi_BadNumber => decide +kernel)
    (case ce_BadNumber => k_is)
    (case a_TooLarge => k_is)
    (case x_TooLarge => k_is)
    (case bm_ok_TooLarge => decide +kernel)
    (case sa_TooLarge => k_is)
    (case ga_TooLarge => k_is)
    (case gg_TooLarge => k_is)
    (case nn_TooLarge => k_is)
    (case i_TooLarge => k_is)
    (case t_TooLarge => k_is)
    (case kc_TooLarge => k_is)
    (case ec_TooLarge => k_is)
    (case vc_TooLarge => k_is)
    (case ty_TooLarge => k_is)
    (case hd_TooLarge => k_is)
    (case sp_TooLarge => first | ks_is | k_is)
    (case l_TooLarge => k_is)
    (case c_TooLarge => k_is)
    (case cd_TooLarge => k_is)
    (case vs2_TooLarge => rfl)
    (case fi_TooLarge => decide +kernel)
    (case ce_TooLarge => k_is)
    (case a_BadShares => k_is)
    (case x_BadShares => k_is)
    (case bm_ok_BadShares => decide +kernel)
    (case sa_BadShares => k_is)
    (case ga_BadShares => k_is)
    (case gg_BadShares => k_is)
    (case nn_BadShares => k_is)
    (case i_BadShares => k_is)
    (case t_BadShares => k_is)
    (case kc_BadShares => k_is)
    (case ec_BadShares => k_is)
    (case vc_BadShares => k_is)
    (case ty_BadShares => k_is)
    (case hd_BadShares => k_is)
    (case sp_BadShares => first | ks_is | k_is)
    (case l_BadShares => k_is)
    (case c_BadShares => k_is)
    (case cd_BadShares => k_is)
    (case vs2_BadShares => rfl)
    (case fi_BadShares => decide +kernel)
    (case ce_BadShares => k_is)
    (case opq => k_is)
    (case cls_BadCrowd => k_is)
    (case mo_BadCrowd => k_is)
    (case isc_BadCrowd => k_is)
    (case cls_BadKind => k_is)
    (case mo_BadKind => k_is)
    (case isc_BadKind => k_is)
    (case cls_BadNumber => k_is)
    (case mo_BadNumber => k_is)
    (case isc_BadNumber => k_is)
    (case cls_TooLarge => k_is)
    (case mo_TooLarge => k_is)
    (case isc_TooLarge => k_is)
    (case ss_BadCrowd_BadCrowd => first | rfl | k_is)
    (case ss_BadKind_BadKind => first | rfl | k_is)
    (case ss_BadNumber_BadKind => first | rfl | k_is)
    (case ss_BadNumber_BadNumber => first | rfl | k_is)
    (case ss_TooLarge_BadKind => first | rfl | k_is)
    (case ss_TooLarge_TooLarge => first | rfl | k_is)
    (case kit_BadCrowd_BadKind => first | kit_is | k_is | rfl)
    (case kit_BadCrowd_BadNumber => first | kit_is | k_is | rfl)
    (case kit_BadCrowd_HallError => first | kit_is | k_is | rfl)
    (case kit_BadCrowd_ValueError => first | kit_is | k_is | rfl)
    (case kit_BadKind_BadNumber => first | kit_is | k_is | rfl)
    (case kit_BadKind_HallError => first | kit_is | k_is | rfl)
    (case kit_BadKind_TooLarge => first | kit_is | k_is | rfl)
    (case kit_BadKind_ValueError => first | kit_is | k_is | rfl)
    (case kit_BadNumber_BadKind => first | kit_is | k_is | rfl)
    (case kit_BadNumber_HallError => first | kit_is | k_is | rfl)
    (case kit_BadNumber_ValueError => first | kit_is | k_is | rfl)
    (case kit_TooLarge_BadKind => first | kit_is | k_is | rfl)
    (case kit_TooLarge_HallError => first | kit_is | k_is | rfl)
    (case kit_TooLarge_ValueError => first | kit_is | k_is | rfl)

