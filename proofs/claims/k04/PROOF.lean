import PyProof.Rows.All
import Wide.All
import OpenK.AllK
import Wide.FinOn
import HandS.TupAny
import HandS.ForMost
import HandS.ForExc
import HandS.Walk
import HandS.Zip
import HandS.IsInst
import HandS.Wide
import HandS.CallSlots
import HandS.TryOnly
import HandS.ExcField
import HandS.Flow
import KE.GoesEnum
import KE.GoesMore
import KE.KExcSuper
import KE.KSuper
import HandS.ExcSuper
import HandS.ExcIs
import KE.KExcIs
import HandS.Conv
import HandS.Rev
import HandS.RevRange
import HandS.Style
import HandS.SortInts
import HandS.SetFor
import HandS.ClsMeth
import HandS.MakeKwOnly
import HandS.TupMul
import HandS.Property
import HandS.OwnEq
import HandS.Star
import HandS.CallRecv
import KE.DataCmp
import HandS.Deep
import HandS.TupLen
import HandS.DictComp
import HandS.More
import HandS.Flt
import HandS.TryMany
import KE.KDictZip
import KE.KDictCopyH
import HandS.DictTup
import PyProof.EqAt
import PyProof.EqKinds
import PyProof.TupleCall
import KE.RegKSuper
import PySem.Challenge.RW_fewchairs_k04_custom_numbers
set_option Elab.async false
set_option linter.all false
set_option maxRecDepth 100000
namespace FC
open PySem PySem.Spec L2

/-! ### data, stores, results -/
inductive Dv where
  | non | bl (b : Bool) | int (i : Int) | str (x : Str)
  | tup (xs : List Dv) | lst (xs : List Dv)
  | obj (n : Nat)
  | ins (c : Str) (fs : List (Str × Dv))
  | dic (kvs : List (Key × Dv)) | dit (kvs : List (List Key × Dv))
  | cls (c : Str)
abbrev Store := List Dv
inductive Rs (α : Type) where
  | ok (a : α) (S : Store)
  | exc (c : Str) (fs : List (Str × Dv)) (S : Store)
abbrev Mm (α : Type) := Store → Option (Rs α)
@[simp] def ret {α : Type} (a : α) : Mm α := fun S => some (.ok a S)
@[simp] def bnd {α β : Type} (m : Mm α) (k : α → Mm β) : Mm β := fun S => match m S with
  | none => none
  | some (.exc c fs S') => some (.exc c fs S')
  | some (.ok a S') => k a S'
@[simp] def stuck {α : Type} : Mm α := fun _ => none
@[simp] def ofO {α : Type} (o : Option α) : Mm α := fun S => match o with
  | none => none
  | some a => some (.ok a S)
abbrev DEnv := List (Option Dv)
abbrev FE := DEnv → Mm Dv
abbrev FT := DEnv → Mm Bool
abbrev FA := DEnv → Mm (List Dv)

/-! ### the worlds -/
structure Gp where
  K : PySem.W.Frag
  cA : Str → Addr
structure Wd where
  H : Hp
  as : List Addr
  M0 : List Addr
def Wd.M (w : Wd) (a : Addr) : Prop := a ∈ w.M0 ∨ a ∈ w.as
def SqLM (G : Gp) (w : Wd) (a : Addr) (xs : List V) : Prop :=
  (Rd w.H a (.lst xs) ∧ ¬ w.M a) ∨
    ∃ (o : Obj) (its : Array Value) (n : Nat), G.K.lookup a = some o ∧ o.cls = .type "list" ∧ o.dict = none ∧ o.data = .seq its n ∧ its.size ≤ sizeLine ∧ Vals xs its.toList
def SqTM (G : Gp) (w : Wd) (a : Addr) (xs : List V) : Prop :=
  (w.H a = some (.tup xs) ∧ ¬ w.M a) ∨ xs = [] ∧
    ∃ (o : Obj) (its : Array Value) (n : Nat), G.K.lookup a = some o ∧ o.cls = .type "tuple" ∧ o.data = .seq its n ∧ its.size ≤ sizeLine ∧ Vals xs its.toList
theorem SqLM.to {G : Gp} {w : Wd} {a : Addr} {xs : List V} (h : SqLM G w a xs) : SqL G.K w.H a xs := by
  rcases h with h | h
  · exact .inl h.1
  · exact .inr h
theorem SqTM.to {G : Gp} {w : Wd} {a : Addr} {xs : List V} (h : SqTM G w a xs) : SqT G.K w.H a xs := by
  rcases h with h | h
  · exact .inl (.inl h.1)
  · exact .inr h.2
mutual
inductive Rp (G : Gp) (w : Wd) : V → Dv → Prop
  | non : Rp G w .non .non
  | bl (b : Bool) : Rp G w (.bl b) (.bl b)
  | int (i : Int) : Rp G w (.int i) (.int i)
  | str (x : Str) : Rp G w (.str x) (.str x)
  | cls (c : Str) : Rp G w (.ref (G.cA c)) (.cls c)
  | tup {a : Addr} {xs : List V} {ds : List Dv} : SqTM G w a xs → RpAll G w xs ds → Rp G w (.ref a) (.tup ds)
  | lst {a : Addr} {xs : List V} {ds : List Dv} : SqLM G w a xs → RpAll G w xs ds → Rp G w (.ref a) (.lst ds)
  | obj {a : Addr} {n : Nat} : w.as[n]? = some a → Rp G w (.ref a) (.obj n)
  | ins {a dx : Addr} {c : Str} {fs' : List (Str × V)} {fs : List (Str × Dv)} : w.H a = some (.ins (G.cA c) dx fs') → ¬ w.M a → fs'.map Prod.fst = fs.map Prod.fst → RpAll G w (fs'.map Prod.snd) (fs.map Prod.snd) → Rp G w (.ref a) (.ins c fs)
  | dic {a : Addr} {kvs' : List (Key × V)} {kvs : List (Key × Dv)} : Rd w.H a (.dK kvs') → ¬ w.M a → kvs'.map Prod.fst = kvs.map Prod.fst → RpAll G w (kvs'.map Prod.snd) (kvs.map Prod.snd) → Rp G w (.ref a) (.dic kvs)
  | dit {a : Addr} {kvs' : List (List Key × V)} {kvs : List (List Key × Dv)} : Rd w.H a (.dT kvs') → ¬ w.M a → kvs'.map Prod.fst = kvs.map Prod.fst → RpAll G w (kvs'.map Prod.snd) (kvs.map Prod.snd) → Rp G w (.ref a) (.dit kvs)
inductive RpAll (G : Gp) (w : Wd) : List V → List Dv → Prop
  | nil : RpAll G w [] []
  | cons {v : V} {vs : List V} {d : Dv} {ds : List Dv} : Rp G w v d → RpAll G w vs ds → RpAll G w (v :: vs) (d :: ds)
end

def IsDc : HO → Prop
  | .dK _ => True
  | .dT _ => True
  | _ => False
/-- what may have happened since: new objects, changes of the named ones; a dict that nothing changes may have been frozen -/
structure Ext (w w' : Wd) : Prop where
  as : ∃ bs, w'.as = w.as ++ bs
  m0 : ∀ a ∈ w.M0, a ∈ w'.M0
  na : ∀ a o, w.H a = some o → a ∉ w.as → a ∉ w'.as
  nM : ∀ a o, w.H a = some o → ¬ w.M a → ¬ w'.M a
  keep : ∀ a o, a ∉ w.as → w.H a = some o → w'.H a = some o ∨ (IsDc o ∧ ¬ w.M a ∧ ∃ od, w'.H a = some (.frz od o))
theorem Ext.kpM {w w' : Wd} (e : Ext w w') {a : Addr} {o : HO} (hm : w.M a) (n : a ∉ w.as) (h : w.H a = some o) : w'.H a = some o := by
  rcases e.keep a o n h with q | q
  · exact q
  · exact absurd hm q.2.1
theorem Ext.kp {w w' : Wd} (e : Ext w w') {a : Addr} {o : HO} (hd : ¬ IsDc o) (n : a ∉ w.as) (h : w.H a = some o) : w'.H a = some o := by
  rcases e.keep a o n h with q | q
  · exact q
  · exact absurd q.1 hd
theorem Ext.refl (w : Wd) : Ext w w := ⟨⟨[], by simp⟩, fun _ h => h, fun _ _ _ h => h, fun _ _ _ h => h, fun _ _ _ h => .inl h⟩
theorem Ext.as_of {w w' : Wd} (e : Ext w w') {n : Nat} {a : Addr} (h : w.as[n]? = some a) : w'.as[n]? = some a := by
  obtain ⟨bs, hb⟩ := e.as
  rw [hb]
  have hn : n < w.as.length := (List.getElem?_eq_some_iff.mp h).1
  rw [List.getElem?_append_left hn]
  exact h
theorem Ext.trans {w w1 w2 : Wd} (a : Ext w w1) (b : Ext w1 w2) : Ext w w2 := by
  obtain ⟨bs, hb⟩ := a.as
  obtain ⟨cs, hc⟩ := b.as
  refine ⟨⟨bs ++ cs, by rw [hc, hb, List.append_assoc]⟩, fun x hx => b.m0 x (a.m0 x hx), fun x o h n => ?_, fun x o h n => ?_, fun x o hx h => ?_⟩
  · rcases a.keep x o n h with q | ⟨_, _, _, q⟩
    · exact b.na x _ q (a.na x o h n)
    · exact b.na x _ q (a.na x o h n)
  · rcases a.keep x o (fun z => n (.inr z)) h with q | ⟨_, _, _, q⟩
    · exact b.nM x _ q (a.nM x o h n)
    · exact b.nM x _ q (a.nM x o h n)
  · rcases a.keep x o hx h with q | ⟨hd, nm, od, q⟩
    · rcases b.keep x o (a.na x o h hx) q with r | ⟨hd, nm, r⟩
      · exact .inl r
      · refine .inr ⟨hd, fun z => nm ?_, r⟩
        rcases z with z | z
        · exact .inl (a.m0 x z)
        · exact absurd z hx
    · exact .inr ⟨hd, nm, od, b.kp id (a.na x o h hx) q⟩
theorem Ext.rd {w w' : Wd} (e : Ext w w') {a : Addr} {u : HO} (h : Rd w.H a u) (n : ¬ w.M a) : Rd w'.H a u ∧ ¬ w'.M a := by
  have na : a ∉ w.as := fun z => n (.inr z)
  rcases h with h | ⟨o, h⟩
  · rcases e.keep _ _ na h with q | ⟨_, _, od, q⟩
    · exact ⟨.inl q, e.nM _ _ h n⟩
    · exact ⟨.inr ⟨od, q⟩, e.nM _ _ h n⟩
  · exact ⟨.inr ⟨o, e.kp id na h⟩, e.nM _ _ h n⟩
theorem SqLM.mono {G : Gp} {w w' : Wd} (e : Ext w w') {a : Addr} {xs : List V} (h : SqLM G w a xs) : SqLM G w' a xs := by
  rcases h with h | h
  · exact .inl (e.rd h.1 h.2)
  · exact .inr h
theorem SqTM.mono {G : Gp} {w w' : Wd} (e : Ext w w') {a : Addr} {xs : List V} (h : SqTM G w a xs) : SqTM G w' a xs := by
  rcases h with h | h
  · exact .inl ⟨e.kp id (fun z => h.2 (.inr z)) h.1, e.nM _ _ h.1 h.2⟩
  · exact .inr h
mutual
theorem Rp.mono {G : Gp} {w w' : Wd} (e : Ext w w') : ∀ {v : V} {d : Dv}, Rp G w v d → Rp G w' v d
  | _, _, .non => .non
  | _, _, .bl b => .bl b
  | _, _, .int i => .int i
  | _, _, .str x => .str x
  | _, _, .cls c => .cls c
  | _, _, .tup h r => .tup (h.mono e) (RpAll.mono e r)
  | _, _, .lst h r => .lst (h.mono e) (RpAll.mono e r)
  | _, _, .obj h => .obj (e.as_of h)
  | _, _, .ins h n q r => .ins (e.kp id (fun z => n (.inr z)) h) (e.nM _ _ h n) q (RpAll.mono e r)
  | _, _, .dic h n q r => .dic (e.rd h n).1 (e.rd h n).2 q (RpAll.mono e r)
  | _, _, .dit h n q r => .dit (e.rd h n).1 (e.rd h n).2 q (RpAll.mono e r)
theorem RpAll.mono {G : Gp} {w w' : Wd} (e : Ext w w') : ∀ {vs : List V} {ds : List Dv}, RpAll G w vs ds → RpAll G w' vs ds
  | _, _, .nil => .nil
  | _, _, .cons h r => .cons (Rp.mono e h) (RpAll.mono e r)
end
/-- fewer names set apart, the same heap -/
structure Less (w w' : Wd) : Prop where
  H : w'.H = w.H
  M : ∀ a, w'.M a → w.M a
  as : ∀ (n : Nat) (a : Addr), w.as[n]? = some a → w'.as[n]? = some a
mutual
theorem Rp.less {G : Gp} {w w' : Wd} (e : Less w w') : ∀ {v : V} {d : Dv}, Rp G w v d → Rp G w' v d
  | _, _, .non => .non
  | _, _, .bl b => .bl b
  | _, _, .int i => .int i
  | _, _, .str x => .str x
  | _, _, .cls c => .cls c
  | _, _, .tup h r => .tup (by
      rcases h with h | h
      · exact .inl ⟨by rw [e.H]; exact h.1, fun z => h.2 (e.M _ z)⟩
      · exact .inr h) (RpAll.less e r)
  | _, _, .lst h r => .lst (by
      rcases h with h | h
      · exact .inl ⟨by rw [e.H]; exact h.1, fun z => h.2 (e.M _ z)⟩
      · exact .inr h) (RpAll.less e r)
  | _, _, .obj h => .obj (e.as _ _ h)
  | _, _, .ins h n q r => .ins (by rw [e.H]; exact h) (fun z => n (e.M _ z)) q (RpAll.less e r)
  | _, _, .dic h n q r => .dic (by rw [e.H]; exact h) (fun z => n (e.M _ z)) q (RpAll.less e r)
  | _, _, .dit h n q r => .dit (by rw [e.H]; exact h) (fun z => n (e.M _ z)) q (RpAll.less e r)
theorem RpAll.less {G : Gp} {w w' : Wd} (e : Less w w') : ∀ {vs : List V} {ds : List Dv}, RpAll G w vs ds → RpAll G w' vs ds
  | _, _, .nil => .nil
  | _, _, .cons h r => .cons (Rp.less e h) (RpAll.less e r)
end
section
variable {G : Gp} {w : Wd}
theorem RpAll.length : ∀ {vs : List V} {ds : List Dv}, RpAll G w vs ds → vs.length = ds.length
  | _, _, .nil => rfl
  | _, _, .cons _ r => by
    show _ + 1 = _ + 1
    rw [RpAll.length r]
theorem RpAll.get : ∀ {vs : List V} {ds : List Dv} {i : Nat} {d : Dv}, RpAll G w vs ds → ds[i]? = some d → ∃ v, vs[i]? = some v ∧ Rp G w v d
  | _, _, _, _, .nil, h => by simp at h
  | _, _, 0, _, .cons r _, h => by
    simp at h
    subst h
    exact ⟨_, rfl, r⟩
  | _, _, i + 1, d, .cons _ r, h => by
    obtain ⟨v, h1, h2⟩ := RpAll.get (i := i) (d := d) r (by simpa using h)
    exact ⟨v, by simpa using h1, h2⟩
theorem RpAll.getV : ∀ {vs : List V} {ds : List Dv} {i : Nat} {v : V}, RpAll G w vs ds → vs[i]? = some v → ∃ d, ds[i]? = some d ∧ Rp G w v d
  | _, _, _, _, .nil, h => by simp at h
  | _, _, 0, _, .cons r _, h => by
    simp at h
    subst h
    exact ⟨_, rfl, r⟩
  | _, _, i + 1, d, .cons _ r, h => by
    obtain ⟨v, h1, h2⟩ := RpAll.getV (i := i) (v := d) r (by simpa using h)
    exact ⟨v, by simpa using h1, h2⟩
theorem RpAll.append : ∀ {vs us : List V} {ds es : List Dv}, RpAll G w vs ds → RpAll G w us es → RpAll G w (vs ++ us) (ds ++ es)
  | _, _, _, _, .nil, s => s
  | _, _, _, _, .cons h r, s => .cons h (RpAll.append r s)
theorem RpAll.set {v : V} {d : Dv} (h : Rp G w v d) : ∀ {vs : List V} {ds : List Dv} (i : Nat), RpAll G w vs ds → RpAll G w (vs.set i v) (ds.set i d)
  | _, _, _, .nil => .nil
  | _, _, 0, .cons _ r => .cons h r
  | _, _, i + 1, .cons q r => .cons q (RpAll.set h i r)
theorem RpAll.take : ∀ {vs : List V} {ds : List Dv} (n : Nat), RpAll G w vs ds → RpAll G w (vs.take n) (ds.take n)
  | _, _, 0, _ => .nil
  | _, _, _ + 1, .nil => .nil
  | _, _, n + 1, .cons h r => .cons h (RpAll.take n r)
theorem RpAll.drop : ∀ {vs : List V} {ds : List Dv} (n : Nat), RpAll G w vs ds → RpAll G w (vs.drop n) (ds.drop n)
  | _, _, 0, r => r
  | _, _, _ + 1, .nil => .nil
  | _, _, n + 1, .cons _ r => RpAll.drop n r
theorem RpAll.ints : ∀ {vs : List V} {ns : List Int}, RpAll G w vs (ns.map Dv.int) → vs = ns.map V.int
  | _, [], h => by cases h; rfl
  | _, n :: ns, h => by
    cases h with
    | cons h r =>
      cases h
      rw [RpAll.ints r]
      rfl
theorem RpAll.bls : ∀ {vs : List V} {ns : List Bool}, RpAll G w vs (ns.map Dv.bl) → vs = ns.map V.bl
  | _, [], h => by cases h; rfl
  | _, n :: ns, h => by
    cases h with
    | cons h r =>
      cases h
      rw [RpAll.bls r]
      rfl
theorem RpAll.of_ints : ∀ (ns : List Int), RpAll G w (ns.map V.int) (ns.map Dv.int)
  | [] => .nil
  | n :: ns => .cons (.int n) (RpAll.of_ints ns)
end

/-! ### stores -/
def MOk (G : Gp) (w : Wd) (a : Addr) : Dv → Prop
  | .lst ds => ∃ xs, w.H a = some (.lst xs) ∧ RpAll G w xs ds
  | .ins c fs => ∃ dx fs', w.H a = some (.ins (G.cA c) dx fs') ∧ fs'.map Prod.fst = fs.map Prod.fst ∧ RpAll G w (fs'.map Prod.snd) (fs.map Prod.snd)
  | .dic kvs => ∃ kvs', w.H a = some (.dK kvs') ∧ kvs'.map Prod.fst = kvs.map Prod.fst ∧ RpAll G w (kvs'.map Prod.snd) (kvs.map Prod.snd)
  | .dit kvs => ∃ kvs', w.H a = some (.dT kvs') ∧ kvs'.map Prod.fst = kvs.map Prod.fst ∧ RpAll G w (kvs'.map Prod.snd) (kvs.map Prod.snd)
  | _ => False
theorem MOk.there {G : Gp} {w : Wd} {a : Addr} {d : Dv} (h : MOk G w a d) : ∃ o, w.H a = some o := by
  cases d <;> first | exact h.elim | skip
  · obtain ⟨xs, h, _⟩ := h; exact ⟨_, h⟩
  · obtain ⟨_, _, h, _⟩ := h; exact ⟨_, h⟩
  · obtain ⟨_, h, _⟩ := h; exact ⟨_, h⟩
  · obtain ⟨_, h, _⟩ := h; exact ⟨_, h⟩
/-- the object stands as it was -/
theorem MOk.mono {G : Gp} {w w' : Wd} (e : Ext w w') {a : Addr} {d : Dv} (hk : w'.H a = w.H a) (h : MOk G w a d) : MOk G w' a d := by
  cases d <;> first | exact h.elim | skip
  · obtain ⟨xs, h, r⟩ := h; exact ⟨xs, hk.trans h, r.mono e⟩
  · obtain ⟨dx, fs', h, q, r⟩ := h; exact ⟨dx, fs', hk.trans h, q, r.mono e⟩
  · obtain ⟨kvs', h, q, r⟩ := h; exact ⟨kvs', hk.trans h, q, r.mono e⟩
  · obtain ⟨kvs', h, q, r⟩ := h; exact ⟨kvs', hk.trans h, q, r.mono e⟩
theorem MOk.less {G : Gp} {w w' : Wd} (e : Less w w') {a : Addr} {d : Dv} (h : MOk G w a d) : MOk G w' a d := by
  have hk : w'.H a = w.H a := by rw [e.H]
  cases d <;> first | exact h.elim | skip
  · obtain ⟨xs, h, r⟩ := h; exact ⟨xs, hk.trans h, r.less e⟩
  · obtain ⟨dx, fs', h, q, r⟩ := h; exact ⟨dx, fs', hk.trans h, q, r.less e⟩
  · obtain ⟨kvs', h, q, r⟩ := h; exact ⟨kvs', hk.trans h, q, r.less e⟩
  · obtain ⟨kvs', h, q, r⟩ := h; exact ⟨kvs', hk.trans h, q, r.less e⟩
def NT : HO → Prop
  | .tup _ => False
  | _ => True
structure SOk (G : Gp) (w : Wd) (S : Store) : Prop where
  nd : w.as.Nodup
  len : w.as.length = S.length
  dom : ∀ a ∈ w.M0, ∃ o, w.H a = some o ∧ NT o
  dj : ∀ a ∈ w.as, a ∉ w.M0
  cont : ∀ (i : Nat) (a : Addr) (d : Dv), w.as[i]? = some a → S[i]? = some d → MOk G w a d
theorem SOk.asd {G : Gp} {w : Wd} {S : Store} (h : SOk G w S) : ∀ a ∈ w.as, ∃ o, w.H a = some o := fun a ha => by
  obtain ⟨i, hi, e⟩ := List.getElem_of_mem ha
  have h2 : i < S.length := by rw [← h.len]; exact hi
  exact (h.cont i a S[i] (by rw [List.getElem?_eq_getElem hi, e]) (List.getElem?_eq_getElem h2)).there
theorem SOk.fresh {G : Gp} {w : Wd} {S : Store} (h : SOk G w S) {p : Addr} (hp : w.H p = none) : ¬ w.M p := by
  rintro (z | z)
  · obtain ⟨o, q, _⟩ := h.dom p z
    rw [hp] at q
    cases q
  · obtain ⟨o, q⟩ := h.asd p z
    rw [hp] at q
    cases q
theorem Ext.thru {G : Gp} {w w1 w2 : Wd} {S1 : Store} (a : Ext w w1) (b : Ext w1 w2) (_ : SOk G w1 S1) : Ext w w2 := a.trans b

/-- a new object that no name holds -/
def Wd.put (w : Wd) (p : Addr) (o : HO) : Wd := ⟨upd w.H p o, w.as, w.M0⟩
/-- a new object with a name -/
def Wd.add (w : Wd) (p : Addr) (o : HO) : Wd := ⟨upd w.H p o, w.as ++ [p], w.M0⟩
section
variable {G : Gp} {w : Wd} {S : Store} {p : Addr} {o : HO}
theorem Ext.put (hp : w.H p = none) : Ext w (w.put p o) := ⟨⟨[], by simp [Wd.put]⟩, fun _ h => h, fun _ _ _ h => h, fun _ _ _ h => h, fun a u _ h => by
    refine .inl ?_
    show upd w.H p o a = some u
    rw [upd_ne (ne_of_none h hp)]
    exact h⟩
theorem mem_add {as : List Addr} {a p : Addr} (h : a ∈ as ++ [p]) (n : a ≠ p) : a ∈ as := by
  rcases List.mem_append.mp h with z | z
  · exact z
  · exact absurd (by simpa using z) n
theorem Ext.add (hp : w.H p = none) : Ext w (w.add p o) := ⟨⟨[p], rfl⟩, fun _ h => h, fun a u h n z => n (mem_add z (ne_of_none h hp)), fun a u h n z => by
    rcases z with z | z
    · exact n (.inl z)
    · exact n (.inr (mem_add z (ne_of_none h hp))),
  fun a u _ h => by
    refine .inl ?_
    show upd w.H p o a = some u
    rw [upd_ne (ne_of_none h hp)]
    exact h⟩
theorem SOk.put (h : SOk G w S) (hp : w.H p = none) : SOk G (w.put p o) S := by
  have e : Ext w (w.put p o) := .put hp
  refine ⟨h.nd, h.len, fun a ha => ?_, h.dj, fun i a d h1 h2 => ?_⟩
  · obtain ⟨u, hu, nt⟩ := h.dom a ha
    exact ⟨u, by show upd w.H p o a = some u; rw [upd_ne (ne_of_none hu hp)]; exact hu, nt⟩
  · have q := h.cont i a d h1 h2
    obtain ⟨u, hu⟩ := q.there
    exact q.mono e (upd_ne (ne_of_none hu hp))
theorem SOk.add (h : SOk G w S) (hp : w.H p = none) {d : Dv} (hd : MOk G (w.add p o) p d) : SOk G (w.add p o) (S ++ [d]) := by
  have e : Ext w (w.add p o) := .add hp
  have hnp : p ∉ w.as := fun z => h.fresh hp (.inr z)
  refine ⟨?_, ?_, fun a ha => ?_, fun a ha z => ?_, fun i a d' h1 h2 => ?_⟩
  · show (w.as ++ [p]).Nodup
    rw [List.nodup_append]
    refine ⟨h.nd, by simp, fun a ha b hb => ?_⟩
    simp at hb
    subst hb
    rintro rfl
    exact hnp ha
  · show (w.as ++ [p]).length = (S ++ [d]).length
    simp [h.len]
  · obtain ⟨u, hu, nt⟩ := h.dom a ha
    exact ⟨u, by show upd w.H p o a = some u; rw [upd_ne (ne_of_none hu hp)]; exact hu, nt⟩
  · rcases List.mem_append.mp ha with q | q
    · exact h.dj a q z
    · rw [show a = p by simpa using q] at z
      exact h.fresh hp (.inl z)
  · have h1' : (w.as ++ [p])[i]? = some a := h1
    by_cases hi : i < w.as.length
    · rw [List.getElem?_append_left hi] at h1'
      rw [List.getElem?_append_left (by rw [← h.len]; exact hi)] at h2
      have q := h.cont i a d' h1' h2
      obtain ⟨u, hu⟩ := q.there
      exact q.mono e (upd_ne (ne_of_none hu hp))
    · have hi2 : w.as.length ≤ i := by omega
      rw [List.getElem?_append_right hi2] at h1'
      rw [List.getElem?_append_right (by rw [← h.len]; exact hi2)] at h2
      cases hk : i - w.as.length with
      | zero =>
        rw [hk] at h1'
        rw [← h.len, hk] at h2
        simp at h1' h2
        subst h1'; subst h2
        exact hd
      | succ k =>
        rw [hk] at h1'
        simp at h1'
theorem Rp.new_tup (h : SOk G w S) (hp : w.H p = none) {xs : List V} {ds : List Dv} (r : RpAll G w xs ds) : Rp G (w.put p (.tup xs)) (.ref p) (.tup ds) :=
  .tup (.inl ⟨upd_same, h.fresh hp⟩) (r.mono (.put hp))
theorem Rp.new_lst (h : SOk G w S) (hp : w.H p = none) {xs : List V} {ds : List Dv} (r : RpAll G w xs ds) : Rp G (w.put p (.lst xs)) (.ref p) (.lst ds) :=
  .lst (.inl ⟨.inl upd_same, h.fresh hp⟩) (r.mono (.put hp))
theorem Rp.add_obj (h : SOk G w S) : Rp G (w.add p o) (.ref p) (.obj S.length) := .obj (by
  show (w.as ++ [p])[S.length]? = some p
  rw [← h.len, List.getElem?_append_right (Nat.le_refl _), Nat.sub_self]
  rfl)
/-- a named object changes -/
theorem SOk.upd {i : Nat} {a : Addr} {d : Dv} (h : SOk G w S) (hi : w.as[i]? = some a) (hd : MOk G (w.put a o) a d) : SOk G (w.put a o) (S.set i d) := by
  have hil : i < w.as.length := (List.getElem?_eq_some_iff.mp hi).1
  have ha : a ∈ w.as := List.mem_of_getElem? hi
  have e : Ext w (w.put a o) := ⟨⟨[], by simp [Wd.put]⟩, fun _ h => h, fun _ _ _ h => h, fun _ _ _ h => h, fun b u hb hu => by
    refine .inl ?_
    show L2.upd w.H a o b = some u
    rw [upd_ne (show b ≠ a from fun z => hb (by rw [z]; exact ha))]
    exact hu⟩
  refine ⟨h.nd, by rw [List.length_set]; exact h.len, fun b hb => ?_, h.dj, fun j b d' h1 h2 => ?_⟩
  · by_cases q : b = a
    · subst q; exact absurd hb (h.dj _ ha)
    · obtain ⟨u, hu, nt⟩ := h.dom b hb
      exact ⟨u, (upd_ne q).trans hu, nt⟩
  · by_cases q : j = i
    · subst q
      have h1' : w.as[j]? = some b := h1
      rw [hi] at h1'
      cases h1'
      rw [List.getElem?_set_self (by rw [← h.len]; exact hil)] at h2
      cases h2
      exact hd
    · rw [List.getElem?_set_ne (Ne.symm q)] at h2
      have h1' : w.as[j]? = some b := h1
      have hjl : j < w.as.length := (List.getElem?_eq_some_iff.mp h1').1
      have hba : b ≠ a := by
        rintro rfl
        have e1 : w.as[j] = w.as[i] := by
          have z1 := (List.getElem?_eq_some_iff.mp h1').2
          have z2 := (List.getElem?_eq_some_iff.mp hi).2
          rw [z1, z2]
        exact q ((List.getElem_inj h.nd).mp e1)
      exact (h.cont j b d' h1' h2).mono e (upd_ne hba)
theorem Ext.upd {i : Nat} {a : Addr} (hi : w.as[i]? = some a) : Ext w (w.put a o) := ⟨⟨[], by simp [Wd.put]⟩, fun _ h => h, fun _ _ _ h => h, fun _ _ _ h => h, fun b u hb hu => by
  refine .inl ?_
  show L2.upd w.H a o b = some u
  rw [upd_ne (show b ≠ a from fun z => hb (by rw [z]; exact List.mem_of_getElem? hi))]
  exact hu⟩
end

/-! ### slots -/
/-- what else is known, and stays while no slot is stored but those that are ok -/
structure Iv where
  P : Wd → L2.St → Prop
  ok : Nat → Prop
  mono : ∀ w w' σ, Ext w w' → P w σ → P w' σ
  put : ∀ w σ i v, ok i → P w σ → P w (σ.set i v)
def Iv.no : Iv := ⟨fun _ _ => True, fun _ => True, fun _ _ _ _ h => h, fun _ _ _ _ _ h => h⟩
structure EOk (G : Gp) (I : Iv) (w : Wd) (σ : L2.St) (env : DEnv) : Prop where
  len : σ.length = env.length
  get : ∀ (i : Nat) (d : Dv), env[i]? = some (some d) → ∃ v, σ[i]? = some (some v) ∧ Rp G w v d
  inv : I.P w σ
theorem EOk.mono {G : Gp} {I : Iv} {w w' : Wd} {σ : L2.St} {env : DEnv} (e : Ext w w') (h : EOk G I w σ env) : EOk G I w' σ env := ⟨h.len, fun i d q => by
  obtain ⟨v, h1, h2⟩ := h.get i d q
  exact ⟨v, h1, h2.mono e⟩, I.mono _ _ _ e h.inv⟩
theorem EOk.set {G : Gp} {I : Iv} {w : Wd} {σ : L2.St} {env : DEnv} (h : EOk G I w σ env) {i : Nat} {v : V} {d : Dv} (hok : I.ok i) (r : Rp G w v d) : EOk G I w (σ.set i (some v)) (env.set i (some d)) := ⟨by simp [h.len], fun j e q => by
  by_cases z : i = j
  · subst z
    have hl : i < env.length := by
      have := (List.getElem?_eq_some_iff.mp q).1
      simpa using this
    rw [List.getElem?_set_self hl] at q
    cases q
    exact ⟨v, List.getElem?_set_self (by rw [h.len]; exact hl), r⟩
  · rw [List.getElem?_set_ne z] at q
    obtain ⟨u, h1, h2⟩ := h.get j e q
    exact ⟨u, by rw [List.getElem?_set_ne z]; exact h1, h2⟩, I.put _ _ _ _ hok h.inv⟩
end FC

set_option Elab.async false
set_option linter.all false
set_option maxRecDepth 100000
namespace FC
open PySem PySem.Spec L2

def cOf (mg : Str → Option Value) (s : Str) : Addr := match mg s with
  | some (.ref a) => a
  | _ => 0
abbrev gp (X : Cx) : Gp := ⟨X.K, cOf X.mg⟩

/-! ### what is wanted behind -/
def PX (G : Gp) (W : WX) (w : Wd) (σ : L2.St) (c : Str) (fs : List (Str × Dv)) (S' : Store) : Prop :=
  ∀ dd fs' w', Ext w w' → SOk G w' S' → w'.H dd = some (.xd fs') → ¬ w'.M dd → fs'.map Prod.fst = fs.map Prod.fst → RpAll G w' (fs'.map Prod.snd) (fs.map Prod.snd) → W (.ref (G.cA c)) (some dd) σ w'.H
def PR {α β : Type} (G : Gp) (W : WX) (R : Wd → β → α → Prop) (w : Wd) (σ : L2.St) (r : Rs α) (Q : β → Hp → Prop) : Prop := match r with
  | .ok d S' => ∀ v w', Ext w w' → SOk G w' S' → R w' v d → Q v w'.H
  | .exc c fs S' => PX G W w σ c fs S'
def PXr {α : Type} (G : Gp) (W : WX) (w : Wd) (σ : L2.St) (r : Rs α) : Prop := match r with
  | .ok _ _ => True
  | .exc c fs S' => PX G W w σ c fs S'
def tG {α β : Type} (G : Gp) (ξ : Iv) (W : WX) (R : Wd → β → α → Prop) (f : DEnv → Mm α) : L2.St → Hp → (β → Hp → Prop) → Prop := fun σ H Q =>
  ∃ (w : Wd) (env : DEnv) (S : Store) (r : Rs α), w.H = H ∧ SOk G w S ∧ EOk G ξ w σ env ∧ f env S = some r ∧ PR G W R w σ r Q
def RB (_ : Wd) (b c : Bool) : Prop := b = c
def tD (G : Gp) (ξ : Iv) (W : WX) (f : FE) : TE := tG G ξ W (Rp G) f
def tDT (G : Gp) (ξ : Iv) (W : WX) (f : FT) : TT := tG G ξ W RB f
def tDA (G : Gp) (ξ : Iv) (W : WX) (f : FA) : TA := tG G ξ W (RpAll G) f

section
variable {α β γ δ : Type} {G : Gp} {W : WX} {w w1 : Wd} {σ : L2.St} {S S1 : Store}
theorem PX.mono {c : Str} {fs : List (Str × Dv)} {S' : Store} (e : Ext w w1) (s1 : SOk G w1 S1) (h : PX G W w σ c fs S') : PX G W w1 σ c fs S' :=
  fun dd fs' w' e' s' hd hm hn hr => h dd fs' w' (e.thru e' s1) s' hd hm hn hr
theorem PR.px {R : Wd → β → α → Prop} {r : Rs α} {Q : β → Hp → Prop} (h : PR G W R w σ r Q) : PXr G W w σ r := by
  cases r with
  | ok _ _ => exact True.intro
  | exc _ _ _ => exact h
theorem PXr.mono {r : Rs α} (e : Ext w w1) (s1 : SOk G w1 S1) (h : PXr G W w σ r) : PXr G W w1 σ r := by
  cases r with
  | ok _ _ => exact True.intro
  | exc _ _ _ => exact PX.mono e s1 h
theorem PR.mono {R : Wd → β → α → Prop} {r : Rs α} {Q : β → Hp → Prop} (e : Ext w w1) (s1 : SOk G w1 S1) (h : PR G W R w σ r Q) : PR G W R w1 σ r Q := by
  cases r with
  | ok d S' => exact fun v w' e' s' hr => h v w' (e.thru e' s1) s' hr
  | exc _ _ _ => exact PX.mono e s1 h
theorem PR.ok_ {R : Wd → β → α → Prop} {d : α} {S' : Store} {Q : β → Hp → Prop} (h : PR G W R w σ (.ok d S') Q) {v : β} {w' : Wd} (e : Ext w w') (s : SOk G w' S') (hr : R w' v d) : Q v w'.H := h v w' e s hr
theorem PR.here {R : Wd → β → α → Prop} {d : α} {Q : β → Hp → Prop} (h : PR G W R w σ (.ok d S) Q) (s : SOk G w S) {v : β} (hr : R w v d) : Q v w.H := h v w (Ext.refl w) s hr
/-- a part, then the rest -/
theorem seqR {R : Wd → β → α → Prop} {f : DEnv → Mm α} {k : α → Mm γ} {env : DEnv} {r : Rs γ} (s : SOk G w S) (en : EOk G ξ w σ env) (hr : bnd (f env) k S = some r) (px : PXr G W w σ r) {Q : β → Hp → Prop}
    (K : ∀ a S1 v w1, Ext w w1 → SOk G w1 S1 → EOk G ξ w1 σ env → R w1 v a → k a S1 = some r → Q v w1.H) : tG G ξ W R f σ w.H Q := by
  unfold bnd at hr
  cases h : f env S with
  | none => rw [h] at hr; cases hr
  | some r1 =>
    rw [h] at hr
    refine ⟨w, env, S, r1, rfl, s, en, h, ?_⟩
    cases r1 with
    | exc c fs S' =>
      have e : (Rs.exc c fs S' : Rs γ) = r := Option.some.inj hr
      subst e
      exact px
    | ok a S' => exact fun v w' e s' q => K a S' v w' e s' (en.mono e) q hr
end

/-! ### judgements -/
section
variable (X : Cx) (ξ : Iv) (W : WX)
def DE (e : Expr) (f : FE) : Prop := PE X e (tD (gp X) ξ W f)
def DT (e : Expr) (f : FT) : Prop := PT X e (tDT (gp X) ξ W f)
def DW (e : Expr) (f : FT) : Prop := PW X e (tDT (gp X) ξ W f)
def DA (es : List Expr) (f : FA) : Prop := PA X es (tDA (gp X) ξ W f)
end
section
variable {X : Cx} {ξ : Iv} {W : WX}
theorem PE.imp {e : Expr} {t t' : TE} (h : PE X e t) (i : ∀ σ H Q, t' σ H Q → t σ H Q) : PE X e t' := ⟨fun pins s σ H Q I q => h.run pins s σ H Q I (i σ H Q q)⟩
theorem PT.imp {e : Expr} {t t' : TT} (h : PT X e t) (i : ∀ σ H Q, t' σ H Q → t σ H Q) : PT X e t' := ⟨fun pins s σ H Q I q => h.run pins s σ H Q I (i σ H Q q)⟩
theorem PW.imp {e : Expr} {t t' : TT} (h : PW X e t) (i : ∀ σ H Q, t' σ H Q → t σ H Q) : PW X e t' := ⟨fun wh pins s σ H Q I q => h.run wh pins s σ H Q I (i σ H Q q)⟩
theorem PA.imp {e : List Expr} {t t' : TA} (h : PA X e t) (i : ∀ σ H Q, t' σ H Q → t σ H Q) : PA X e t' := ⟨fun pos pins s σ H Q I q => h.run pos pins s σ H Q I (i σ H Q q)⟩
theorem PS.imp {e : Stmt} {t t' : TS} (h : PS X e t) (i : ∀ D σ H, t' D σ H → t D σ H) : PS X e t' := ⟨fun pins s σ H D I q => h.run pins s σ H D I (i D σ H q)⟩
theorem PSs.imp {e : List Stmt} {t t' : TS} (h : PSs X e t) (i : ∀ D σ H, t' D σ H → t D σ H) : PSs X e t' := ⟨fun pins s σ H D I q => h.run pins s σ H D I (i D σ H q)⟩

/-! ### names, constants -/
@[simp] def fVar (i : Nat) : FE := fun env => ofO (env[i]?).join
@[simp] def fC (d : Dv) : FE := fun _ => ret d
theorem d_var (i : Nat) {x : Str} {pos : Pos} (hN : X.N[i]? = some x := by rfl) (hv : Vis X.env.scope x := by first | exact Or.inl rfl | exact Or.inr (Or.inl rfl) | exact Or.inr (Or.inr rfl)) (hd : (x == ("__debug__" : Str)) = false := by decide)
    (hcd : (x == ("__classdict__" : Str)) = false := by decide) : DE X ξ W (.Name x pos) (fVar i) := PE.imp (pe_var (pos := pos) hN hv hd hcd) fun σ H Q ⟨w, env, S, r, eH, s, en, h, p⟩ => by
  subst eH
  unfold fVar ofO at h
  cases q : (env[i]?).join with
  | none => rw [q] at h; cases h
  | some d =>
    rw [q] at h
    cases h
    have q' : env[i]? = some (some d) := by
      cases z : env[i]? with
      | none => rw [z] at q; cases q
      | some o => rw [z] at q; cases o with
        | none => cases q
        | some d' => cases q; rfl
    obtain ⟨v, h1, h2⟩ := en.get i d q'
    exact ⟨v, h1, p.here s h2⟩
theorem d_const {e : Expr} {v : V} {d : Dv} (h : PE X e (tC v)) (hd : ∀ w, Rp (gp X) w v d) : DE X ξ W e (fC d) := PE.imp h fun σ H Q ⟨w, env, S, r, eH, s, en, h, p⟩ => by
  subst eH
  cases h
  exact p.here s (hd w)
theorem d_int {i j pos} : DE X ξ W (.Constant (.int i) j pos) (fC (.int i)) := d_const pe_int fun _ => .int i
theorem d_bl {i j pos} : DE X ξ W (.Constant (.bool i) j pos) (fC (.bl i)) := d_const pe_bl fun _ => .bl i
theorem d_non {j pos} : DE X ξ W (.Constant .none j pos) (fC .non) := d_const pe_non fun _ => .non
theorem d_str {i j pos} : DE X ξ W (.Constant (.str i) j pos) (fC (.str i)) := d_const pe_str fun _ => .str i
/-- a module's constant -/
theorem d_glob {x : Str} {v : V} {u : Value} {d : Dv} {pos : Pos} (hg : Gl X x) (hm : X.mg x = some u) (r : RelV v u) (hr : ∀ w, Rp (gp X) w v d) (hd : (x == ("__debug__" : Str)) = false := by decide) : DE X ξ W (.Name x pos) (fC d) := d_const (pe_glob hg hm r hd) hr

/-! ### operators -/
abbrev DOp := Dv → Dv → Mm Dv
def OpD (G : Gp) (r : R2) (o : DOp) : Prop := ∀ (W : WX) (w : Wd) (σ : L2.St) (S : Store) (x y : V) (dx dy : Dv) (res : Rs Dv) (Q : VK), SOk G w S → Rp G w x dx → Rp G w y dy → o dx dy S = some res → PR G W (Rp G) w σ res Q → r x y w.H Q
@[simp] def fOp (o : DOp) (fa fb : FE) : FE := fun env => bnd (fa env) fun x => bnd (fb env) fun y => o x y
theorem OpD.or {G : Gp} {r r' : R2} {o : DOp} (h : ∀ (W : WX) (w : Wd) (σ : L2.St) (S : Store) (x y : V) (dx dy : Dv) (res : Rs Dv) (Q : VK), SOk G w S → Rp G w x dx → Rp G w y dy → o dx dy S = some res → PR G W (Rp G) w σ res Q → r x y w.H Q ∨ r' x y w.H Q) : OpD G (fun x y H Q => r x y H Q ∨ r' x y H Q) o := h
theorem OpR.or {f : Value → Value → Sem Value} {r r' : R2} (h : OpR X f r) (h' : OpR X f r') : OpR X f (fun x y H Q => r x y H Q ∨ r' x y H Q) := by
  intro pins s σ H x y v u Q I rx ry q
  rcases q with q | q
  · exact h pins s σ H x y v u Q I rx ry q
  · exact h' pins s σ H x y v u Q I rx ry q
theorem op_body {G : Gp} {r : R2} {o : DOp} {fa fb : FE} (hd : OpD G r o) : ∀ σ H Q, tD G ξ W (fOp o fa fb) σ H Q → tOp r (tD G ξ W fa) (tD G ξ W fb) σ H Q := fun σ H Q ⟨w, env, S, res, eH, s, en, h, p⟩ => by
  subst eH
  exact seqR s en h p.px fun x S1 v w1 e1 s1 en1 r1 h1 => seqR s1 en1 h1 (p.px.mono e1 s1) fun y S2 u w2 e2 s2 en2 r2 h2 =>
    hd W w2 σ S2 v u x y res Q s2 (r1.mono e2) r2 h2 (p.mono (e1.thru e2 s1) s2)
theorem d_op {op : Operator} {r : R2} {o : DOp} {a b : Expr} {fa fb : FE} {pos : Pos} (ho : OpR X (binaryOp op) r) (hd : OpD (gp X) r o) (ha : DE X ξ W a fa) (hb : DE X ξ W b fb) : DE X ξ W (.BinOp a op b pos) (fOp o fa fb) :=
  PE.imp (pe_op ho ha hb) (op_body hd)
theorem d_cmp {op : CmpOp} {r : R2} {o : DOp} {a b : Expr} {fa fb : FE} {pos : Pos} (ho : OpR X (compareOp op) r) (hd : OpD (gp X) r o) (ha : DE X ξ W a fa) (hb : DE X ξ W b fb) (hm : behindInMarks op b = false) : DE X ξ W (.Compare a [op] [b] pos) (fOp o fa fb) :=
  PE.imp (pe_cmpR ho ha hb hm) (op_body hd)
/-- a value as a test -/
@[simp] def asB : Dv → Option Bool
  | .bl b => some b
  | _ => none
@[simp] def fTest (fa : FE) : FT := fun env => bnd (fa env) fun x => ofO (asB x)
theorem test_body {G : Gp} {fa : FE} : ∀ σ H Q, tDT G ξ W (fTest fa) σ H Q → tTest (tD G ξ W fa) σ H Q := fun σ H Q ⟨w, env, S, res, eH, s, en, h, p⟩ => by
  subst eH
  refine seqR s en h p.px fun x S1 v w1 e1 s1 en1 r1 h1 => ?_
  cases r1 <;> first | (cases h1; done) | skip
  rename_i b
  cases h1
  exact ⟨b, rfl, p.ok_ e1 s1 (show RB w1 b b from rfl)⟩
theorem t_cmp {op : CmpOp} {r : R2} {o : DOp} {a b : Expr} {fa fb : FE} {pos : Pos} (ho : OpR X (compareOp op) r) (hd : OpD (gp X) r o) (ha : DE X ξ W a fa) (hb : DE X ξ W b fb) (hm : behindInMarks op b = false) : DT X ξ W (.Compare a [op] [b] pos) (fTest (fOp o fa fb)) :=
  PT.imp (pt_cmpR ho ha hb hm) fun σ H Q h => by
    obtain ⟨w, env, S, res, eH, s, en, h, p⟩ := test_body (fa := fOp o fa fb) σ H Q h
    exact op_body hd σ H _ ⟨w, env, S, res, eH, s, en, h, p⟩

/-! ### the operators' values -/
def oI (g : Int → Int → Dv) : DOp := fun x y => match x, y with
  | .int i, .int j => ret (g i j)
  | _, _ => stuck
def oIC (C : Int → Int → Prop) [∀ i j, Decidable (C i j)] (g : Int → Int → Dv) : DOp := fun x y => match x, y with
  | .int i, .int j => if C i j then ret (g i j) else stuck
  | _, _ => stuck
theorem od_I {G : Gp} {g : Int → Int → V} {g' : Int → Int → Dv} (hg : ∀ w i j, Rp G w (g i j) (g' i j)) : OpD G (rI0 g) (oI g') := by
  intro W w σ S x y dx dy res Q s rx ry h p
  cases rx <;> first | (cases h; done) | skip
  cases ry <;> first | (cases h; done) | skip
  rename_i i j
  cases h
  exact ⟨i, j, rfl, rfl, p.here s (hg w i j)⟩
theorem od_IC {G : Gp} {C C' : Int → Int → Prop} [∀ i j, Decidable (C' i j)] {g : Int → Int → V} {g' : Int → Int → Dv} (hc : ∀ i j, C' i j → C i j) (hg : ∀ w i j, Rp G w (g i j) (g' i j)) : OpD G (rI C g) (oIC C' g') := by
  intro W w σ S x y dx dy res Q s rx ry h p
  cases rx <;> first | (cases h; done) | skip
  cases ry <;> first | (cases h; done) | skip
  rename_i i j
  have h' : (if C' i j then ret (g' i j) else stuck) S = some res := h
  by_cases q : C' i j
  · rw [if_pos q] at h'
    cases h'
    exact ⟨i, j, rfl, rfl, hc i j q, p.here s (hg w i j)⟩
  · rw [if_neg q] at h'
    cases h'
end
end FC

set_option Elab.async false
set_option linter.all false
set_option maxRecDepth 100000
namespace FC
open PySem PySem.Spec L2

/-- the largest length that is looked at -/
abbrev big : Nat := 1000000
theorem big_le {n : Nat} (h : n ≤ big) : n ≤ sizeLine := Nat.le_trans h (by decide)
theorem big_lt {n : Nat} (h : n ≤ big) : n < sizeLine := Nat.lt_of_le_of_lt h (by decide)
@[simp] def lim {α : Type} (n : Nat) (a : Mm α) : Mm α := if n ≤ big then a else stuck
theorem lim_some {α : Type} {n : Nat} {a : Mm α} {S : Store} {r : Rs α} (h : lim n a S = some r) : n ≤ big ∧ a S = some r := by
  unfold lim at h
  by_cases q : n ≤ big
  · rw [if_pos q] at h; exact ⟨q, h⟩
  · rw [if_neg q] at h; cases h

section
variable {X : Cx} {ξ : Iv} {W : WX} {G : Gp}
/-! ### + -/
/-- t + u with an empty t: u itself -/
def rCat0 (K : PySem.W.Frag) : R2 := fun x y H Q => ∃ a b ys, x = .ref a ∧ y = .ref b ∧ SqT K H a [] ∧ SqT K H b ys ∧ Q (.ref b) H
theorem op_cat0 : OpR X (binaryOp .Add) (rCat0 X.K) := by
  intro pins s σ H x y v u Q I rx ry h
  obtain ⟨a, b, ys, rfl, rfl, ha, hb, q⟩ := h
  cases rx
  cases ry
  obtain ⟨its, r1, p1, _⟩ := I.tuple ha
  obtain ⟨its2, r2, p2, _⟩ := I.tuple hb
  cases r1
  obtain ⟨⟨cls, dd, data, sl⟩, ho, hc, n, hd⟩ := id p1
  obtain ⟨⟨cls2, dd2, data2, sl2⟩, ho2, hc2, n2, hd2⟩ := id p2
  simp only at hc hd hc2 hd2
  subst hc hd hc2 hd2
  exact PySem.concat_meets ⟨_, ho, rfl⟩ ⟨_, ho2, rfl⟩ PySem.noFill_tuple_add PySem.seq_tuple_add PySem.F.slot_tuple_add PySem.F.entry_tuple_add (PySem.F.args_tuple_add_2 _ _)
      (PyProof.Rows.tuple_addW0 a b #[] its2.toArray n n2 dd dd2 sl sl2 rfl) ⟨ho, ho2, ⟨.ref b, H, I, rfl, q⟩⟩
def rAddS : R2 := fun x y H Q => ∃ i j, x = .str i ∧ y = .str j ∧ i.length + j.length ≤ sizeLine ∧ Q (.str (i ++ j)) H
/-- + of ints, of tuples -/
@[simp] def oAdd : DOp := fun x y => match x, y with
  | .int i, .int j => ret (.int (i + j))
  | .tup xs, .tup ys => lim (xs.length + ys.length) (ret (.tup (xs ++ ys)))
  | _, _ => stuck
def rAddD (K : PySem.W.Frag) : R2 := fun x y H Q => rI0 (fun i j => .int (i + j)) x y H Q ∨ (rCat0 K x y H Q ∨ rCatT K x y H Q)
theorem op_addD : OpR X (binaryOp .Add) (rAddD X.K) := OpR.or op_add (OpR.or op_cat0 op_catT)
theorem od_add : OpD G (rAddD G.K) oAdd := by
  intro W w σ S x y dx dy res Q s rx ry h p
  cases rx <;> first | (cases h; done) | skip
  · rename_i i
    cases ry <;> first | (cases h; done) | skip
    rename_i j
    cases h
    exact .inl ⟨i, j, rfl, rfl, p.here s (.int _)⟩
  · rename_i a xs ds ha ra
    cases ry <;> first | (cases h; done) | skip
    rename_i b ys es hb rb
    have h' : lim (ds.length + es.length) (ret (.tup (ds ++ es))) S = some res := h
    obtain ⟨hl, h'⟩ := lim_some h'
    cases h'
    refine .inr ?_
    cases ra with
    | nil => exact .inl ⟨a, b, ys, rfl, rfl, ha.to, hb.to, p.here s (.tup hb rb)⟩
    | @cons v vs d ds' hv rv =>
      refine .inr ⟨a, b, v :: vs, ys, rfl, rfl, ha.to, hb.to, by simp, ?_, fun e => ?_, fun _ q hq => ?_⟩
      · rw [(RpAll.cons hv rv).length, rb.length]; exact big_le hl
      · subst e
        cases rb
        refine p.here s ?_
        rw [List.append_nil]
        exact .tup ha (.cons hv rv)
      · exact p.ok_ (.put hq) (s.put hq) (Rp.new_tup s hq ((RpAll.cons hv rv).append rb))
theorem d_add {a b : Expr} {fa fb : FE} {pos : Pos} (ha : DE X ξ W a fa) (hb : DE X ξ W b fb) : DE X ξ W (.BinOp a .Add b pos) (fOp oAdd fa fb) := d_op op_addD od_add ha hb
/-! ### other arithmetic -/
def oSub : DOp := oI fun i j => .int (i - j)
theorem d_sub {a b : Expr} {fa fb : FE} {pos : Pos} (ha : DE X ξ W a fa) (hb : DE X ξ W b fb) : DE X ξ W (.BinOp a .Sub b pos) (fOp oSub fa fb) := d_op op_sub (od_I fun _ _ _ => .int _) ha hb
def CM (i j : Int) : Prop := i.natAbs.log2 + j.natAbs.log2 < 1000000
instance (i j : Int) : Decidable (CM i j) := inferInstanceAs (Decidable (_ < _))
def oMul : DOp := oIC CM fun i j => .int (i * j)
theorem d_mul {a b : Expr} {fa fb : FE} {pos : Pos} (ha : DE X ξ W a fa) (hb : DE X ξ W b fb) : DE X ξ W (.BinOp a .Mult b pos) (fOp oMul fa fb) := d_op op_mulW (od_IC (fun _ _ h => h) fun _ _ _ => .int _) ha hb
def CD (_ j : Int) : Prop := 0 < j ∧ j.natAbs.log2 < 9000
instance (i j : Int) : Decidable (CD i j) := inferInstanceAs (Decidable (_ ∧ _))
def oDiv : DOp := oIC CD fun i j => .int (i / j)
theorem d_div {a b : Expr} {fa fb : FE} {pos : Pos} (ha : DE X ξ W a fa) (hb : DE X ξ W b fb) : DE X ξ W (.BinOp a .FloorDiv b pos) (fOp oDiv fa fb) := d_op op_fdivW (od_IC (fun _ _ h => h) fun _ _ _ => .int _) ha hb
def CO (_ j : Int) : Prop := 0 < j
instance (i j : Int) : Decidable (CO i j) := inferInstanceAs (Decidable (_ < _))
def oMod : DOp := oIC CO fun i j => .int (i % j)
theorem d_mod {a b : Expr} {fa fb : FE} {pos : Pos} (ha : DE X ξ W a fa) (hb : DE X ξ W b fb) : DE X ξ W (.BinOp a .Mod b pos) (fOp oMod fa fb) := d_op op_mod (od_IC (fun _ _ h => h) fun _ _ _ => .int _) ha hb
def CPw (i j : Int) : Prop := 0 ≤ j ∧ j ≤ 1000000 ∧ i.natAbs < 2 ^ 64
instance (i j : Int) : Decidable (CPw i j) := inferInstanceAs (Decidable (_ ∧ _ ∧ _))
def oPow : DOp := oIC CPw fun i j => .int (i ^ j.toNat)
theorem d_pow {a b : Expr} {fa fb : FE} {pos : Pos} (ha : DE X ξ W a fa) (hb : DE X ξ W b fb) : DE X ξ W (.BinOp a .Pow b pos) (fOp oPow fa fb) := d_op op_pow (od_IC (fun _ _ h => h) fun _ _ _ => .int _) ha hb
def oShl : DOp := oIC CPw fun i j => .int (i * 2 ^ j.toNat)
theorem d_shl {a b : Expr} {fa fb : FE} {pos : Pos} (ha : DE X ξ W a fa) (hb : DE X ξ W b fb) : DE X ξ W (.BinOp a .LShift b pos) (fOp oShl fa fb) := d_op op_shl (od_IC (fun _ _ h => h) fun _ _ _ => .int _) ha hb
def CN (_ j : Int) : Prop := 0 ≤ j
instance (i j : Int) : Decidable (CN i j) := inferInstanceAs (Decidable (_ ≤ _))
def oShr : DOp := oIC CN fun i j => .int (i / 2 ^ j.toNat)
theorem d_shr {a b : Expr} {fa fb : FE} {pos : Pos} (ha : DE X ξ W a fa) (hb : DE X ξ W b fb) : DE X ξ W (.BinOp a .RShift b pos) (fOp oShr fa fb) := d_op op_shr (od_IC (fun _ _ h => h) fun _ _ _ => .int _) ha hb
def oBAnd : DOp := oI fun i j => .int (Builtin.bitAnd i j)
theorem d_band {a b : Expr} {fa fb : FE} {pos : Pos} (ha : DE X ξ W a fa) (hb : DE X ξ W b fb) : DE X ξ W (.BinOp a .BitAnd b pos) (fOp oBAnd fa fb) := d_op op_and (od_I fun _ _ _ => .int _) ha hb
@[simp] def fUn (o : Dv → Mm Dv) (fa : FE) : FE := fun env => bnd (fa env) o
@[simp] def oNeg : Dv → Mm Dv
  | .int i => ret (.int (-i))
  | _ => stuck
theorem d_neg {a : Expr} {fa : FE} {pos : Pos} (ha : DE X ξ W a fa) : DE X ξ W (.UnaryOp .USub a pos) (fUn oNeg fa) := PE.imp (pe_un un_neg ha) fun σ H Q ⟨w, env, S, res, eH, s, en, h, p⟩ => by
  subst eH
  refine seqR s en h p.px fun x S1 v w1 e1 s1 en1 r1 h1 => ?_
  cases r1 <;> first | (cases h1; done) | skip
  cases h1
  exact ⟨_, rfl, p.ok_ e1 s1 (.int _)⟩

/-! ### comparisons -/
def oLt : DOp := oI fun i j => .bl (decide (i < j))
def oLe : DOp := oI fun i j => .bl (decide (i ≤ j))
def oGt : DOp := oI fun i j => .bl (decide (j < i))
def oGe : DOp := oI fun i j => .bl (decide (j ≤ i))
theorem od_lt : OpD G (rI0 fun i j => .bl (decide (i < j))) oLt := od_I fun _ _ _ => .bl _
theorem od_le : OpD G (rI0 fun i j => .bl (decide (i ≤ j))) oLe := od_I fun _ _ _ => .bl _
theorem od_gt : OpD G (rI0 fun i j => .bl (decide (j < i))) oGt := od_I fun _ _ _ => .bl _
theorem od_ge : OpD G (rI0 fun i j => .bl (decide (j ≤ i))) oGe := od_I fun _ _ _ => .bl _
/-- scalars of one kind, or one of them None -/
def eqS : Dv → Dv → Option Bool
  | .int i, .int j => some (decide (i = j))
  | .bl i, .bl j => some (decide (i = j))
  | .str i, .str j => some (decide (i = j))
  | .non, .non => some true
  | .non, .int _ => some false
  | .int _, .non => some false
  | .non, .bl _ => some false
  | .bl _, .non => some false
  | .non, .str _ => some false
  | .str _, .non => some false
  | _, _ => none
theorem dec_i {i j : Int} : decide (V.int i = V.int j) = decide (i = j) := by
  rw [Bool.eq_iff_iff]; simp
theorem dec_b {i j : Bool} : decide (V.bl i = V.bl j) = decide (i = j) := by
  rw [Bool.eq_iff_iff]; simp
theorem dec_s {i j : Str} : decide (V.str i = V.str j) = decide (i = j) := by
  rw [Bool.eq_iff_iff]; simp
theorem eqS_ok {w : Wd} {x y : V} {dx dy : Dv} {b : Bool} (rx : Rp G w x dx) (ry : Rp G w y dy) (h : eqS dx dy = some b) : scal x y = true ∧ decide (x = y) = b := by
  cases rx <;> first | (cases h; done) | skip
  all_goals (cases ry <;> first | (cases h; done) | skip)
  all_goals cases h
  all_goals (refine ⟨rfl, ?_⟩; first | exact dec_i | exact dec_b | exact dec_s | rfl | skip)
/-! data as a whole -/
mutual
def toPy : Dv → Option PyData
  | .non => some .none
  | .bl b => some (.bool b)
  | .int i => some (.int i)
  | .str x => some (.str x)
  | .tup xs => (toPys xs).map .tuple
  | .lst xs => (toPys xs).map .list
  | _ => none
def toPys : List Dv → Option (List PyData)
  | [] => some []
  | d :: r => match toPy d, toPys r with
    | some p, some q => some (p :: q)
    | _, _ => none
end
mutual
theorem dp_of {w : Wd} : ∀ (d : Dv) (v : V) (p : PyData), Rp G w v d → toPy d = some p → Dp G.K w.H v p
  | .non, v, p, r, h => by cases r; cases h; exact .non
  | .bl b, v, p, r, h => by cases r; cases h; exact .bl b
  | .int i, v, p, r, h => by cases r; cases h; exact .int i
  | .str x, v, p, r, h => by cases r; cases h; exact .str x
  | .tup xs, v, p, r, h => by
    unfold toPy at h
    cases q : toPys xs with
    | none => rw [q] at h; cases h
    | some ps =>
      rw [q] at h
      cases h
      cases r with
      | tup hs ra => exact .tup hs.to (dps_of xs _ ps ra q)
  | .lst xs, v, p, r, h => by
    unfold toPy at h
    cases q : toPys xs with
    | none => rw [q] at h; cases h
    | some ps =>
      rw [q] at h
      cases h
      cases r with
      | lst hs ra => exact .lst hs.to (dps_of xs _ ps ra q)
  | .obj _, _, _, _, h => by cases h
  | .ins _ _, _, _, _, h => by cases h
  | .dic _, _, _, _, h => by cases h
  | .dit _, _, _, _, h => by cases h
theorem dps_of {w : Wd} : ∀ (ds : List Dv) (vs : List V) (ps : List PyData), RpAll G w vs ds → toPys ds = some ps → DpAll G.K w.H vs ps
  | [], vs, ps, r, h => by cases r; cases h; exact .nil
  | d :: ds, vs, ps, r, h => by
    unfold toPys at h
    cases q : toPy d with
    | none => rw [q] at h; cases h
    | some p =>
      cases q2 : toPys ds with
      | none => rw [q, q2] at h; cases h
      | some qs =>
        rw [q, q2] at h
        cases h
        cases r with
        | cons hd ra => exact .cons (dp_of d _ p hd q) (dps_of ds _ qs ra q2)
end
/-- == of data: scalars first, then lists and tuples as a whole -/
def eqD (x y : Dv) : Option Bool := match eqS x y with
  | some b => some b
  | none => match toPy x, toPy y with
    | some p, some q => if SeqAt.shaped p = true ∧ SeqAt.shaped q = true then some (PyData.eqv p q) else none
    | _, _ => none
def oEq : DOp := fun x y => ofO ((eqD x y).map .bl)
def oNe : DOp := fun x y => ofO ((eqD x y).map fun b => .bl (!b))
def rEqA (K : PySem.W.Frag) : R2 := fun x y H Q => rEq x y H Q ∨ rEqD K x y H Q
def rNeA (K : PySem.W.Frag) : R2 := fun x y H Q => rNe x y H Q ∨ rNeD K x y H Q
theorem ofO_some {α : Type} {o : Option α} {S : Store} {r : Rs α} (h : ofO o S = some r) : ∃ a, o = some a ∧ r = .ok a S := by
  unfold ofO at h
  cases o with
  | none => cases h
  | some a => cases h; exact ⟨a, rfl, rfl⟩
theorem eqD_some {x y : Dv} {b : Bool} (h : eqD x y = some b) : eqS x y = some b ∨ ∃ p q, toPy x = some p ∧ toPy y = some q ∧ SeqAt.shaped p = true ∧ SeqAt.shaped q = true ∧ b = PyData.eqv p q := by
  unfold eqD at h
  cases e : eqS x y with
  | some b' => rw [e] at h; cases h; exact .inl rfl
  | none =>
    rw [e] at h
    cases e1 : toPy x with
    | none => rw [e1] at h; cases h
    | some p =>
      cases e2 : toPy y with
      | none => rw [e1, e2] at h; cases h
      | some q =>
        rw [e1, e2] at h
        have h' : (if SeqAt.shaped p = true ∧ SeqAt.shaped q = true then some (PyData.eqv p q) else none) = some b := h
        by_cases z : SeqAt.shaped p = true ∧ SeqAt.shaped q = true
        · rw [if_pos z] at h'
          cases h'
          exact .inr ⟨p, q, rfl, rfl, z.1, z.2, rfl⟩
        · rw [if_neg z] at h'
          cases h'
theorem od_eq : OpD G (rEqA G.K) oEq := by
  intro W w σ S x y dx dy res Q s rx ry h p
  obtain ⟨d, hd, rfl⟩ := ofO_some h
  cases e : eqD dx dy with
  | none => rw [e] at hd; cases hd
  | some b =>
    rw [e] at hd
    cases hd
    rcases eqD_some e with e | ⟨p1, q1, h1, h2, h3, h4, rfl⟩
    · obtain ⟨a1, a2⟩ := eqS_ok rx ry e
      exact .inl ⟨a1, by rw [a2]; exact p.here s (.bl b)⟩
    · exact .inr ⟨p1, q1, dp_of dx x p1 rx h1, dp_of dy y q1 ry h2, h3, h4, p.here s (.bl _)⟩
theorem od_ne : OpD G (rNeA G.K) oNe := by
  intro W w σ S x y dx dy res Q s rx ry h p
  obtain ⟨d, hd, rfl⟩ := ofO_some h
  cases e : eqD dx dy with
  | none => rw [e] at hd; cases hd
  | some b =>
    rw [e] at hd
    cases hd
    rcases eqD_some e with e | ⟨p1, q1, h1, h2, h3, h4, rfl⟩
    · obtain ⟨a1, a2⟩ := eqS_ok rx ry e
      exact .inl ⟨a1, by rw [a2]; exact p.here s (.bl _)⟩
    · exact .inr ⟨p1, q1, dp_of dx x p1 rx h1, dp_of dy y q1 ry h2, h3, h4, p.here s (.bl _)⟩
@[simp] def isNonD : Dv → Bool
  | .non => true
  | _ => false
theorem isNonD_ok {w : Wd} {x : V} {d : Dv} (r : Rp G w x d) : decide (x = V.non) = isNonD d := by
  cases r <;> rfl
@[simp] def oIs : DOp := fun x y => match y with
  | .non => ret (.bl (isNonD x))
  | _ => stuck
@[simp] def oNis : DOp := fun x y => match y with
  | .non => ret (.bl (!isNonD x))
  | _ => stuck
theorem od_is : OpD G (fun x y H Q => y = .non ∧ Q (.bl (decide (x = .non))) H) oIs := by
  intro W w σ S x y dx dy res Q s rx ry h p
  cases ry <;> first | (cases h; done) | skip
  cases h
  exact ⟨rfl, by rw [isNonD_ok rx]; exact p.here s (.bl _)⟩
theorem od_nis : OpD G (fun x y H Q => y = .non ∧ Q (.bl (!decide (x = .non))) H) oNis := by
  intro W w σ S x y dx dy res Q s rx ry h p
  cases ry <;> first | (cases h; done) | skip
  cases h
  exact ⟨rfl, by rw [isNonD_ok rx]; exact p.here s (.bl _)⟩
section
variable {a b : Expr} {fa fb : FE} {pos : Pos}
theorem d_lt (ha : DE X ξ W a fa) (hb : DE X ξ W b fb) : DE X ξ W (.Compare a [.Lt] [b] pos) (fOp oLt fa fb) := d_cmp op_lt od_lt ha hb (nomark _)
theorem d_le (ha : DE X ξ W a fa) (hb : DE X ξ W b fb) : DE X ξ W (.Compare a [.LtE] [b] pos) (fOp oLe fa fb) := d_cmp op_le od_le ha hb (nomark _)
theorem d_gt (ha : DE X ξ W a fa) (hb : DE X ξ W b fb) : DE X ξ W (.Compare a [.Gt] [b] pos) (fOp oGt fa fb) := d_cmp op_gt od_gt ha hb (nomark _)
theorem d_ge (ha : DE X ξ W a fa) (hb : DE X ξ W b fb) : DE X ξ W (.Compare a [.GtE] [b] pos) (fOp oGe fa fb) := d_cmp op_ge od_ge ha hb (nomark _)
theorem d_eq (hu : X.A.units + 64 < cLine) (ha : DE X ξ W a fa) (hb : DE X ξ W b fb) : DE X ξ W (.Compare a [.Eq] [b] pos) (fOp oEq fa fb) := d_cmp (OpR.or op_eq (op_eqD hu)) od_eq ha hb (nomark _)
theorem d_ne (hu : X.A.units + 64 < cLine) (ha : DE X ξ W a fa) (hb : DE X ξ W b fb) : DE X ξ W (.Compare a [.NotEq] [b] pos) (fOp oNe fa fb) := d_cmp (OpR.or op_ne (op_neD hu)) od_ne ha hb (nomark _)
theorem d_is (ha : DE X ξ W a fa) (hb : DE X ξ W b fb) : DE X ξ W (.Compare a [.Is] [b] pos) (fOp oIs fa fb) := d_cmp op_isN od_is ha hb (nomark _)
theorem d_nis (ha : DE X ξ W a fa) (hb : DE X ξ W b fb) : DE X ξ W (.Compare a [.IsNot] [b] pos) (fOp oNis fa fb) := d_cmp op_notN od_nis ha hb (nomark _)
theorem t_lt (ha : DE X ξ W a fa) (hb : DE X ξ W b fb) : DT X ξ W (.Compare a [.Lt] [b] pos) (fTest (fOp oLt fa fb)) := t_cmp op_lt od_lt ha hb (nomark _)
theorem t_le (ha : DE X ξ W a fa) (hb : DE X ξ W b fb) : DT X ξ W (.Compare a [.LtE] [b] pos) (fTest (fOp oLe fa fb)) := t_cmp op_le od_le ha hb (nomark _)
theorem t_gt (ha : DE X ξ W a fa) (hb : DE X ξ W b fb) : DT X ξ W (.Compare a [.Gt] [b] pos) (fTest (fOp oGt fa fb)) := t_cmp op_gt od_gt ha hb (nomark _)
theorem t_ge (ha : DE X ξ W a fa) (hb : DE X ξ W b fb) : DT X ξ W (.Compare a [.GtE] [b] pos) (fTest (fOp oGe fa fb)) := t_cmp op_ge od_ge ha hb (nomark _)
theorem t_eq (hu : X.A.units + 64 < cLine) (ha : DE X ξ W a fa) (hb : DE X ξ W b fb) : DT X ξ W (.Compare a [.Eq] [b] pos) (fTest (fOp oEq fa fb)) := t_cmp (OpR.or op_eq (op_eqD hu)) od_eq ha hb (nomark _)
theorem t_ne (hu : X.A.units + 64 < cLine) (ha : DE X ξ W a fa) (hb : DE X ξ W b fb) : DT X ξ W (.Compare a [.NotEq] [b] pos) (fTest (fOp oNe fa fb)) := t_cmp (OpR.or op_ne (op_neD hu)) od_ne ha hb (nomark _)
theorem t_is (ha : DE X ξ W a fa) (hb : DE X ξ W b fb) : DT X ξ W (.Compare a [.Is] [b] pos) (fTest (fOp oIs fa fb)) := t_cmp op_isN od_is ha hb (nomark _)
theorem t_nis (ha : DE X ξ W a fa) (hb : DE X ξ W b fb) : DT X ξ W (.Compare a [.IsNot] [b] pos) (fTest (fOp oNis fa fb)) := t_cmp op_notN od_nis ha hb (nomark _)
end
end
end FC

set_option Elab.async false
set_option linter.all false
set_option maxRecDepth 100000
namespace FC
open PySem PySem.Spec L2

section
variable {X : Cx} {ξ : Iv} {W : WX} {G : Gp}
/-! ### truth -/
@[simp] def tru (d : Dv) : Mm Bool := fun S => match d with
  | .non => some (.ok false S)
  | .bl b => some (.ok b S)
  | .int i => some (.ok (i != 0) S)
  | .str x => if x.length ≤ big then some (.ok ((x.length : Int) != 0) S) else none
  | .tup xs => some (.ok (!xs.isEmpty) S)
  | .lst xs => some (.ok (!xs.isEmpty) S)
  | .obj n => match S[n]? with
    | some (.lst xs) => some (.ok (!xs.isEmpty) S)
    | some (.dic xs) => some (.ok (!xs.isEmpty) S)
    | _ => none
  | _ => none
theorem isE_all {w : Wd} {vs : List V} {ds : List Dv} (r : RpAll G w vs ds) : vs.isEmpty = ds.isEmpty := by
  cases r <;> rfl
theorem isE_map {κ : Type} {w : Wd} {vs : List (κ × V)} {ds : List (κ × Dv)} (r : RpAll G w (vs.map Prod.snd) (ds.map Prod.snd)) : vs.isEmpty = ds.isEmpty := by
  cases vs <;> cases ds <;> first | rfl | cases r
theorem Rp.obj_at {w : Wd} {S : Store} {n : Nat} {a : Addr} {d : Dv} (s : SOk G w S) (h : w.as[n]? = some a) (hd : S[n]? = some d) : MOk G w a d := s.cont n a d h hd
theorem tru_ok' {w : Wd} {S : Store} {x : V} {d : Dv} {b : Bool} {S' : Store} (s : SOk G w S) (r : Rp G w x d) (h : tru d S = some (.ok b S')) : S' = S ∧ TruV G.K x w.H b := by
  cases r with
  | non => cases h; exact ⟨rfl, rfl⟩
  | bl b' => cases h; exact ⟨rfl, rfl⟩
  | int i => cases h; exact ⟨rfl, rfl⟩
  | str z =>
    have h' : (if z.length ≤ big then some (Rs.ok ((z.length : Int) != 0) S) else none) = some (Rs.ok b S') := h
    by_cases q : z.length ≤ big
    · rw [if_pos q] at h'; cases h'; exact ⟨rfl, big_le q, rfl⟩
    · rw [if_neg q] at h'; cases h'
  | tup ha ra => cases h; exact ⟨rfl, .inr (.inl ⟨_, ha.to, by rw [isE_all ra]⟩)⟩
  | lst ha ra => cases h; exact ⟨rfl, .inl ⟨_, ha.to, by rw [isE_all ra]⟩⟩
  | dic _ _ _ _ => cases h
  | @obj a n ha =>
    dsimp only [tru] at h
    cases e : S[n]? with
    | none => rw [e] at h; cases h
    | some d =>
      rw [e] at h
      have m := s.cont n a d ha e
      cases d <;> first | (cases h; done) | skip
      · obtain ⟨xs, h1, h2⟩ := m
        cases h
        exact ⟨rfl, .inl ⟨_, SqL.of h1, by rw [isE_all h2]⟩⟩
      · obtain ⟨xs, h1, _, h2⟩ := m
        cases h
        exact ⟨rfl, .inr (.inr ⟨_, h1, by rw [isE_map h2]⟩)⟩
  | dit _ _ _ _ => cases h
  | ins _ _ _ _ => cases h
  | cls _ => cases h
theorem tru_exc {d : Dv} {S S' : Store} {c : Str} {fs : List (Str × Dv)} (h : tru d S = some (.exc c fs S')) : False := by
  unfold tru at h
  split at h <;> first | (cases h; done) | skip
  · split at h <;> cases h
  · split at h <;> cases h
@[simp] def fTru (fa : FE) : FT := fun env => bnd (fa env) tru
theorem t_tru {a : Expr} {fa : FE} (ha : DE X ξ W a fa) (he : ∀ whole, isTrue a X.env whole = (do let v ← whole; standAt a.pos; holding [v] (truthy v)) := by intro _; rfl) : DT X ξ W a (fTru fa) :=
  PT.imp (pt_truth ha he) fun σ H Q ⟨w, env, S, res, eH, s, en, h, p⟩ => by
    subst eH
    refine seqR s en h p.px fun x S1 v w1 e1 s1 en1 r1 h1 => ?_
    cases res with
    | exc c fs S' => exact (tru_exc h1).elim
    | ok b S' =>
      obtain ⟨rfl, t⟩ := tru_ok' s1 r1 h1
      exact ⟨b, t, p.ok_ e1 s1 rfl⟩
/-! ### and, or, not -/
@[simp] def fAnd (fa fb : FT) : FT := fun env => bnd (fa env) fun c => if c = true then fb env else ret false
@[simp] def fOr (fa fb : FT) : FT := fun env => bnd (fa env) fun c => if c = true then ret true else fb env
@[simp] def fNot (fa : FT) : FT := fun env => bnd (fa env) fun c => ret (!c)
section
variable {a b : Expr} {rest : List Expr} {fa fb : FT} {pos : Pos}
theorem w_and1 (ha : DT X ξ W a fa) : DW X ξ W (.BoolOp .And [a] pos) fa := pw_and1 ha
theorem w_or1 (ha : DT X ξ W a fa) : DW X ξ W (.BoolOp .Or [a] pos) fa := pw_or1 ha
theorem t_of (h : DW X ξ W a fa) : DT X ξ W a fa := PW.pt h
theorem w_and (ha : DT X ξ W a fa) (hb : DW X ξ W (.BoolOp .And (b :: rest) pos) fb) : DW X ξ W (.BoolOp .And (a :: b :: rest) pos) (fAnd fa fb) :=
  PW.imp (pw_and ha hb) fun σ H Q ⟨w, env, S, res, eH, s, en, h, p⟩ => by
    subst eH
    refine seqR s en h p.px fun x S1 v w1 e1 s1 en1 r1 h1 => ?_
    cases (show v = x from r1)
    cases x with
    | true => exact ⟨w1, env, S1, res, rfl, s1, en1, h1, p.mono e1 s1⟩
    | false =>
      cases h1
      exact p.ok_ e1 s1 rfl
theorem w_or (ha : DT X ξ W a fa) (hb : DW X ξ W (.BoolOp .Or (b :: rest) pos) fb) : DW X ξ W (.BoolOp .Or (a :: b :: rest) pos) (fOr fa fb) :=
  PW.imp (pw_or ha hb) fun σ H Q ⟨w, env, S, res, eH, s, en, h, p⟩ => by
    subst eH
    refine seqR s en h p.px fun x S1 v w1 e1 s1 en1 r1 h1 => ?_
    cases (show v = x from r1)
    cases x with
    | false => exact ⟨w1, env, S1, res, rfl, s1, en1, h1, p.mono e1 s1⟩
    | true =>
      cases h1
      exact p.ok_ e1 s1 rfl
theorem t_not (ha : DT X ξ W a fa) : DT X ξ W (.UnaryOp .Not a pos) (fNot fa) :=
  PT.imp (pt_not ha) fun σ H Q ⟨w, env, S, res, eH, s, en, h, p⟩ => by
    subst eH
    refine seqR s en h p.px fun x S1 v w1 e1 s1 en1 r1 h1 => ?_
    cases (show v = x from r1)
    cases h1
    exact p.ok_ e1 s1 rfl
end
/-- as values, all but the last bools -/
@[simp] def fAndV (fa fb : FE) : FE := fun env => bnd (fa env) fun x => bnd (ofO (asB x)) fun c => if c = true then fb env else ret (.bl false)
@[simp] def fOrV (fa fb : FE) : FE := fun env => bnd (fa env) fun x => bnd (ofO (asB x)) fun c => if c = true then ret (.bl true) else fb env
@[simp] def fNotV (fa : FE) : FE := fun env => bnd (fa env) fun x => bnd (ofO (asB x)) fun c => ret (.bl (!c))
@[simp] def fIfE (ft : FT) (fa fb : FE) : FE := fun env => bnd (ft env) fun c => if c = true then fa env else fb env
theorem asB_bnd {α : Type} {w : Wd} {v : V} {d : Dv} {k : Bool → Mm α} {S : Store} {r : Rs α} (rv : Rp G w v d) (h : bnd (ofO (asB d)) k S = some r) : ∃ c, v = .bl c ∧ k c S = some r := by
  cases rv <;> first | (cases h; done) | skip
  rename_i b
  exact ⟨b, rfl, h⟩
section
variable {a b c : Expr} {rest : List Expr} {fa fb : FE} {ft : FT} {pos : Pos}
theorem d_one {op} (h : DE X ξ W a fa) : DE X ξ W (.BoolOp op [a] pos) fa := pe_one h
theorem d_and (ha : DE X ξ W a fa) (hb : DE X ξ W (.BoolOp .And (b :: rest) pos) fb) : DE X ξ W (.BoolOp .And (a :: b :: rest) pos) (fAndV fa fb) :=
  PE.imp (pe_and ha hb) fun σ H Q ⟨w, env, S, res, eH, s, en, h, p⟩ => by
    subst eH
    refine seqR s en h p.px fun x S1 v w1 e1 s1 en1 r1 h1 => ?_
    obtain ⟨k, rfl, h2⟩ := asB_bnd r1 h1
    refine ⟨k, rfl, ?_⟩
    cases k with
    | true => exact ⟨w1, env, S1, res, rfl, s1, en1, h2, p.mono e1 s1⟩
    | false =>
      cases h2
      exact p.ok_ e1 s1 (.bl false)
theorem d_or (ha : DE X ξ W a fa) (hb : DE X ξ W (.BoolOp .Or (b :: rest) pos) fb) : DE X ξ W (.BoolOp .Or (a :: b :: rest) pos) (fOrV fa fb) :=
  PE.imp (pe_or ha hb) fun σ H Q ⟨w, env, S, res, eH, s, en, h, p⟩ => by
    subst eH
    refine seqR s en h p.px fun x S1 v w1 e1 s1 en1 r1 h1 => ?_
    obtain ⟨k, rfl, h2⟩ := asB_bnd r1 h1
    refine ⟨k, rfl, ?_⟩
    cases k with
    | false => exact ⟨w1, env, S1, res, rfl, s1, en1, h2, p.mono e1 s1⟩
    | true =>
      cases h2
      exact p.ok_ e1 s1 (.bl true)
theorem d_not (ha : DE X ξ W a fa) : DE X ξ W (.UnaryOp .Not a pos) (fNotV fa) :=
  PE.imp (pe_not ha) fun σ H Q ⟨w, env, S, res, eH, s, en, h, p⟩ => by
    subst eH
    refine seqR s en h p.px fun x S1 v w1 e1 s1 en1 r1 h1 => ?_
    obtain ⟨k, rfl, h2⟩ := asB_bnd r1 h1
    cases h2
    exact ⟨k, rfl, p.ok_ e1 s1 (.bl _)⟩
theorem d_if (hc : DT X ξ W c ft) (ha : DE X ξ W a fa) (hb : DE X ξ W b fb) : DE X ξ W (.IfExp c a b pos) (fIfE ft fa fb) :=
  PE.imp (pe_ifExp hc ha hb) fun σ H Q ⟨w, env, S, res, eH, s, en, h, p⟩ => by
    subst eH
    refine seqR s en h p.px fun x S1 v w1 e1 s1 en1 r1 h1 => ?_
    cases (show v = x from r1)
    cases x with
    | true => exact ⟨w1, env, S1, res, rfl, s1, en1, h1, p.mono e1 s1⟩
    | false => exact ⟨w1, env, S1, res, rfl, s1, en1, h1, p.mono e1 s1⟩
end
/-- a bool's value as a test -/
theorem t_val {a : Expr} {fa : FE} (ha : DE X ξ W a fa) (he : ∀ whole, isTrue a X.env whole = (do let v ← whole; standAt a.pos; holding [v] (truthy v)) := by intro _; rfl) : DT X ξ W a (fTest fa) :=
  PT.imp (pt_val ha he) (test_body (fa := fa))

/-! ### arguments, calls of built-in functions -/
@[simp] def fNil : FA := fun _ => ret []
@[simp] def fCons (fa : FE) (fr : FA) : FA := fun env => bnd (fa env) fun x => bnd (fr env) fun xs => ret (x :: xs)
theorem a_nil : DA X ξ W [] fNil := PA.imp pa_nil fun σ H Q ⟨w, env, S, res, eH, s, en, h, p⟩ => by
  subst eH
  cases h
  exact p.here s .nil
theorem a_cons {e : Expr} {es : List Expr} {fa : FE} {fr : FA} (ha : DE X ξ W e fa) (hr : DA X ξ W es fr) (hs : starEach (e :: es) X.env = (false, eval e X.env) :: starEach es X.env := by rfl) : DA X ξ W (e :: es) (fCons fa fr) :=
  PA.imp (pa_cons ha hr hs) fun σ H Q ⟨w, env, S, res, eH, s, en, h, p⟩ => by
    subst eH
    refine seqR s en h p.px fun x S1 v w1 e1 s1 en1 r1 h1 => seqR s1 en1 h1 (p.px.mono e1 s1) fun xs S2 vs w2 e2 s2 en2 r2 h2 => ?_
    cases h2
    exact p.ok_ (e1.trans e2) s2 (.cons (r1.mono e2) r2)
abbrev DCl := List Dv → Mm Dv
def CallD (G : Gp) (r : List V → Hp → VK → Prop) (o : DCl) : Prop := ∀ (W : WX) (w : Wd) (σ : L2.St) (S : Store) (xs : List V) (ds : List Dv) (res : Rs Dv) (Q : VK), SOk G w S → RpAll G w xs ds → o ds S = some res → PR G W (Rp G) w σ res Q → r xs w.H Q
@[simp] def fCall (o : DCl) (fa : FA) : FE := fun env => bnd (fa env) o
theorem call_body {r : List V → Hp → VK → Prop} {o : DCl} {fa : FA} (hd : CallD G r o) : ∀ σ H Q, tD G ξ W (fCall o fa) σ H Q → tCB r (tDA G ξ W fa) σ H Q := fun σ H Q ⟨w, env, S, res, eH, s, en, h, p⟩ => by
  subst eH
  exact seqR s en h p.px fun x S1 v w1 e1 s1 en1 r1 h1 => hd W w1 σ S1 v x res Q s1 r1 h1 (p.mono e1 s1)
section
variable {x : Str} {p pos : Pos} {e : Expr} {es : List Expr} {fa : FA} {id T : String} {r : List V → Hp → VK → Prop} {o : DCl}
theorem d_callB (hc : CallR X (.builtin id) r) (hd : CallD (gp X) r o) (hm : X.mg x = none) (hv : bootBuiltins x = some (.builtin id)) (ha : DA X ξ W (e :: es) fa) (hg : Gl X x := by rfl) (hn : x ≠ "__name__" := by decide) (hdb : (x == ("__debug__" : Str)) = false := by decide)
    (he : starEach (e :: es) X.env = (false, eval e X.env) :: starEach es X.env := by rfl) (hpl : (backTo pos (starEach es X.env)).any (·.1) = false := by rfl) : DE X ξ W (.Call (.Name x p) (e :: es) [] pos) (fCall o fa) :=
  PE.imp (pe_callB hc hg hm hv ha hn hdb he hpl) (call_body hd)
theorem d_callTy (hc : CallR X (.type T) r) (hd : CallD (gp X) r o) (hm : X.mg x = none) (hv : bootBuiltins x = some (.type T)) (ha : DA X ξ W (e :: es) fa) (hg : Gl X x := by rfl) (hn : x ≠ "__name__" := by decide) (hdb : (x == ("__debug__" : Str)) = false := by decide)
    (he : starEach (e :: es) X.env = (false, eval e X.env) :: starEach es X.env := by rfl) (hpl : (backTo pos (starEach es X.env)).any (·.1) = false := by rfl) : DE X ξ W (.Call (.Name x p) (e :: es) [] pos) (fCall o fa) :=
  PE.imp (pe_callTy hc hg hm hv ha hn hdb he hpl) (call_body hd)
end
/-! what the built-in functions answer -/
/-- a list or tuple, also a named list -/
@[simp] def seqOf (d : Dv) (S : Store) : Option (List Dv) := match d with
  | .tup xs => some xs
  | .lst xs => some xs
  | .obj n => match S[n]? with
    | some (.lst xs) => some xs
    | _ => none
  | _ => none
theorem seqOf_ok {w : Wd} {S : Store} {v : V} {d : Dv} {ds : List Dv} (s : SOk G w S) (r : Rp G w v d) (h : seqOf d S = some ds) : ∃ a xs, v = .ref a ∧ (SqL G.K w.H a xs ∨ SqT G.K w.H a xs) ∧ RpAll G w xs ds := by
  cases r <;> first | (cases h; done) | skip
  · rename_i ha ra; cases h; exact ⟨_, _, rfl, .inr ha.to, ra⟩
  · rename_i ha ra; cases h; exact ⟨_, _, rfl, .inl ha.to, ra⟩
  · rename_i a n ha
    dsimp only [seqOf] at h
    cases e : S[n]? with
    | none => rw [e] at h; cases h
    | some d =>
      rw [e] at h
      have m := s.cont n a d ha e
      cases d <;> first | (cases h; done) | skip
      obtain ⟨xs, h1, h2⟩ := m
      cases h
      exact ⟨a, xs, rfl, .inl (SqL.of h1), h2⟩
@[simp] def oLen : DCl := fun ds S => match ds with
  | [d] => match seqOf d S with
    | some xs => some (.ok (.int xs.length) S)
    | none => none
  | _ => none
theorem cd_len : CallD G (fun xs H Q => ∃ p ys, xs = [.ref p] ∧ (SqL G.K H p ys ∨ SqT G.K H p ys) ∧ Q (.int ys.length) H) oLen := by
  intro W w σ S xs ds res Q s r h p
  cases r with
  | nil => cases h
  | cons h1 r1 =>
    cases r1 with
    | cons _ _ => cases h
    | nil =>
      rename_i v d
      have h' : (match seqOf d S with | some xs => some (Rs.ok (Dv.int xs.length) S) | none => none) = some res := h
      cases e : seqOf d S with
      | none => rw [e] at h'; cases h'
      | some ys =>
        rw [e] at h'
        cases h'
        obtain ⟨a, zs, rfl, hs, hr⟩ := seqOf_ok s h1 e
        exact ⟨a, zs, rfl, hs, by rw [hr.length]; exact p.here s (.int _)⟩
def oAbs : DCl := fun ds => match ds with
  | [.int i] => ret (.int (if i < 0 then -i else i))
  | _ => stuck
theorem rp1 {w : Wd} {xs : List V} {d : Dv} (r : RpAll G w xs [d]) : ∃ v, xs = [v] ∧ Rp G w v d := by
  cases r with
  | cons h1 r1 => cases r1; exact ⟨_, rfl, h1⟩
theorem rp2 {w : Wd} {xs : List V} {d e : Dv} (r : RpAll G w xs [d, e]) : ∃ v u, xs = [v, u] ∧ Rp G w v d ∧ Rp G w u e := by
  cases r with
  | cons h1 r1 =>
    obtain ⟨u, rfl, h2⟩ := rp1 r1
    exact ⟨_, _, rfl, h1, h2⟩
theorem cd_abs : CallD G (fun xs H Q => ∃ i, xs = [.int i] ∧ Q (.int (if i < 0 then -i else i)) H) oAbs := by
  intro W w σ S xs ds res Q s r h p
  unfold oAbs at h
  split at h
  · obtain ⟨v, rfl, h1⟩ := rp1 r
    cases h1
    cases h
    exact ⟨_, rfl, p.here s (.int _)⟩
  · cases h
def oInt1 : DCl := fun ds => match ds with
  | [.int i] => ret (.int i)
  | [.bl k] => ret (.int (if k then 1 else 0))
  | _ => stuck
theorem cd_int1 : CallD G (fun xs H Q => (∃ i, xs = [.int i] ∧ Q (.int i) H) ∨ ∃ k, xs = [.bl k] ∧ Q (.int (if k then 1 else 0)) H) oInt1 := by
  intro W w σ S xs ds res Q s r h p
  unfold oInt1 at h
  split at h
  · obtain ⟨v, rfl, h1⟩ := rp1 r
    cases h1
    cases h
    exact .inl ⟨_, rfl, p.here s (.int _)⟩
  · obtain ⟨v, rfl, h1⟩ := rp1 r
    cases h1
    cases h
    exact .inr ⟨_, rfl, p.here s (.int _)⟩
  · cases h
def oMin2 : DCl := fun ds => match ds with
  | [.int i, .int j] => ret (.int (if j < i then j else i))
  | _ => stuck
def oMax2 : DCl := fun ds => match ds with
  | [.int i, .int j] => ret (.int (if j > i then j else i))
  | _ => stuck
theorem cd_min2 : CallD G (fun xs H Q => ∃ i j, xs = [.int i, .int j] ∧ Q (.int (if j < i then j else i)) H) oMin2 := by
  intro W w σ S xs ds res Q s r h p
  unfold oMin2 at h
  split at h
  · obtain ⟨v, u, rfl, h1, h2⟩ := rp2 r
    cases h1; cases h2
    cases h
    exact ⟨_, _, rfl, p.here s (.int _)⟩
  · cases h
theorem cd_max2 : CallD G (fun xs H Q => ∃ i j, xs = [.int i, .int j] ∧ Q (.int (if j > i then j else i)) H) oMax2 := by
  intro W w σ S xs ds res Q s r h p
  unfold oMax2 at h
  split at h
  · obtain ⟨v, u, rfl, h1, h2⟩ := rp2 r
    cases h1; cases h2
    cases h
    exact ⟨_, _, rfl, p.here s (.int _)⟩
  · cases h
/-- the ints, the bools of a list of data -/
def asInts : List Dv → Option (List Int)
  | [] => some []
  | .int i :: r => (asInts r).map (i :: ·)
  | _ :: _ => none
def asBls : List Dv → Option (List Bool)
  | [] => some []
  | .bl i :: r => (asBls r).map (i :: ·)
  | _ :: _ => none
theorem asInts_eq : ∀ {ds : List Dv} {ns : List Int}, asInts ds = some ns → ds = ns.map Dv.int
  | [], ns, h => by cases h; rfl
  | .int i :: r, ns, h => by
    unfold asInts at h
    cases e : asInts r with
    | none => rw [e] at h; cases h
    | some ms =>
      rw [e] at h
      cases h
      rw [asInts_eq e]
      rfl
  | .non :: _, _, h => by cases h
  | .bl _ :: _, _, h => by cases h
  | .str _ :: _, _, h => by cases h
  | .tup _ :: _, _, h => by cases h
  | .lst _ :: _, _, h => by cases h
  | .obj _ :: _, _, h => by cases h
  | .ins _ _ :: _, _, h => by cases h
  | .dic _ :: _, _, h => by cases h
  | .dit _ :: _, _, h => by cases h
theorem asInts_map : ∀ ns : List Int, asInts (ns.map Dv.int) = some ns
  | [] => rfl
  | n :: ns => by
    show (asInts (ns.map Dv.int)).map (n :: ·) = _
    rw [asInts_map ns]
    rfl
theorem asBls_eq : ∀ {ds : List Dv} {ns : List Bool}, asBls ds = some ns → ds = ns.map Dv.bl
  | [], ns, h => by cases h; rfl
  | .bl i :: r, ns, h => by
    unfold asBls at h
    cases e : asBls r with
    | none => rw [e] at h; cases h
    | some ms =>
      rw [e] at h
      cases h
      rw [asBls_eq e]
      rfl
  | .non :: _, _, h => by cases h
  | .int _ :: _, _, h => by cases h
  | .str _ :: _, _, h => by cases h
  | .tup _ :: _, _, h => by cases h
  | .lst _ :: _, _, h => by cases h
  | .obj _ :: _, _, h => by cases h
  | .ins _ _ :: _, _, h => by cases h
  | .dic _ :: _, _, h => by cases h
  | .dit _ :: _, _, h => by cases h
theorem asBls_map : ∀ ns : List Bool, asBls (ns.map Dv.bl) = some ns
  | [] => rfl
  | n :: ns => by
    show (asBls (ns.map Dv.bl)).map (n :: ·) = _
    rw [asBls_map ns]
    rfl
/-- sum of a list or a tuple of ints -/
def rSumT (K : PySem.W.Frag) : List V → Hp → VK → Prop := fun vs H Q => ∃ (a : Addr) (ns : List Int), vs = [V.ref a] ∧ SqT K H a (ns.map V.int) ∧ Q (.int ns.sum) H
theorem cr_sumT (hc : X.calm = true) : CallR X (.builtin "sum") (rSumT X.K) := by
  intro pins s σ H vs us Q I r h
  obtain ⟨a, ns, rfl, hs, q⟩ := h
  obtain ⟨its, rv, hl, _⟩ := I.tuple hs
  have eu : us = [Value.ref a] := by
    cases r with
    | cons r t => cases t; cases r; rfl
  rw [eu]
  have hi : PyProof.Rows.IntsAre its ns := intsAre_of rv
  obtain ⟨xs, e⟩ := hi.allInts.items
  have hn : numsOf (intItems xs).toList = ns := by rw [← e]; exact hi.numsOf
  rw [nums_intItems] at hn
  have hl' : s.heap.IsTuple a its.toArray := hl
  rw [e] at hl'
  refine PySem.W.ktm_sumG (I.ok.hd hc) hl' fun h' tk t' hk => ?_
  rw [PySem.preSum_eq, List.take_of_length_le (by simp), hn]
  exact ⟨.int ns.sum, H, I.kept (t' := tk) hk, ⟨_, rfl⟩, q⟩
end
end FC

set_option Elab.async false
set_option linter.all false
set_option maxRecDepth 100000
namespace FC
open PySem PySem.Spec L2

section
variable {X : Cx} {ξ : Iv} {W : WX} {G : Gp}
theorem CallR.or {f : Value} {r r' : List V → Hp → VK → Prop} (h : CallR X f r) (h' : CallR X f r') : CallR X f (fun xs H Q => r xs H Q ∨ r' xs H Q) := by
  intro pins s σ H xs us Q I rv q
  rcases q with q | q
  · exact h pins s σ H xs us Q I rv q
  · exact h' pins s σ H xs us Q I rv q
/-- one list or tuple as the only argument -/
@[simp] def oSeq (k : List Dv → Mm Dv) : DCl := fun ds S => match ds with
  | [d] => match seqOf d S with
    | some xs => k xs S
    | none => none
  | _ => none
theorem oSeq_some {k : List Dv → Mm Dv} {ds : List Dv} {S : Store} {r : Rs Dv} (h : oSeq k ds S = some r) : ∃ d xs, ds = [d] ∧ seqOf d S = some xs ∧ k xs S = some r := by
  unfold oSeq at h
  split at h
  · rename_i d
    cases e : seqOf d S with
    | none => rw [e] at h; cases h
    | some xs => rw [e] at h; exact ⟨d, xs, rfl, e, h⟩
  · cases h
def oSum : DCl := oSeq fun xs => bnd (ofO (asInts xs)) fun ns => ret (.int ns.sum)
def oAll : DCl := oSeq fun xs => bnd (ofO (asBls xs)) fun ns => ret (.bl (ns.all id))
def oAny : DCl := oSeq fun xs => bnd (ofO (asBls xs)) fun ns => ret (.bl (ns.any id))
theorem bnd_ofO {α β : Type} {o : Option α} {k : α → Mm β} {S : Store} {r : Rs β} (h : bnd (ofO o) k S = some r) : ∃ a, o = some a ∧ k a S = some r := by
  cases o with
  | none => cases h
  | some a => exact ⟨a, rfl, h⟩
theorem cd_sum : CallD G (fun xs H Q => rSum G.K xs H Q ∨ rSumT G.K xs H Q) oSum := by
  intro W w σ S xs ds res Q s r h p
  obtain ⟨d, ys, rfl, hs, hk⟩ := oSeq_some h
  obtain ⟨ns, hn, hk⟩ := bnd_ofO hk
  cases hk
  obtain ⟨v, rfl, h1⟩ := rp1 r
  obtain ⟨a, zs, rfl, hz, hr⟩ := seqOf_ok s h1 hs
  rw [asInts_eq hn] at hr
  rw [hr.ints] at hz
  rcases hz with hz | hz
  · exact .inl ⟨a, ns, rfl, hz, p.here s (.int _)⟩
  · exact .inr ⟨a, ns, rfl, hz, p.here s (.int _)⟩
/-- all and any of a list alone -/
@[simp] def oSeqL (k : List Dv → Mm Dv) : DCl := fun ds S => match ds with
  | [.lst xs] => k xs S
  | [.obj n] => match S[n]? with
    | some (.lst xs) => k xs S
    | _ => none
  | _ => none
theorem oSeqL_some {w : Wd} {vs : List V} {k : List Dv → Mm Dv} {ds : List Dv} {S : Store} {r : Rs Dv} (s : SOk G w S) (rv : RpAll G w vs ds) (h : oSeqL k ds S = some r) : ∃ a xs ys, vs = [.ref a] ∧ SqL G.K w.H a ys ∧ RpAll G w ys xs ∧ k xs S = some r := by
  unfold oSeqL at h
  split at h
  · obtain ⟨v, rfl, h1⟩ := rp1 rv
    cases h1 with
    | lst ha ra => exact ⟨_, _, _, rfl, ha.to, ra, h⟩
  · rename_i n
    obtain ⟨v, rfl, h1⟩ := rp1 rv
    cases h1 with
    | obj ha =>
      split at h
      · rename_i xs e
        obtain ⟨ys, h1, h2⟩ := s.cont n _ _ ha e
        exact ⟨_, _, _, rfl, SqL.of h1, h2, h⟩
      · cases h
  · cases h
def oAllL : DCl := oSeqL fun xs => bnd (ofO (asBls xs)) fun ns => ret (.bl (ns.all id))
def oAnyL : DCl := oSeqL fun xs => bnd (ofO (asBls xs)) fun ns => ret (.bl (ns.any id))
theorem cd_all : CallD G (rAll G.K) oAllL := by
  intro W w σ S xs ds res Q s r h p
  obtain ⟨a, ys, zs, rfl, hz, hr, hk⟩ := oSeqL_some s r h
  obtain ⟨ns, hn, hk⟩ := bnd_ofO hk
  cases hk
  rw [asBls_eq hn] at hr
  rw [hr.bls] at hz
  exact ⟨a, ns, rfl, hz, p.here s (.bl _)⟩
theorem cd_any : CallD G (rAny G.K) oAnyL := by
  intro W w σ S xs ds res Q s r h p
  obtain ⟨a, ys, zs, rfl, hz, hr, hk⟩ := oSeqL_some s r h
  obtain ⟨ns, hn, hk⟩ := bnd_ofO hk
  cases hk
  rw [asBls_eq hn] at hr
  rw [hr.bls] at hz
  exact ⟨a, ns, rfl, hz, p.here s (.bl _)⟩
/-! ### tuple(..), list(..), displays -/
def oTuple : DCl := oSeq fun xs => ret (.tup xs)
theorem cd_tuple : CallD G (fun xs H Q => ∃ p ys, xs = [.ref p] ∧ ((SqL G.K H p ys ∧ ∀ l, H l = none → Q (.ref l) (upd H l (.tup ys))) ∨ (SqT G.K H p ys ∧ Q (.ref p) H))) oTuple := by
  intro W w σ S xs ds res Q s r h p
  obtain ⟨d, ys, rfl, hs, hk⟩ := oSeq_some h
  cases hk
  obtain ⟨v, rfl, h1⟩ := rp1 r
  cases h1 with
  | tup ha ra =>
    cases hs
    exact ⟨_, _, rfl, .inr ⟨ha.to, p.here s (.tup ha ra)⟩⟩
  | lst ha ra =>
    cases hs
    exact ⟨_, _, rfl, .inl ⟨ha.to, fun l hl => p.ok_ (.put hl) (s.put hl) (Rp.new_tup s hl ra)⟩⟩
  | obj ha =>
    obtain ⟨a, zs, e, hz, hr⟩ := seqOf_ok s (.obj ha) hs
    cases e
    rcases hz with hz | hz
    · exact ⟨_, _, rfl, .inl ⟨hz, fun l hl => p.ok_ (.put hl) (s.put hl) (Rp.new_tup s hl hr)⟩⟩
    · dsimp only [seqOf] at hs
      split at hs
      · rename_i xs e
        cases hs
        obtain ⟨us, h1, h2⟩ := s.cont _ _ _ ha e
        exact ⟨_, _, rfl, .inl ⟨SqL.of h1, fun l hl => p.ok_ (.put hl) (s.put hl) (Rp.new_tup s hl h2)⟩⟩
      · cases hs
  | _ => cases hs
/-- a new list that is never changed; one that has a name -/
@[simp] def newF (xs : List Dv) : Mm Dv := ret (.lst xs)
@[simp] def newM (xs : List Dv) : Mm Dv := fun S => some (.ok (.obj S.length) (S ++ [.lst xs]))
@[simp] def newL (m : Bool) (xs : List Dv) : Mm Dv := if m then newM xs else newF xs
theorem new_lst {w : Wd} {σ : L2.St} {S : Store} {m : Bool} {xs : List V} {ds : List Dv} {res : Rs Dv} {Q : VK} (s : SOk G w S) (r : RpAll G w xs ds) (h : newL m ds S = some res) (p : PR G W (Rp G) w σ res Q) : ∀ l, w.H l = none → Q (.ref l) (upd w.H l (.lst xs)) := fun l hl => by
  cases m with
  | false =>
    cases h
    exact p.ok_ (.put hl) (s.put hl) (Rp.new_lst s hl r)
  | true =>
    cases h
    exact p.ok_ (w' := w.add l (.lst xs)) (.add hl) (s.add hl ⟨xs, upd_same, r.mono (.add hl)⟩) (Rp.add_obj s)
@[simp] def oList (m : Bool) : DCl := oSeq (newL m)
theorem cd_list (m : Bool) : CallD G (fun xs H Q => ∃ p ys, xs = [.ref p] ∧ (SqL G.K H p ys ∨ SqT G.K H p ys) ∧ ∀ l, H l = none → Q (.ref l) (upd H l (.lst ys))) (oList m) := by
  intro W w σ S xs ds res Q s r h p
  obtain ⟨d, ys, rfl, hs, hk⟩ := oSeq_some h
  obtain ⟨v, rfl, h1⟩ := rp1 r
  obtain ⟨a, zs, rfl, hz, hr⟩ := seqOf_ok s h1 hs
  exact ⟨a, zs, rfl, hz, new_lst s hr hk p⟩
@[simp] def fTup (fa : FA) : FE := fun env => bnd (fa env) fun xs => lim xs.length (ret (.tup xs))
@[simp] def fLst (m : Bool) (fa : FA) : FE := fun env => bnd (fa env) fun xs => lim xs.length (newL m xs)
section
variable {es : List Expr} {fa : FA} {pos : Pos}
theorem d_tup {x1} (ha : DA X ξ W es fa) : DE X ξ W (.Tuple es x1 pos) (fTup fa) := PE.imp (pe_tup ha) fun σ H Q ⟨w, env, S, res, eH, s, en, h, p⟩ => by
  subst eH
  refine seqR s en h p.px fun xs S1 vs w1 e1 s1 en1 r1 h1 => ?_
  obtain ⟨hl, h1⟩ := lim_some h1
  cases h1
  exact ⟨by rw [r1.length]; exact big_le hl, fun q hq => p.ok_ (e1.trans (.put hq)) (s1.put hq) (Rp.new_tup s1 hq r1)⟩
theorem d_lst (m : Bool) (ha : DA X ξ W es fa) : DE X ξ W (.List es pos) (fLst m fa) := PE.imp (pe_lst ha) fun σ H Q ⟨w, env, S, res, eH, s, en, h, p⟩ => by
  subst eH
  refine seqR s en h p.px fun xs S1 vs w1 e1 s1 en1 r1 h1 => ?_
  obtain ⟨hl, h1⟩ := lim_some h1
  exact ⟨by rw [r1.length]; exact big_le hl, new_lst s1 r1 h1 (p.mono e1 s1)⟩
end
/-! ### subscripts, slices -/
@[simp] def oIx : DOp := fun x i S => match i with
  | .int i => match seqOf x S with
    | some xs => match atI xs i with
      | some d => some (.ok d S)
      | none => none
    | none => none
  | _ => none
theorem atI_ok {w : Wd} {xs : List V} {ds : List Dv} {i : Int} {d : Dv} (r : RpAll G w xs ds) (h : atI ds i = some d) : ∃ v, atI xs i = some v ∧ Rp G w v d := by
  unfold atI at h ⊢
  rw [r.length]
  cases e : ixN ds.length i with
  | none => rw [e] at h; cases h
  | some j =>
    rw [e] at h
    exact r.get h
theorem IxR.or {r r' : R2} (h : IxR X r) (h' : IxR X r') : IxR X (fun x y H Q => r x y H Q ∨ r' x y H Q) := by
  intro value slice pins s σ H x y v u Q I rx ry q hs
  rcases q with q | q
  · exact h value slice pins s σ H x y v u Q I rx ry q hs
  · exact h' value slice pins s σ H x y v u Q I rx ry q hs
theorem od_ix : OpD G (fun x y H Q => rIxL G.K x y H Q ∨ rIxT G.K x y H Q) oIx := by
  intro W w σ S x y dx dy res Q s rx ry h p
  unfold oIx at h
  split at h
  · rename_i i
    cases ry
    split at h
    · rename_i xs e
      split at h
      · rename_i d e2
        cases h
        obtain ⟨a, zs, rfl, hz, hr⟩ := seqOf_ok s rx e
        obtain ⟨v, hv, rv⟩ := atI_ok hr e2
        rcases hz with hz | hz
        · exact .inl ⟨a, zs, i, v, rfl, rfl, hz, hv, p.here s rv⟩
        · exact .inr ⟨a, zs, i, v, rfl, rfl, hz, hv, p.here s rv⟩
      · cases h
    · cases h
  · cases h
theorem d_ix {a b : Expr} {fa fb : FE} {pos : Pos} (ha : DE X ξ W a fa) (hb : DE X ξ W b fb) (hs : PlainIx b := by intro _ _; rfl) : DE X ξ W (.Subscript a b pos) (fOp oIx fa fb) :=
  PE.imp (pe_ix (IxR.or ix_list ix_tup) ha hb hs) (op_body od_ix)
/-- an optional bound of a slice -/
abbrev FO := DEnv → Mm (Option Int)
@[simp] def fNo : FO := fun _ => ret none
@[simp] def asI : Dv → Option Int
  | .int i => some i
  | _ => none
@[simp] def fSo (fa : FE) : FO := fun env => bnd (fa env) fun x => bnd (ofO (asI x)) fun i => ret (some i)
def RO (_ : Wd) (a b : Option Int) : Prop := a = b
def DO (X : Cx) (ξ : Iv) (W : WX) (e : Option Expr) (f : FO) : Prop := PO X e (tG (gp X) ξ W RO f)
theorem PO.imp {e : Option Expr} {t t' : TO} (h : PO X e t) (i : ∀ σ H Q, t' σ H Q → t σ H Q) : PO X e t' := ⟨fun pins s σ H Q I q => h.run pins s σ H Q I (i σ H Q q)⟩
theorem o_none : DO X ξ W none fNo := PO.imp po_none fun σ H Q ⟨w, env, S, res, eH, s, en, h, p⟩ => by
  subst eH
  cases h
  exact p.here s rfl
theorem o_some {e : Expr} {fa : FE} (ha : DE X ξ W e fa) : DO X ξ W (some e) (fSo fa) := PO.imp (po_some ha) fun σ H Q ⟨w, env, S, res, eH, s, en, h, p⟩ => by
  subst eH
  refine seqR s en h p.px fun x S1 v w1 e1 s1 en1 r1 h1 => ?_
  obtain ⟨i, hi, h2⟩ := bnd_ofO h1
  cases r1 <;> first | (cases hi; done) | skip
  cases hi
  cases h2
  exact ⟨_, rfl, p.ok_ e1 s1 rfl⟩
def cutD (xs : List Dv) (lo hi : Option Int) : List Dv := (xs.drop (HT.sIx xs.length 0 lo)).take (HT.sIx xs.length xs.length hi - HT.sIx xs.length 0 lo)
theorem cut_ok {w : Wd} {xs : List V} {ds : List Dv} {lo hi : Option Int} (r : RpAll G w xs ds) : RpAll G w (cutV xs lo hi) (cutD ds lo hi) := by
  unfold cutV cutD
  rw [r.length]
  exact (r.drop _).take _
/-- a slice: of a tuple (not the whole of it) a tuple, of a list a new list -/
@[simp] def oSl (m : Bool) (x : Dv) (lo hi : Option Int) : Mm Dv := fun S => match x with
  | .tup xs => some (.ok (.tup (cutD xs lo hi)) S)
  | .lst xs => newL m (cutD xs lo hi) S
  | .obj n => match S[n]? with
    | some (.lst xs) => newL m (cutD xs lo hi) S
    | _ => none
  | _ => none
@[simp] def fSl (m : Bool) (fa : FE) (fl fh : FO) : FE := fun env => bnd (fa env) fun x => bnd (fl env) fun lo => bnd (fh env) fun hi => oSl m x lo hi
theorem d_slice (m : Bool) {e : Expr} {lo hi : Option Expr} {fa : FE} {fl fh : FO} {p2 pos : Pos} (ha : DE X ξ W e fa) (hl : DO X ξ W lo fl) (hh : DO X ξ W hi fh) : DE X ξ W (.Subscript e (.Slice lo hi none p2) pos) (fSl m fa fl fh) :=
  PE.imp (pe_slice (SlR.or sl_tupA sl_list) ha hl hh) fun σ H Q ⟨w, env, S, res, eH, s, en, h, p⟩ => by
    subst eH
    refine seqR s en h p.px fun x S1 v w1 e1 s1 en1 r1 h1 => seqR s1 en1 h1 (p.px.mono e1 s1) fun lo S2 lo' w2 e2 s2 en2 q2 h2 => seqR s2 en2 h2 (p.px.mono (e1.trans e2) s2) fun hi S3 hi' w3 e3 s3 en3 q3 h3 => ?_
    cases (show lo' = lo from q2)
    cases (show hi' = hi from q3)
    have e13 := (e1.trans e2).trans e3
    have rx := (r1.mono e2).mono e3
    unfold oSl at h3
    cases rx <;> first | (cases h3; done) | skip
    · rename_i a xs ds ha ra
      dsimp only at h3
      cases h3
      refine .inl ⟨a, xs, rfl, ha.to, fun z => ?_, fun _ q hq => p.ok_ (e13.trans (.put hq)) (s3.put hq) (Rp.new_tup s3 hq (cut_ok ra))⟩
      rw [ra.length] at z
      have hz : cutD ds lo hi = ds := by unfold cutD; rw [z.1, z.2]; simp
      exact p.ok_ e13 s3 (hz.symm ▸ Rp.tup ha ra)
    · rename_i a xs ds ha ra
      exact .inr ⟨a, xs, rfl, ha.to, new_lst s3 (cut_ok ra) h3 (p.mono e13 s3)⟩
    · rename_i a n ha
      dsimp only at h3
      split at h3
      · rename_i ds e
        obtain ⟨xs, h1, h2⟩ := s3.cont n _ _ ha e
        exact .inr ⟨a, xs, rfl, SqL.of h1, new_lst s3 (cut_ok h2) h3 (p.mono e13 s3)⟩
      · cases h3
end
end FC

set_option Elab.async false
set_option linter.all false
set_option maxRecDepth 100000
namespace FC
open PySem PySem.Spec PyProof.Rows L2
/-! ### enumerate(t), t a tuple -/
def IteT (K : PySem.W.Frag) (a : Addr) : It :=
  ⟨fun i H => ∃ (xs : List V) (x : V), SqT K H a xs ∧ xs[i]? = some x, fun i H v H' => ∃ T x, v = .ref T ∧ H T = none ∧ H' = upd H T (.tup [.int (i : Nat), x]) ∧ ∀ xs, SqT K H a xs → xs[i]? = some x, fun i H => ∃ xs : List V, SqT K H a xs ∧ xs.length ≤ i⟩
theorem turn_enumT {P : Program} {w : World} {K : PySem.W.Frag} {elts : List Expr} {kk : Nat} {tpos : Pos} (a e it : Addr) :
    Turn P w K (.Tuple elts kk tpos) (IteT K a) [e, it] e (fun i h => (∃ old, IsEnum h e it ((i : Nat) : Int) old) ∧ h.IsTupleIter it a i ∧ e ≠ it ∧ e ≠ a ∧ a ≠ it) where
  mem := by simp
  obj := fun i h st b hb => by
    obtain ⟨⟨old, he⟩, ⟨o, ho, hc, hd⟩, _⟩ := st
    have e' : b = e ∨ b = it := by simpa using hb
    rcases e' with z | z
    · rw [z]; exact ⟨_, he, fun v q => nomatch q⟩
    · rw [z]; exact ⟨o, ho, fun v q => by rw [hd] at q; cases q⟩
  keep := fun i h h' st k => let ⟨⟨old, he⟩, hi, hne⟩ := st; ⟨⟨old, k e (by simp) _ he⟩, hi.at fun o q => k it (by simp) o q, hne⟩
  item := by
    intro X hP hw hK hc i pins s σ H E I hf st hg
    subst hP hw hK
    obtain ⟨⟨old, he⟩, hit, hne, hea, hai⟩ := st
    obtain ⟨xs, x, hq, hx⟩ := hg
    obtain ⟨its, rv, p, hz⟩ := I.tuple hq
    have hel : e < s.heap.objs.size := Heap.lt_size he
    have hil : it < s.heap.objs.size := by obtain ⟨_, q, _⟩ := hit; exact Heap.lt_size q
    have hlt : i < its.toArray.size := by
      have := (List.getElem?_eq_some_iff.mp hx).1
      rw [List.size_toArray, ← rv.length]
      exact this
    have pt : s.heap.IsTuple a its.toArray := p
    refine wpAny_pyNext_enum_itemD (Draws.tuple (prog := X.prog) (w := X.w) (A := X.A.in1) (I.ok.hd hc) it a hai its.toArray) he ⟨hit, pt⟩ hlt hne (by simp [hne, hea]) fun u h' tk hu ho hit' hT hsz hk => ?_
    have hu' : its[i]? = some u := by simpa using hu
    have ru : RelV x u := by
      obtain ⟨u2, hu2, r2⟩ := rv.get hx
      rw [hu2] at hu'
      cases hu'
      exact r2
    refine ⟨_, rfl, wpAny_letOwnedTupleGo_enum (s := { s with heap := h', toks := tk + 1 }) ho fun h'' he' sb => ?_⟩
    have hT2 : h''.get? s.heap.objs.size = some { cls := .type "tuple", data := .seq #[.int i tk, u] } := (sb.2 _ (Nat.ne_of_gt hel)).trans hT
    have new : ObjOk X.prog X.w (upd H s.heap.objs.size (.tup [.int (i : Nat), x])) h'' s.heap.objs.size (.tup [.int (i : Nat), x]) :=
      ⟨by show 2 ≤ sizeLine; decide, [.int i tk, u], .cons ⟨_, rfl⟩ (.cons ru .nil), ⟨_, hT2, rfl, _, rfl⟩⟩
    have I1 : Inv X pins σ (upd H s.heap.objs.size (.tup [.int (i : Nat), x])) { s with heap := h'', toks := tk + 1 } :=
      I.turnedNew (ch := [e, it]) (fun b ob hb q => (sb.2 b (fun z => hb (by simp [z]))).trans (hk b ob (fun z => hb (by simp [z])) (fun z => hb (by simp [z])) q)) hf (Nat.le_refl _) new
    refine ⟨.ref s.heap.objs.size, _, I1, rfl, ⟨_, x, rfl, I.hok.fresh (Nat.le_refl _), rfl, fun ys hy => by rw [I.tuple_inj hy hq]; exact hx⟩, ⟨⟨u, ?_⟩, hit'.1.at fun o q => (sb.2 it (Ne.symm hne)).trans q, hne, hea, hai⟩, fun b hb => ?_⟩
    · have e1 : ((i + 1 : Nat) : Int) = (i : Int) + 1 := by omega
      rw [e1]; exact he'
    · have hb' : b < s.heap.objs.size := by
        have e' : b = e ∨ b = it := by simpa using hb
        rcases e' with z | z
        · rw [z]; exact hel
        · rw [z]; exact hil
      rw [upd_ne (Nat.ne_of_lt hb')]
      exact (hf b hb).1
  done := by
    intro X hP hw hK hc i pins s σ H E I hf st hg
    subst hP hw hK
    obtain ⟨⟨old, he⟩, hit, hne, hea, hai⟩ := st
    obtain ⟨xs, hq, hx⟩ := hg
    obtain ⟨its, rv, p, hz⟩ := I.tuple hq
    have pt : s.heap.IsTuple a its.toArray := p
    obtain ⟨f0, f1, f2, f3, f4, f5⟩ := hf it (by simp)
    have hl := rv.length
    have hT : s.TypeIs (.ref e) "enumerate" := ⟨_, he, rfl⟩
    unfold pyNext
    refine wpAny_bind (wpAny_attempt (wpAny_callSpecial?_slot (name := Str.ofString "__next__") hT F.slot_enumerate_next
      (wpAny_call_entry F.slot_enumerate_next hT F.entry_enumerate_next ?_ (F.args_enumerate_next_1 _))))
    show wpAny _ _ (field (.ref e) 2 >>= _) _ _ _
    refine wpAny_bind (wpAny_field he rfl (x := .ref it) rfl ?_)
    refine wpAny_bind (wpAny_nextOf_tuple_end (A := X.A.in1) (I.ok.hd hc) hit pt (by simp; omega) fun h' x he' hx' => ?_)
    obtain ⟨o, ho, hc'⟩ := hx'
    refine wpAny_bind (wpAny_isInstance (T := "StopIteration") (b := true) ⟨o, ho, hc'⟩ isSubtype_stop ?_)
    exact wpAny_pure ⟨rfl, I.turned (t' := s.toks) (fun b o hb q => he' b o hb q) f0 f1 f3 f4 f5⟩
  self := fun A i s Q E st h => let ⟨⟨_, he⟩, _⟩ := st; wpAny_pyIter_enum he h
set_option maxHeartbeats 1000000 in
theorem meets_enumerate_newT (l : Addr) (items : Array Value) :
    Meets (Builtin.«enumerate.__new__» ⟨[.type "enumerate", .ref l], []⟩) (fun _ R s => s.heap.IsTuple l items ∧
      R (.ok (.ret (.ref (s.heap.push { cls := .type "tuple_iterator", data := .fields #[.ref l, .int 0 0] }).objs.size)))
        { s with heap := (s.heap.push { cls := .type "tuple_iterator", data := .fields #[.ref l, .int 0 0] }).push { cls := .type "enumerate", data := .fields #[.none, .bool false, .ref s.heap.objs.size, rawInt 0, .none, .none] } }) :=
  .of_wp fun prog w A R s h => by
    obtain ⟨hp, g, d, tk, os⟩ := s; obtain ⟨h1, h⟩ := h
    have hsub := sub_enumerate
    have q1 : ∀ {A' : Around} {E : Value → Shared → Prop} {Q : Value → Shared → Prop}, Q (.ref hp.objs.size) ⟨hp.push { cls := .type "tuple_iterator", data := .fields #[.ref l, .int 0 0] }, g, d, tk, os⟩ → wpAny (model prog w) A' (pyIter (.ref l)) Q E ⟨hp, g, d, tk, os⟩ :=
      fun q => wpAny_pyIter_tuple h1 q
    wp_walk using q1
    refine wpAny_stack_any fun st => wpAny_pure ?_
    split
    · rename_i c _ _ _ _ _
      cases (c == Value.type "enumerate")
      · wp_walk using q1
        exact ⟨_, rfl, h⟩
      · wp_walk using q1
        exact ⟨_, rfl, h⟩
    · wp_walk using q1
      exact ⟨_, rfl, h⟩
theorem call_enumerate_tuple {prog : Program} {w : World} {A : Around} {E : Value → Shared → Prop} {s : Shared} {l : Addr} {items : Array Value} {Q : Value → Shared → Prop} (hL : s.heap.IsTuple l items)
    (h : ∀ h', IsEnum h' (s.heap.objs.size + 1) s.heap.objs.size 0 .none → h'.IsTupleIter s.heap.objs.size l 0 → h'.objs.size = s.heap.objs.size + 2 →
      (∀ b o, s.heap.get? b = some o → h'.get? b = some o) → Q (.ref (s.heap.objs.size + 1)) { s with heap := h' }) :
    wpAny (model prog w) A (call (.type "enumerate") [.ref l]) Q E s := by
  refine callType_new F.called_enumerate (by decide) (F.typeCall_enumerate_1 _) (F.newCall_enumerate_1 _) (fun obj => F.args_object_init_2 obj _) F.entry_enumerate_new
    (meets_enumerate_newT l items) ⟨hL, ?_⟩
  have hz : (s.heap.push { cls := .type "tuple_iterator", data := .fields #[.ref l, .int 0 0] }).objs.size = s.heap.objs.size + 1 := Heap.size_push ..
  show _ ∧ _
  rw [hz]
  have he : IsEnum ((s.heap.push { cls := .type "tuple_iterator", data := .fields #[.ref l, .int 0 0] }).push
      { cls := .type "enumerate", data := .fields #[.none, .bool false, .ref s.heap.objs.size, rawInt 0, .none, .none] }) (s.heap.objs.size + 1) s.heap.objs.size 0 .none := by
    have := Heap.get?_push_size (s.heap.push { cls := .type "tuple_iterator", data := .fields #[.ref l, .int 0 0] })
      (o := { cls := .type "enumerate", data := .fields #[.none, .bool false, .ref s.heap.objs.size, rawInt 0, .none, .none] }) rfl
    rw [hz] at this; exact this
  refine ⟨⟨_, he, rfl⟩, h _ he ⟨_, Heap.get?_push_of_some _ (Heap.get?_push_size _ rfl), rfl, rfl⟩ (by rw [Heap.size_push, hz]) fun b o x => Heap.get?_push_of_some _ (Heap.get?_push_of_some _ x)⟩
/-- enumerate of a list or of a tuple -/
def iEnumA (K : PySem.W.Frag) (ta : TA) : TI := fun σ H R => ta σ H fun vs H1 => ∃ a xs, vs = [.ref a] ∧ ((SqL K H1 a xs ∧ R (Ite K a) H1) ∨ (SqT K H1 a xs ∧ R (IteT K a) H1))
theorem pi_enumA {X : Cx} {e : Expr} {ta : TA} {p pos tpos : Pos} {elts : List Expr} {kk : Nat} (hg : Gl X "enumerate") (hm : X.mg "enumerate" = none) (ha : PA X [e] ta) (hs : starEach [e] X.env = [(false, eval e X.env)] := by rfl) :
    PI X (.Tuple elts kk tpos) (.Call (.Name "enumerate" p) [e] [] pos) (iEnumA X.K ta) := by
  refine ⟨fun pins s σ H R I h => ?_⟩
  refine Call_ (ld_blt I hg hm boot_enumerate (PyProof.Rows.callWith_type1 (thn (ha.run pos pins s σ H _ I h) fun us s1 ⟨vs, H1, I1, r1, q1⟩ => ?_) hs rfl))
  obtain ⟨a, xs, ex, q⟩ := q1
  subst ex
  have fp : ∀ b ∈ [s1.heap.objs.size + 1, s1.heap.objs.size], FpOk X pins H1 b := fun b hb => by
    have e' : b = s1.heap.objs.size + 1 ∨ b = s1.heap.objs.size := by simpa using hb
    have hle : s1.heap.objs.size ≤ b := by
      rcases e' with z | z
      · rw [z]; exact Nat.le_add_right _ _
      · rw [z]; exact Nat.le_refl _
    exact I1.fpOk hle (I1.hok.fresh hle)
  cases r1 with
  | cons r rr =>
    cases rr
    cases r
    rcases q with ⟨hq, q⟩ | ⟨hq, q⟩
    · obtain ⟨its, rv, p', hz⟩ := I1.list hq
      refine call_enumerate_list p'.isList fun h' he hit hsz hk => wpAny_pyIter_enum he ?_
      have I2 : Inv X pins σ H1 { s1 with heap := h' } := I1.kept (t' := s1.toks) hk
      exact ⟨s1.heap.objs.size + 1, [s1.heap.objs.size + 1, s1.heap.objs.size], _, _, H1, rfl, I2, turn_enum a (s1.heap.objs.size + 1) s1.heap.objs.size, ⟨⟨.none, he⟩, hit, Nat.succ_ne_self _⟩, fp, q⟩
    · obtain ⟨its, rv, p', hz⟩ := I1.tuple hq
      have pt : s1.heap.IsTuple a its.toArray := p'
      have hla : a < s1.heap.objs.size := by obtain ⟨_, q, _⟩ := pt; exact Heap.lt_size q
      refine call_enumerate_tuple pt fun h' he hit hsz hk => wpAny_pyIter_enum he ?_
      have I2 : Inv X pins σ H1 { s1 with heap := h' } := I1.kept (t' := s1.toks) hk
      exact ⟨s1.heap.objs.size + 1, [s1.heap.objs.size + 1, s1.heap.objs.size], _, _, H1, rfl, I2, turn_enumT a (s1.heap.objs.size + 1) s1.heap.objs.size, ⟨⟨.none, he⟩, hit, Nat.succ_ne_self _, Nat.ne_of_gt (Nat.lt_succ_of_lt hla), Nat.ne_of_lt hla⟩, fp, q⟩
end FC

set_option Elab.async false
set_option linter.all false
set_option maxRecDepth 100000
namespace FC
open PySem PySem.Spec L2

section
variable {X : Cx} {ξ : Iv} {W : WX} {G : Gp}
/-! ### what is walked -/
/-- in every later world the walk yields ds, one after the other -/
def ItOk (G : Gp) (w : Wd) (J : It) (ds : List Dv) : Prop := ∀ w2 S2, Ext w w2 → SOk G w2 S2 →
  (∀ i, i < ds.length → J.go i w2.H) ∧ J.stop ds.length w2.H ∧
    ∀ i d x H', ds[i]? = some d → J.yld i w2.H x H' → ∃ w3, w3.H = H' ∧ Ext w2 w3 ∧ SOk G w3 S2 ∧ Rp G w3 x d
theorem ItOk.mono {w w1 : Wd} {J : It} {ds : List Dv} (e : Ext w w1) (h : ItOk G w J ds) : ItOk G w1 J ds := fun w2 S2 e2 s2 => h w2 S2 (e.trans e2) s2
abbrev FI := DEnv → Mm (List Dv)
def tI (G : Gp) (ξ : Iv) (W : WX) (f : FI) : TI := tG G ξ W (fun w J ds => ItOk G w J ds) f
def DI (X : Cx) (ξ : Iv) (W : WX) (tg iter : Expr) (f : FI) : Prop := PI X tg iter (tI (gp X) ξ W f)
theorem PI.imp {tg e : Expr} {t t' : TI} (h : PI X tg e t) (i : ∀ σ H Q, t' σ H Q → t σ H Q) : PI X tg e t' := ⟨fun pins s σ H Q I q => h.run pins s σ H Q I (i σ H Q q)⟩
/-- a list or a tuple that nothing changes -/
@[simp] def frozen : Dv → Option (List Dv)
  | .tup xs => some xs
  | .lst xs => some xs
  | _ => none
@[simp] def fIt (fa : FE) : FI := fun env => bnd (fa env) fun x => ofO (frozen x)
theorem it_list {w : Wd} {a : Addr} {xs : List V} {ds : List Dv} (ha : SqLM G w a xs) (ra : RpAll G w xs ds) : ItOk G w (Itl G.K a) ds := fun w2 S2 e2 s2 => by
  have ha2 := (ha.mono e2).to
  have ra2 := ra.mono e2
  refine ⟨fun i hi => ?_, ⟨xs, ha2, by rw [ra.length]; exact Nat.le_refl _⟩, fun i d x H' hd hy => ?_⟩
  · have hx : i < xs.length := by rw [ra.length]; exact hi
    exact ⟨xs, xs[i], ha2, List.getElem?_eq_getElem hx⟩
  · obtain ⟨rfl, hx⟩ := hy
    obtain ⟨v, h1, h2⟩ := ra2.get hd
    rw [hx xs ha2] at h1
    cases h1
    exact ⟨w2, rfl, Ext.refl _, s2, h2⟩
theorem it_tup {w : Wd} {a : Addr} {xs : List V} {ds : List Dv} (ha : SqTM G w a xs) (ra : RpAll G w xs ds) : ItOk G w (Itt G.K a) ds := fun w2 S2 e2 s2 => by
  have ha2 := (ha.mono e2).to
  have ra2 := ra.mono e2
  refine ⟨fun i hi => ?_, ⟨xs, ha2, by rw [ra.length]; exact Nat.le_refl _⟩, fun i d x H' hd hy => ?_⟩
  · have hx : i < xs.length := by rw [ra.length]; exact hi
    exact ⟨xs, xs[i], ha2, List.getElem?_eq_getElem hx⟩
  · obtain ⟨rfl, hx⟩ := hy
    obtain ⟨v, h1, h2⟩ := ra2.get hd
    rw [hx xs ha2] at h1
    cases h1
    exact ⟨w2, rfl, Ext.refl _, s2, h2⟩
/-- a walked list; a walked tuple: which one is told by the rule -/
def frL : Dv → Option (List Dv)
  | .lst xs => some xs
  | _ => none
def frT : Dv → Option (List Dv)
  | .tup xs => some xs
  | _ => none
def fItL (fa : FE) : FI := fun env => bnd (fa env) fun x => ofO (frL x)
def fItT (fa : FE) : FI := fun env => bnd (fa env) fun x => ofO (frT x)
section
variable {tg e : Expr} {fa : FE}
theorem PI.or {t t' : TI} (h : PI X tg e t) (h' : PI X tg e t') : PI X tg e (fun σ H R => t σ H R ∨ t' σ H R) := ⟨fun pins s σ H R I q => by
  rcases q with q | q
  · exact h.run pins s σ H R I q
  · exact h'.run pins s σ H R I q⟩
theorem i_list (ha : DE X ξ W e fa) (hl : PI X tg e (iList X.K (tD (gp X) ξ W fa)) := by exact pi_list ‹_›) : DI X ξ W tg e (fItL fa) := PI.imp hl fun σ H R ⟨w, env, S, res, eH, s, en, h, p⟩ => by
  subst eH
  refine seqR s en h p.px fun x S1 v w1 e1 s1 en1 r1 h1 => ?_
  obtain ⟨ds, hd, rfl⟩ := ofO_some h1
  cases r1 <;> first | (cases hd; done) | skip
  rename_i a xs ds' ha ra
  cases hd
  exact ⟨a, rfl, ⟨xs, ha.to⟩, p.ok_ e1 s1 (it_list ha ra)⟩
theorem i_tup (ha : DE X ξ W e fa) (hl : PI X tg e (iTup X.K (tD (gp X) ξ W fa)) := by exact pi_tup ‹_›) : DI X ξ W tg e (fItT fa) := PI.imp hl fun σ H R ⟨w, env, S, res, eH, s, en, h, p⟩ => by
  subst eH
  refine seqR s en h p.px fun x S1 v w1 e1 s1 en1 r1 h1 => ?_
  obtain ⟨ds, hd, rfl⟩ := ofO_some h1
  cases r1 <;> first | (cases hd; done) | skip
  rename_i a xs ds' ha ra
  cases hd
  exact ⟨a, rfl, ⟨xs, ha.to⟩, p.ok_ e1 s1 (it_tup ha ra)⟩
end
/-- range -/
def upTo (lo : Int) (n : Nat) : List Int := (List.range n).map fun i => lo + (i : Nat)
theorem it_rng {w : Wd} {lo : Int} {n : Nat} : ItOk G w (Itr lo n) ((upTo lo n).map Dv.int) := fun w2 S2 e2 s2 => by
  have hl : ((upTo lo n).map Dv.int).length = n := by simp [upTo]
  refine ⟨fun i hi => by rw [hl] at hi; exact hi, by rw [hl]; exact Nat.le_refl _, fun i d x H' hd hy => ?_⟩
  obtain ⟨rfl, rfl⟩ := hy
  have hi : i < n := by
    have := (List.getElem?_eq_some_iff.mp hd).1
    rw [hl] at this
    exact this
  have : d = .int (lo + (i : Nat)) := by
    unfold upTo at hd
    rw [List.map_map, List.getElem?_map, List.getElem?_range hi] at hd
    cases hd
    rfl
  subst this
  exact ⟨w2, rfl, Ext.refl _, s2, .int _⟩
def rngOk (i : Int) : Prop := i.natAbs ≤ 1000000000000000000
instance (i : Int) : Decidable (rngOk i) := inferInstanceAs (Decidable (_ ≤ _))
theorem rngOk.to {i : Int} (h : rngOk i) : -(2 ^ 62) ≤ i ∧ i < 2 ^ 62 := by unfold rngOk at h; omega
def rng1 (ds : List Dv) : Mm (List Dv) := match ds with
  | [.int j] => if rngOk j then ret ((upTo 0 j.toNat).map Dv.int) else stuck
  | _ => stuck
def rng2 (ds : List Dv) : Mm (List Dv) := match ds with
  | [.int i, .int j] => if rngOk i ∧ rngOk j then ret ((upTo i (j - i).toNat).map Dv.int) else stuck
  | _ => stuck
@[simp] def fRng1 (fa : FA) : FI := fun env => bnd (fa env) rng1
@[simp] def fRng2 (fa : FA) : FI := fun env => bnd (fa env) rng2
section
variable {tg e e2 : Expr} {es elts : List Expr} {kk : Nat} {fa : FA} {p pos tpos : Pos}
theorem i_rng1 (hm : X.mg "range" = none) (ha : DA X ξ W [e] fa) (hg : Gl X "range" := by rfl) (hs : starEach [e] X.env = [(false, eval e X.env)] := by rfl) : DI X ξ W tg (.Call (.Name "range" p) [e] [] pos) (fRng1 fa) := PI.imp (pi_range1 hg hm ha hs) fun σ H R ⟨w, env, S, res, eH, s, en, h, p⟩ => by
  subst eH
  refine seqR s en h p.px fun ds S1 vs w1 e1 s1 en1 rv h1 => ?_
  unfold rng1 at h1
  split at h1
  · rename_i j
    obtain ⟨v, rfl, hv⟩ := rp1 rv
    cases hv
    by_cases z : rngOk j
    · rw [if_pos z] at h1
      cases h1
      exact ⟨j, rfl, z.to.1, z.to.2, p.ok_ e1 s1 it_rng⟩
    · rw [if_neg z] at h1; cases h1
  · cases h1
theorem i_rng2 (hm : X.mg "range" = none) (ha : DA X ξ W [e, e2] fa) (hg : Gl X "range" := by rfl) (hs : starEach [e, e2] X.env = [(false, eval e X.env), (false, eval e2 X.env)] := by rfl) (hs2 : starEach [e2] X.env = [(false, eval e2 X.env)] := by rfl) : DI X ξ W tg (.Call (.Name "range" p) [e, e2] [] pos) (fRng2 fa) := PI.imp (pi_range2 hg hm ha hs hs2) fun σ H R ⟨w, env, S, res, eH, s, en, h, p⟩ => by
  subst eH
  refine seqR s en h p.px fun ds S1 vs w1 e1 s1 en1 rv h1 => ?_
  unfold rng2 at h1
  split at h1
  · rename_i i j
    obtain ⟨v, u, rfl, hv, hu⟩ := rp2 rv
    cases hv
    cases hu
    by_cases z : rngOk i ∧ rngOk j
    · rw [if_pos z] at h1
      cases h1
      exact ⟨i, j, rfl, ⟨z.1.to.1, z.1.to.2, z.2.to.1, z.2.to.2⟩, p.ok_ e1 s1 it_rng⟩
    · rw [if_neg z] at h1; cases h1
  · cases h1
/-- enumerate, zip: pairs -/
def pairs : List Dv → List Dv → List Dv
  | x :: xs, y :: ys => .tup [x, y] :: pairs xs ys
  | _, _ => []
theorem pairs_len : ∀ xs ys : List Dv, (pairs xs ys).length = min xs.length ys.length
  | [], _ => by simp [pairs]
  | _ :: _, [] => by simp [pairs]
  | x :: xs, y :: ys => by
    show (pairs xs ys).length + 1 = min (xs.length + 1) (ys.length + 1)
    rw [pairs_len xs ys]
    omega
theorem pairs_at : ∀ (xs ys : List Dv) (i : Nat) (d : Dv), (pairs xs ys)[i]? = some d → ∃ x y, xs[i]? = some x ∧ ys[i]? = some y ∧ d = .tup [x, y]
  | [], _, _, _, h => by simp [pairs] at h
  | _ :: _, [], _, _, h => by simp [pairs] at h
  | x :: xs, y :: ys, 0, d, h => by
    have e : Dv.tup [x, y] = d := Option.some.inj h
    exact ⟨x, y, rfl, rfl, e.symm⟩
  | x :: xs, y :: ys, i + 1, d, h => by
    obtain ⟨a, b, h1, h2, h3⟩ := pairs_at xs ys i d h
    exact ⟨a, b, h1, h2, h3⟩
def numbered (xs : List Dv) : List Dv := pairs ((upTo 0 xs.length).map Dv.int) xs
theorem upTo_len (lo : Int) (n : Nat) : (upTo lo n).length = n := by simp [upTo]
theorem upTo_at {lo : Int} {n i : Nat} (h : i < n) : (upTo lo n)[i]? = some (lo + (i : Nat)) := by
  unfold upTo
  rw [List.getElem?_map, List.getElem?_range h]
  rfl
theorem numbered_len (xs : List Dv) : (numbered xs).length = xs.length := by
  unfold numbered
  rw [pairs_len, List.length_map, upTo_len]
  omega
theorem numbered_at {xs : List Dv} {i : Nat} {d : Dv} (h : (numbered xs)[i]? = some d) : ∃ x, xs[i]? = some x ∧ d = .tup [.int (i : Nat), x] := by
  obtain ⟨a, b, h1, h2, h3⟩ := pairs_at _ _ _ _ h
  have hi : i < xs.length := (List.getElem?_eq_some_iff.mp h2).1
  rw [List.getElem?_map, upTo_at hi] at h1
  cases h1
  refine ⟨b, h2, ?_⟩
  rw [h3]
  show Dv.tup [Dv.int (0 + (i : Nat)), b] = _
  rw [Int.zero_add]
@[simp] def fEnum (fa : FA) : FI := fun env => bnd (fa env) fun ds => match ds with
  | [d] => bnd (ofO (frozen d)) fun xs => ret (numbered xs)
  | _ => stuck
@[simp] def fZip (fa : FA) : FI := fun env => bnd (fa env) fun ds => match ds with
  | [.tup xs, .tup ys] => ret (pairs xs ys)
  | [.lst xs, .lst ys] => ret (pairs xs ys)
  | _ => stuck
theorem new_pair {w : Wd} {S : Store} {T : Addr} {x y : V} {dx dy : Dv} (s : SOk G w S) (hT : w.H T = none) (rx : Rp G w x dx) (ry : Rp G w y dy) : ∃ w3, w3.H = upd w.H T (.tup [x, y]) ∧ Ext w w3 ∧ SOk G w3 S ∧ Rp G w3 (.ref T) (.tup [dx, dy]) :=
  ⟨w.put T (.tup [x, y]), rfl, .put hT, s.put hT, Rp.new_tup s hT (.cons rx (.cons ry .nil))⟩
theorem i_enum (hm : X.mg "enumerate" = none) (ha : DA X ξ W [e] fa) (hg : Gl X "enumerate" := by rfl) (hs : starEach [e] X.env = [(false, eval e X.env)] := by rfl) : DI X ξ W (.Tuple elts kk tpos) (.Call (.Name "enumerate" p) [e] [] pos) (fEnum fa) := PI.imp (pi_enumA hg hm ha hs) fun σ H R ⟨w, env, S, res, eH, s, en, h, p⟩ => by
  subst eH
  refine seqR s en h p.px fun ds S1 vs w1 e1 s1 en1 rv h1 => ?_
  split at h1
  · rename_i d
    obtain ⟨xs, hx, h2⟩ := bnd_ofO h1
    cases h2
    obtain ⟨v, rfl, hv⟩ := rp1 rv
    cases hv with
    | @tup a vs _ ha ra =>
      cases hx
      refine ⟨a, vs, rfl, .inr ⟨ha.to, p.ok_ e1 s1 fun w2 S2 e2 s2 => ?_⟩⟩
      have ha2 := (ha.mono e2).to
      have ra2 := ra.mono e2
      refine ⟨fun i hi => ?_, ⟨vs, ha2, by rw [ra.length, numbered_len]; exact Nat.le_refl _⟩, fun i d x H' hd hy => ?_⟩
      · rw [numbered_len] at hi
        have hx : i < vs.length := by rw [ra.length]; exact hi
        exact ⟨vs, vs[i], ha2, List.getElem?_eq_getElem hx⟩
      · obtain ⟨T, y, rfl, hT, rfl, hf⟩ := hy
        obtain ⟨z, hz, rfl⟩ := numbered_at hd
        obtain ⟨u, h3, h4⟩ := ra2.get hz
        rw [hf vs ha2] at h3
        cases h3
        exact new_pair s2 hT (.int _) h4
    | @lst a vs _ ha ra =>
      cases hx
      refine ⟨a, vs, rfl, .inl ⟨ha.to, p.ok_ e1 s1 fun w2 S2 e2 s2 => ?_⟩⟩
      have ha2 := (ha.mono e2).to
      have ra2 := ra.mono e2
      refine ⟨fun i hi => ?_, ⟨vs, ha2, by rw [ra.length, numbered_len]; exact Nat.le_refl _⟩, fun i d x H' hd hy => ?_⟩
      · rw [numbered_len] at hi
        have hx : i < vs.length := by rw [ra.length]; exact hi
        exact ⟨vs, vs[i], ha2, List.getElem?_eq_getElem hx⟩
      · obtain ⟨T, y, rfl, hT, rfl, hf⟩ := hy
        obtain ⟨z, hz, rfl⟩ := numbered_at hd
        obtain ⟨u, h3, h4⟩ := ra2.get hz
        rw [hf vs ha2] at h3
        cases h3
        exact new_pair s2 hT (.int _) h4
    | _ => cases hx
  · cases h1
theorem i_zip (hm : X.mg "zip" = none) (ha : DA X ξ W [e, e2] fa) (hg : Gl X "zip" := by rfl) (hs : starEach [e, e2] X.env = (false, eval e X.env) :: starEach [e2] X.env := by rfl) (hpl : (backTo pos (starEach [e2] X.env)).any (·.1) = false := by rfl) : DI X ξ W (.Tuple elts kk tpos) (.Call (.Name "zip" p) [e, e2] [] pos) (fZip fa) := PI.imp (RZ.pi_zipA hg hm ha hs hpl) fun σ H R ⟨w, env, S, res, eH, s, en, h, p⟩ => by
  subst eH
  refine seqR s en h p.px fun ds S1 vs w1 e1 s1 en1 rv h1 => ?_
  have stop : ∀ {xs ys : List V} {ds es : List Dv}, RpAll (gp X) w1 xs ds → RpAll (gp X) w1 ys es → xs.length ≤ (pairs ds es).length ∨ ys.length ≤ (pairs ds es).length := fun {xs ys ds es} h1 h2 => by
    rw [pairs_len, h1.length, h2.length]
    omega
  split at h1
  · rename_i xs ys
    cases h1
    obtain ⟨v, u, rfl, hv, hu⟩ := rp2 rv
    cases hv with
    | @tup a us _ ha ra =>
      cases hu with
      | @tup b ts _ hb rb =>
        refine ⟨a, b, us, ts, rfl, .inr ⟨ha.to, hb.to, p.ok_ e1 s1 fun w2 S2 e2 s2 => ?_⟩⟩
        have ha2 := (ha.mono e2).to
        have hb2 := (hb.mono e2).to
        refine ⟨fun i hi => ?_, ⟨us, ts, ha2, hb2, stop ra rb⟩, fun i d x H' hd hy => ?_⟩
        · rw [pairs_len] at hi
          have hx : i < us.length := by rw [ra.length]; omega
          have hy : i < ts.length := by rw [rb.length]; omega
          exact ⟨us, ts, us[i], ts[i], ha2, hb2, List.getElem?_eq_getElem hx, List.getElem?_eq_getElem hy⟩
        · obtain ⟨T, y, z, rfl, hT, rfl, hf, hg'⟩ := hy
          obtain ⟨dx, dy, q1, q2, rfl⟩ := pairs_at _ _ _ _ hd
          obtain ⟨v1, h3, h4⟩ := (ra.mono e2).get q1
          obtain ⟨v2, h5, h6⟩ := (rb.mono e2).get q2
          rw [hf us ha2] at h3
          rw [hg' ts hb2] at h5
          cases h3
          cases h5
          exact new_pair s2 hT h4 h6
  · rename_i xs ys
    cases h1
    obtain ⟨v, u, rfl, hv, hu⟩ := rp2 rv
    cases hv with
    | @lst a us _ ha ra =>
      cases hu with
      | @lst b ts _ hb rb =>
        refine ⟨a, b, us, ts, rfl, .inl ⟨ha.to, hb.to, p.ok_ e1 s1 fun w2 S2 e2 s2 => ?_⟩⟩
        have ha2 := (ha.mono e2).to
        have hb2 := (hb.mono e2).to
        refine ⟨fun i hi => ?_, ⟨us, ts, ha2, hb2, stop ra rb⟩, fun i d x H' hd hy => ?_⟩
        · rw [pairs_len] at hi
          have hx : i < us.length := by rw [ra.length]; omega
          have hy : i < ts.length := by rw [rb.length]; omega
          exact ⟨us, ts, us[i], ts[i], ha2, hb2, List.getElem?_eq_getElem hx, List.getElem?_eq_getElem hy⟩
        · obtain ⟨T, y, z, rfl, hT, rfl, hf, hg'⟩ := hy
          obtain ⟨dx, dy, q1, q2, rfl⟩ := pairs_at _ _ _ _ hd
          obtain ⟨v1, h3, h4⟩ := (ra.mono e2).get q1
          obtain ⟨v2, h5, h6⟩ := (rb.mono e2).get q2
          rw [hf us ha2] at h3
          rw [hg' ts hb2] at h5
          cases h3
          cases h5
          exact new_pair s2 hT h4 h6
  · cases h1
end
end
end FC

set_option Elab.async false
set_option linter.all false
set_option maxRecDepth 100000
namespace FC
open PySem PySem.Spec L2
/-! ### the least that keeps what is told of data -/
structure Wk (w w' : Wd) : Prop where
  as : ∀ (n : Nat) (a : Addr), w.as[n]? = some a → w'.as[n]? = some a
  nM : ∀ a o, w.H a = some o → ¬ w.M a → ¬ w'.M a
  keep : ∀ a o, ¬ w.M a → w.H a = some o → w'.H a = some o ∨ (IsDc o ∧ ∃ od, w'.H a = some (.frz od o))
theorem Wk.kp {w w' : Wd} (e : Wk w w') {a : Addr} {o : HO} (hd : ¬ IsDc o) (n : ¬ w.M a) (h : w.H a = some o) : w'.H a = some o := by
  rcases e.keep a o n h with q | q
  · exact q
  · exact absurd q.1 hd
theorem Ext.wk {w w' : Wd} (e : Ext w w') : Wk w w' := ⟨fun _ _ h => e.as_of h, e.nM, fun a o n h => (e.keep a o (fun z => n (.inr z)) h).imp id fun q => ⟨q.1, q.2.2⟩⟩
theorem Less.wk {w w' : Wd} (e : Less w w') : Wk w w' := ⟨e.as, fun a o _ n z => n (e.M a z), fun a o _ h => .inl (by rw [e.H]; exact h)⟩
theorem Wk.rd {w w' : Wd} (e : Wk w w') {a : Addr} {u : HO} (h : Rd w.H a u) (n : ¬ w.M a) : Rd w'.H a u ∧ ¬ w'.M a := by
  rcases h with h | ⟨o, h⟩
  · rcases e.keep _ _ n h with q | ⟨_, od, q⟩
    · exact ⟨.inl q, e.nM _ _ h n⟩
    · exact ⟨.inr ⟨od, q⟩, e.nM _ _ h n⟩
  · exact ⟨.inr ⟨o, e.kp id n h⟩, e.nM _ _ h n⟩
mutual
theorem Rp.wk {G : Gp} {w w' : Wd} (e : Wk w w') : ∀ {v : V} {d : Dv}, Rp G w v d → Rp G w' v d
  | _, _, .non => .non
  | _, _, .bl b => .bl b
  | _, _, .int i => .int i
  | _, _, .str x => .str x
  | _, _, .cls c => .cls c
  | _, _, .tup h r => .tup (by
      rcases h with h | h
      · exact .inl ⟨e.kp id h.2 h.1, e.nM _ _ h.1 h.2⟩
      · exact .inr h) (RpAll.wk e r)
  | _, _, .lst h r => .lst (by
      rcases h with h | h
      · exact .inl (e.rd h.1 h.2)
      · exact .inr h) (RpAll.wk e r)
  | _, _, .obj h => .obj (e.as _ _ h)
  | _, _, .ins h n q r => .ins (e.kp id n h) (e.nM _ _ h n) q (RpAll.wk e r)
  | _, _, .dic h n q r => .dic (e.rd h n).1 (e.rd h n).2 q (RpAll.wk e r)
  | _, _, .dit h n q r => .dit (e.rd h n).1 (e.rd h n).2 q (RpAll.wk e r)
theorem RpAll.wk {G : Gp} {w w' : Wd} (e : Wk w w') : ∀ {vs : List V} {ds : List Dv}, RpAll G w vs ds → RpAll G w' vs ds
  | _, _, .nil => .nil
  | _, _, .cons h r => .cons (Rp.wk e h) (RpAll.wk e r)
end
theorem MOk.wk {G : Gp} {w w' : Wd} (e : Wk w w') {a : Addr} {d : Dv} (hk : w'.H a = w.H a) (h : MOk G w a d) : MOk G w' a d := by
  cases d <;> first | exact h.elim | skip
  · obtain ⟨xs, h, r⟩ := h; exact ⟨xs, hk.trans h, r.wk e⟩
  · obtain ⟨dx, fs', h, q, r⟩ := h; exact ⟨dx, fs', hk.trans h, q, r.wk e⟩
  · obtain ⟨kvs', h, q, r⟩ := h; exact ⟨kvs', hk.trans h, q, r.wk e⟩
  · obtain ⟨kvs', h, q, r⟩ := h; exact ⟨kvs', hk.trans h, q, r.wk e⟩

section
variable {X : Cx} {ξ : Iv} {W : WX} {G : Gp}
/-! ### targets -/
abbrev Bd := Dv → DEnv → Option DEnv
def gD (G : Gp) (ξ : Iv) (sl : List Nat) (b : Bd) : TG := fun v σ H Q => ∃ (w : Wd) (S : Store) (env : DEnv) (d : Dv) (env' : DEnv), w.H = H ∧ SOk G w S ∧ EOk G ξ w σ env ∧ Rp G w v d ∧ b d env = some env' ∧
  ∀ σ', EOk G ξ w σ' env' → (∀ vs : List Nat, (∀ i ∈ sl, i ∈ vs) → wipe σ' vs = wipe σ vs) → Q σ' w.H
def gDs (G : Gp) (ξ : Iv) (sl : List Nat) (b : List Dv → DEnv → Option DEnv) : TGs := fun vs σ H Q => ∃ (w : Wd) (S : Store) (env : DEnv) (ds : List Dv) (env' : DEnv), w.H = H ∧ SOk G w S ∧ EOk G ξ w σ env ∧ RpAll G w vs ds ∧ b ds env = some env' ∧
  ∀ σ', EOk G ξ w σ' env' → (∀ vs : List Nat, (∀ i ∈ sl, i ∈ vs) → wipe σ' vs = wipe σ vs) → Q σ' w.H
def DG (X : Cx) (ξ : Iv) (tg : Expr) (sl : List Nat) (b : Bd) : Prop := PG X tg (gD (gp X) ξ sl b)
def DGs (X : Cx) (ξ : Iv) (tg : List Expr) (sl : List Nat) (b : List Dv → DEnv → Option DEnv) : Prop := PGs X tg (gDs (gp X) ξ sl b)
theorem PG.imp {e : Expr} {t t' : TG} (h : PG X e t) (i : ∀ v σ H Q, t' v σ H Q → t v σ H Q) : PG X e t' := ⟨fun pins s σ H v u Q I r q => h.run pins s σ H v u Q I r (i v σ H Q q)⟩
theorem PGs.imp {e : List Expr} {t t' : TGs} (h : PGs X e t) (i : ∀ v σ H Q, t' v σ H Q → t v σ H Q) : PGs X e t' := ⟨fun pins s σ H v u Q I r q => h.run pins s σ H v u Q I r (i v σ H Q q)⟩
theorem wipe_set {σ : L2.St} {i : Nat} {x y : Option V} : ∀ {vs : List Nat}, i ∈ vs → wipe (σ.set i x) vs = wipe σ vs
  | [], h => by cases h
  | v :: vs, h => by
    show (wipe (σ.set i x) vs).set v none = (wipe σ vs).set v none
    by_cases q : i ∈ vs
    · rw [wipe_set (y := y) q]
    · have e : i = v := by
        rcases List.mem_cons.mp h with z | z
        · exact z
        · exact absurd z q
      subst e
      have c : ∀ ws : List Nat, i ∉ ws → wipe (σ.set i x) ws = (wipe σ ws).set i x := by
        intro ws
        induction ws with
        | nil => intro _; rfl
        | cons u us ih =>
          intro hu
          show (wipe (σ.set i x) us).set u none = ((wipe σ us).set u none).set i x
          rw [ih (fun z => hu (List.mem_cons_of_mem _ z))]
          exact List.set_comm _ _ (fun z => hu (by rw [z]; exact List.mem_cons_self))
      rw [c vs q, List.set_set]
theorem wipe_wipe (σ : L2.St) : ∀ vs us : List Nat, (∀ v ∈ vs, v ∈ us) → wipe (wipe σ vs) us = wipe σ us
  | [], us, _ => rfl
  | v :: vs, us, h => by
    show wipe ((wipe σ vs).set v none) us = _
    rw [wipe_set (y := none) (h v List.mem_cons_self)]
    exact wipe_wipe σ vs us fun z hz => h z (List.mem_cons_of_mem _ hz)
@[simp] def bName (i : Nat) : Bd := fun d env => some (env.set i (some d))
@[simp] def bNil : List Dv → DEnv → Option DEnv := fun ds env => match ds with
  | [] => some env
  | _ => none
@[simp] def bCons (b : Bd) (r : List Dv → DEnv → Option DEnv) : List Dv → DEnv → Option DEnv := fun ds env => match ds with
  | d :: ds => match b d env with
    | some env1 => r ds env1
    | none => none
  | [] => none
@[simp] def bTup (n : Nat) (r : List Dv → DEnv → Option DEnv) : Bd := fun d env => match d with
  | .tup ds => if ds.length = n then r ds env else none
  | _ => none
section
variable {sl sl1 sl2 : List Nat} {b : Bd} {r : List Dv → DEnv → Option DEnv} {e : Expr} {es : List Expr} {pos : Pos}
theorem g_name {i : Nat} {x : Str} (hN : X.N.Nodup) (hi : X.N[i]? = some x := by rfl) (hx : Loc X.env.scope x := by first | exact Or.inl rfl | exact Or.inr rfl) (hf : X.fn x = true ∨ X.env.scope.names.lookup x = some .local := by first | exact .inl rfl | exact .inr rfl | assumption) (hok : ξ.ok i := by first | trivial | decide) : DG X ξ (.Name x pos) [i] (bName i) :=
  PG.imp (pg_name hN hi hx hf) fun v σ H Q ⟨w, S, env, d, env', eH, s, en, rv, hb, q⟩ => by
    subst eH
    cases hb
    exact q _ (en.set hok rv) fun vs hv => wipe_set (y := none) (hv i (by simp))
theorem gs_nil : DGs X ξ [] [] bNil := PGs.imp pgs_nil fun v σ H Q ⟨w, S, env, d, env', eH, s, en, rv, hb, q⟩ => by
  subst eH
  cases rv with
  | nil =>
    cases hb
    exact ⟨rfl, q σ en fun _ _ => rfl⟩
  | cons _ _ => cases hb
theorem gs_cons (h1 : DG X ξ e sl1 b) (h2 : DGs X ξ es sl2 r) (hs : (assignEach (e :: es) X.env).map (·.2) = assign e X.env :: (assignEach es X.env).map (·.2) := by rfl) : DGs X ξ (e :: es) (sl1 ++ sl2) (bCons b r) :=
  PGs.imp (pgs_cons h1 h2 hs) fun v σ H Q ⟨w, S, env, d, env', eH, s, en, rv, hb, q⟩ => by
    subst eH
    cases rv with
    | nil => cases hb
    | @cons v vs d ds hv rr =>
      have hb' : (match b d env with | some env1 => r ds env1 | none => none) = some env' := hb
      cases e1 : b d env with
      | none => rw [e1] at hb'; cases hb'
      | some env1 =>
        rw [e1] at hb'
        refine ⟨v, vs, rfl, w, S, env, d, env1, rfl, s, en, hv, e1, fun σ1 en1 w1 => ⟨w, S, env1, ds, env', rfl, s, en1, rr, hb', fun σ2 en2 w2 => q σ2 en2 fun us hu => ?_⟩⟩
        rw [w2 us fun i hi => hu i (List.mem_append_right _ hi), w1 us fun i hi => hu i (List.mem_append_left _ hi)]
theorem g_tup {k n : Nat} (hc : X.calm = true) (h : DGs X ξ es sl r) (hn : (assignEach es X.env).length = n := by rfl) (hst : (assignEach es X.env).findIdx? (·.1) = none := by rfl) : DG X ξ (.Tuple es k pos) sl (bTup n r) :=
  PG.imp (pg_tup hc h hn hst) fun v σ H Q ⟨w, S, env, d, env', eH, s, en, rv, hb, q⟩ => by
    subst eH
    cases rv with
    | @tup a xs ds ha ra =>
      have hb' : (if ds.length = n then r ds env else none) = some env' := hb
      by_cases z : ds.length = n
      · rw [if_pos z] at hb'
        exact ⟨a, xs, rfl, ha.to, by rw [ra.length]; exact z, w, S, env, ds, env', rfl, s, en, ra, hb', q⟩
      · rw [if_neg z] at hb'; cases hb'
    | _ => cases hb
end
/-! ### list comprehensions -/
@[simp] def wipeD (env : DEnv) : List Nat → DEnv
  | [] => env
  | v :: vs => (wipeD env vs).set v none
theorem EOk.wipe {w : Wd} {σ : L2.St} {env : DEnv} (h : EOk G ξ w σ env) : ∀ vs : List Nat, (∀ v ∈ vs, ξ.ok v) → EOk G ξ w (L2.wipe σ vs) (wipeD env vs)
  | [], _ => h
  | v :: vs, hk => by
    have ih := EOk.wipe h vs fun z hz => hk z (List.mem_cons_of_mem _ hz)
    refine ⟨?_, fun i d q => ?_, ξ.put _ _ _ _ (hk v List.mem_cons_self) ih.inv⟩
    · show ((L2.wipe σ vs).set v none).length = ((wipeD env vs).set v none).length
      simp [ih.len]
    · have q' : ((wipeD env vs).set v none)[i]? = some (some d) := q
      by_cases z : v = i
      · subst z
        rw [List.getElem?_set_self' ] at q'
        cases e : (wipeD env vs)[v]? with
        | none => rw [e] at q'; cases q'
        | some o => rw [e] at q'; cases q'
      · rw [List.getElem?_set_ne z] at q'
        obtain ⟨u, h1, h2⟩ := ih.get i d q'
        exact ⟨u, by show ((L2.wipe σ vs).set v none)[i]? = _; rw [List.getElem?_set_ne z]; exact h1, h2⟩
def compM (b : Bd) (ft : FT) (fe : FE) (env0 : DEnv) : List Dv → List Dv → Mm (List Dv)
  | [], acc => ret acc
  | d :: r, acc => fun S => match b d env0 with
    | none => none
    | some env1 => match ft env1 S with
      | some (.ok false S1) => compM b ft fe env0 r acc S1
      | some (.ok true S1) => match fe env1 S1 with
        | some (.ok y S2) => if acc.length ≤ big then compM b ft fe env0 r (acc ++ [y]) S2 else none
        | _ => none
      | _ => none
@[simp] def fLc (m : Bool) (fi : FI) (own : List Nat) (b : Bd) (ft : FT) (fe : FE) : FE := fun env => bnd (fi env) fun items => bnd (compM b ft fe (wipeD env own) items []) (newL m)
def W0 : WX := fun _ _ _ _ => False
def DTs (X : Cx) (ξ : Iv) (W : WX) (ifs : List Expr) (f : FT) : Prop := PTs X ifs (tDT (gp X) ξ W f)
@[simp] def fYes : FT := fun _ => ret true
theorem PTs.imp {e : List Expr} {t t' : TT} (h : PTs X e t) (i : ∀ σ H Q, t' σ H Q → t σ H Q) : PTs X e t' := ⟨fun pins s σ H Q I q => h.run pins s σ H Q I (i σ H Q q)⟩
theorem ts_nil : DTs X ξ W [] fYes := PTs.imp pts_nil fun σ H Q ⟨w, env, S, res, eH, s, en, h, p⟩ => by
  subst eH
  cases h
  exact p.here s rfl
theorem ts_one {c : Expr} {ft : FT} (h : DT X ξ W c ft) : DTs X ξ W [c] ft := pts_one h
theorem newL_ok {m : Bool} {xs : List Dv} {S : Store} {res : Rs Dv} (h : newL m xs S = some res) : res = .ok (.lst xs) S ∨ (m = true ∧ res = .ok (.obj S.length) (S ++ [.lst xs])) := by
  cases m with
  | false => cases h; exact .inl rfl
  | true => cases h; exact .inr ⟨rfl, rfl⟩
theorem newL_at {m : Bool} {xs : List Dv} {S : Store} {res : Rs Dv} (h : newL m xs S = some res) : (m = false ∧ res = .ok (.lst xs) S) ∨ (m = true ∧ res = .ok (.obj S.length) (S ++ [.lst xs])) := by
  cases m with
  | false => cases h; exact .inl ⟨rfl, rfl⟩
  | true => cases h; exact .inr ⟨rfl, rfl⟩
/-- the state within a comprehension: what is made so far stands at D -/
structure Lcs (G : Gp) (w1 : Wd) (D : Addr) (w2 : Wd) (S2 : Store) (vs : List V) (acc : List Dv) : Prop where
  e : Ext w1 w2
  s : SOk G w2 S2
  m : D ∈ w2.M0
  n : D ∉ w2.as
  h : w2.H D = some (.lst vs)
  r : RpAll G w2 vs acc
theorem Lcs.go {w1 w2 w3 : Wd} {D : Addr} {S2 S3 : Store} {vs : List V} {acc : List Dv} (c : Lcs G w1 D w2 S2 vs acc) (e : Ext w2 w3) (s : SOk G w3 S3) : Lcs G w1 D w3 S3 vs acc :=
  ⟨c.e.trans e, s, e.m0 D c.m, e.na D _ c.h c.n, e.kp id c.n c.h, c.r.mono e⟩
theorem Lcs.app {w1 w2 : Wd} {D : Addr} {S2 : Store} {vs : List V} {acc : List Dv} (c : Lcs G w1 D w2 S2 vs acc) (hD : w1.H D = none) {v : V} {y : Dv} (ry : Rp G w2 v y) : Lcs G w1 D (w2.put D (.lst (vs ++ [v]))) S2 (vs ++ [v]) (acc ++ [y]) := by
  have wk : Wk w2 (w2.put D (.lst (vs ++ [v]))) := ⟨fun _ _ h => h, fun _ _ _ n => n, fun a o n h => by
    refine .inl ?_
    show upd w2.H D _ a = some o
    rw [upd_ne (fun z => n (by rw [z]; exact .inl c.m))]
    exact h⟩
  refine ⟨⟨c.e.as, c.e.m0, c.e.na, c.e.nM, fun a o n h => ?_⟩, ⟨c.s.nd, c.s.len, fun a ha => ?_, c.s.dj, fun i a d h1 h2 => ?_⟩, c.m, c.n, upd_same, (c.r.wk wk).append (.cons (ry.wk wk) .nil)⟩
  · show upd w2.H D _ a = some o ∨ (IsDc o ∧ ¬ w1.M a ∧ ∃ od, upd w2.H D _ a = some (.frz od o))
    rw [upd_ne (ne_of_none h hD)]
    exact c.e.keep a o n h
  · by_cases z : a = D
    · subst z; exact ⟨_, upd_same, True.intro⟩
    · obtain ⟨o, ho, nt⟩ := c.s.dom a ha
      exact ⟨o, by show upd w2.H D _ a = some o; rw [upd_ne z]; exact ho, nt⟩
  · have z : a ≠ D := fun q => c.n (by rw [← q]; exact List.mem_of_getElem? h1)
    exact (c.s.cont i a d h1 h2).wk wk (upd_ne z)
/-- the list is handed out -/
theorem Lcs.out {w1 w2 : Wd} {σ : L2.St} {D : Addr} {S1 S2 : Store} {vs : List V} {acc : List Dv} {m : Bool} {res : Rs Dv} {Q : VK} (c : Lcs G w1 D w2 S2 vs acc) (s1 : SOk G w1 S1) (hD : w1.H D = none) (hk : newL m acc S2 = some res) (p : PR G W (Rp G) w1 σ res Q) : Q (.ref D) w2.H := by
  have nD : ∀ a ∈ w1.M0, a ≠ D := fun a ha z => by
    obtain ⟨o, ho, _⟩ := s1.dom a ha
    rw [z, hD] at ho
    cases ho
  rcases newL_at hk with ⟨rfl, rfl⟩ | ⟨rfl, rfl⟩
  · have L : Less w2 ⟨w2.H, w2.as, w2.M0.filter (fun a => decide (a ≠ D))⟩ := ⟨rfl, fun a h => by
      rcases h with h | h
      · exact .inl (List.mem_filter.mp h).1
      · exact .inr h, fun _ _ h => h⟩
    refine p.ok_ (w' := ⟨w2.H, w2.as, w2.M0.filter (fun a => decide (a ≠ D))⟩) ⟨c.e.as, fun a ha => List.mem_filter.mpr ⟨c.e.m0 a ha, decide_eq_true (nD a ha)⟩, c.e.na, fun a o h n z => c.e.nM a o h n (L.M a z), c.e.keep⟩ ?_ ?_
    · exact ⟨c.s.nd, c.s.len, fun a ha => c.s.dom a (List.mem_filter.mp ha).1, fun a ha z => c.s.dj a ha (List.mem_filter.mp z).1, fun i a d h1 h2 => (c.s.cont i a d h1 h2).less L⟩
    · refine .lst (.inl ⟨.inl c.h, ?_⟩) (c.r.less L)
      rintro (z | z)
      · exact of_decide_eq_true (List.mem_filter.mp z).2 rfl
      · exact c.n z
  · have L : Less w2 ⟨w2.H, w2.as ++ [D], w2.M0.filter (fun a => decide (a ≠ D))⟩ := ⟨rfl, fun a h => by
      rcases h with h | h
      · exact .inl (List.mem_filter.mp h).1
      · rcases List.mem_append.mp h with h | h
        · exact .inr h
        · rw [show a = D by simpa using h]; exact .inl c.m, fun n a h => by
      have hn : n < w2.as.length := (List.getElem?_eq_some_iff.mp h).1
      show (w2.as ++ [D])[n]? = some a
      rw [List.getElem?_append_left hn]
      exact h⟩
    refine p.ok_ (w' := ⟨w2.H, w2.as ++ [D], w2.M0.filter (fun a => decide (a ≠ D))⟩) ⟨?_, fun a ha => List.mem_filter.mpr ⟨c.e.m0 a ha, decide_eq_true (nD a ha)⟩, fun a o h n z => ?_, fun a o h n z => c.e.nM a o h n (L.M a z), c.e.keep⟩ ?_ ?_
    · obtain ⟨bs, hb⟩ := c.e.as
      exact ⟨bs ++ [D], by show w2.as ++ [D] = _; rw [hb, List.append_assoc]⟩
    · exact c.e.na a o h n (mem_add z (ne_of_none h hD))
    · refine ⟨?_, ?_, fun a ha => c.s.dom a (List.mem_filter.mp ha).1, fun a ha z => ?_, fun i a d h1 h2 => ?_⟩
      · show (w2.as ++ [D]).Nodup
        rw [List.nodup_append]
        refine ⟨c.s.nd, by simp, fun a ha b hb => ?_⟩
        rw [show b = D by simpa using hb]
        rintro rfl
        exact c.n ha
      · show (w2.as ++ [D]).length = (S2 ++ [Dv.lst acc]).length
        simp [c.s.len]
      · rcases List.mem_append.mp ha with q | q
        · exact c.s.dj a q (List.mem_filter.mp z).1
        · exact of_decide_eq_true (List.mem_filter.mp z).2 (by simpa using q)
      · have h1' : (w2.as ++ [D])[i]? = some a := h1
        by_cases hi : i < w2.as.length
        · rw [List.getElem?_append_left hi] at h1'
          rw [List.getElem?_append_left (by rw [← c.s.len]; exact hi)] at h2
          exact (c.s.cont i a d h1' h2).less L
        · have hi2 : w2.as.length ≤ i := by omega
          rw [List.getElem?_append_right hi2] at h1'
          rw [List.getElem?_append_right (by rw [← c.s.len]; exact hi2)] at h2
          cases hk : i - w2.as.length with
          | zero =>
            rw [hk] at h1'
            rw [← c.s.len, hk] at h2
            simp at h1' h2
            subst h1'; subst h2
            exact ⟨vs, c.h, c.r.less L⟩
          | succ k =>
            rw [hk] at h1'
            simp at h1'
    · refine .obj ?_
      show (w2.as ++ [D])[S2.length]? = some D
      rw [← c.s.len, List.getElem?_append_right (Nat.le_refl _), Nat.sub_self]
      rfl
theorem compM_cons {b : Bd} {ft : FT} {fe : FE} {env0 : DEnv} {d : Dv} {r acc : List Dv} {S : Store} {res : Rs (List Dv)} (h : compM b ft fe env0 (d :: r) acc S = some res) :
    ∃ env1, b d env0 = some env1 ∧ ((∃ S1, ft env1 S = some (.ok false S1) ∧ compM b ft fe env0 r acc S1 = some res) ∨
      ∃ S1 y S2, ft env1 S = some (.ok true S1) ∧ fe env1 S1 = some (.ok y S2) ∧ acc.length ≤ big ∧ compM b ft fe env0 r (acc ++ [y]) S2 = some res) := by
  unfold compM at h
  split at h
  · cases h
  · rename_i env1 e1
    refine ⟨env1, e1, ?_⟩
    split at h
    · rename_i S1 e2
      exact .inl ⟨S1, e2, h⟩
    · rename_i S1 e2
      split at h
      · rename_i y S2 e3
        by_cases z : acc.length ≤ big
        · rw [if_pos z] at h
          exact .inr ⟨S1, y, S2, e2, e3, z, h⟩
        · rw [if_neg z] at h; cases h
      · cases h
    · cases h
theorem compM_ok {b : Bd} {ft : FT} {fe : FE} {env0 : DEnv} : ∀ {items acc : List Dv} {S : Store} {res : Rs (List Dv)}, compM b ft fe env0 items acc S = some res → ∃ ys S2, res = .ok ys S2
  | [], acc, S, res, h => by cases h; exact ⟨acc, S, rfl⟩
  | d :: r, acc, S, res, h => by
    obtain ⟨env1, _, ⟨S1, _, h2⟩ | ⟨S1, y, S2, _, _, _, h2⟩⟩ := compM_cons h
    · exact compM_ok h2
    · exact compM_ok h2
section
variable {tg iter elt : Expr} {ifs : List Expr} {scope : Scope} {own : List (Str × Nat)} {pos : Pos} {fi : FI} {sl : List Nat} {b : Bd} {ft : FT} {fe : FE}
theorem lc_body (m : Bool) (hsl : ∀ i ∈ sl, i ∈ own.map (·.2)) (hok : ∀ v ∈ own.map (·.2), ξ.ok v) : ∀ σ H Q, tD G ξ W (fLc m fi (own.map (·.2)) b ft fe) σ H Q → tLc (tI G ξ W fi) (gD G ξ sl b) (tDT G ξ W0 ft) (tD G ξ W0 fe) (own.map (·.2)) σ H Q := fun σ H Q ⟨w, env, S, res, eH, s, en, h, p⟩ => by
  subst eH
  refine seqR s en h p.px fun items S1 J w1 e1 s1 en1 ok h1 => fun D hD => ?_
  have p1 := p.mono e1 s1
  unfold bnd at h1
  cases hc : compM b ft fe (wipeD env (own.map (·.2))) items [] S1 with
  | none => rw [hc] at h1; cases h1
  | some r1 =>
    rw [hc] at h1
    obtain ⟨ys, Sf, rfl⟩ := compM_ok hc
    have hk : newL m ys Sf = some res := h1
    refine ⟨fun i k H => k = items.length - i ∧ i ≤ items.length ∧ ∃ w2 S2 vs acc, w2.H = H ∧ Lcs G w1 D w2 S2 vs acc ∧ compM b ft fe (wipeD env (own.map (·.2))) (items.drop i) acc S2 = some (.ok ys Sf), ⟨items.length, rfl, Nat.zero_le _, ?_⟩, ?_⟩
    · refine ⟨⟨upd w1.H D (.lst []), w1.as, D :: w1.M0⟩, S1, [], [], rfl, ?_, hc⟩
      have ex : Ext w1 ⟨upd w1.H D (.lst []), w1.as, D :: w1.M0⟩ := ⟨⟨[], by simp⟩, fun a ha => List.mem_cons_of_mem _ ha, fun _ _ _ n => n, fun a o ho n z => by
        rcases z with z | z
        · rcases List.mem_cons.mp z with z | z
          · exact ne_of_none ho hD z
          · exact n (.inl z)
        · exact n (.inr z), fun a o _ ho => by
        refine .inl ?_
        show upd w1.H D _ a = some o
        rw [upd_ne (ne_of_none ho hD)]
        exact ho⟩
      refine ⟨ex, ⟨s1.nd, s1.len, fun a ha => ?_, fun a ha z => ?_, fun i a d q1 q2 => ?_⟩, List.mem_cons_self, fun z => s1.fresh hD (.inr z), upd_same, .nil⟩
      · rcases List.mem_cons.mp ha with z | z
        · subst z; exact ⟨_, upd_same, True.intro⟩
        · obtain ⟨o, ho, nt⟩ := s1.dom a z
          exact ⟨o, by show upd w1.H D _ a = some o; rw [upd_ne (ne_of_none ho hD)]; exact ho, nt⟩
      · rcases List.mem_cons.mp z with z | z
        · subst z; exact s1.fresh hD (.inr ha)
        · exact s1.dj a ha z
      · have q := s1.cont i a d q1 q2
        obtain ⟨o, ho⟩ := q.there
        exact q.mono ex (upd_ne (ne_of_none ho hD))
    · rintro i k H' ⟨rfl, hi, w2, S2, vs, acc, rfl, c, hcm⟩
      obtain ⟨go, stop, yld⟩ := ok w2 S2 c.e c.s
      by_cases hlt : i < items.length
      · refine .inr ⟨go i hlt, fun H' => i + 1 ≤ items.length ∧ ∃ w2 S2 vs acc, w2.H = H' ∧ Lcs G w1 D w2 S2 vs acc ∧ compM b ft fe (wipeD env (own.map (·.2))) (items.drop (i + 1)) acc S2 = some (.ok ys Sf), fun H' hN => ⟨items.length - (i + 1), by omega, rfl, hN.1, hN.2⟩, fun x H' hy => ?_⟩
        have hd : items[i]? = some items[i] := List.getElem?_eq_getElem hlt
        obtain ⟨w3, rfl, e3, s3, rx⟩ := yld i _ x H' hd hy
        rw [List.drop_eq_getElem_cons hlt] at hcm
        obtain ⟨env1, hb, hcases⟩ := compM_cons hcm
        refine ⟨w3, S2, wipeD env (own.map (·.2)), items[i], env1, rfl, s3, ((en1.mono c.e).mono e3).wipe _ hok, rx, hb, fun σ' en' hw => ⟨?_, ?_⟩⟩
        · rw [hw _ hsl]
          exact wipe_wipe σ _ _ fun _ z => z
        · have c3 := c.go e3 s3
          rcases hcases with ⟨S4, hft, hr⟩ | ⟨S4, y, S5, hft, hfe, hl, hr⟩
          · refine ⟨w3, env1, S2, _, rfl, s3, en', hft, fun bv w4 e4 s4 hbv => ?_⟩
            cases hbv
            exact ⟨hlt, w4, S4, vs, acc, rfl, c3.go e4 s4, hr⟩
          · refine ⟨w3, env1, S2, _, rfl, s3, en', hft, fun bv w4 e4 s4 hbv => ?_⟩
            cases hbv
            have c4 := c3.go e4 s4
            refine ⟨w4, env1, S4, _, rfl, s4, en'.mono e4, hfe, fun v w5 e5 s5 rv => ?_⟩
            have c5 := c4.go e5 s5
            exact ⟨vs, c5.h, by rw [c5.r.length]; exact big_lt hl, hlt, _, S5, _, _, rfl, c5.app hD rv, hr⟩
      · have e0 : i = items.length := by omega
        subst e0
        rw [List.drop_length] at hcm
        cases hcm
        exact .inl ⟨stop, c.out s1 hD hk p1⟩
/-- [elt for tg in iter if ..] as a value -/
theorem d_lc (m : Bool) (hc : X.calm = true) (hN : X.N.Nodup) (hi : DI X ξ W tg iter fi) (ok : BlkOk X.N X.env.scope scope own)
    (hg : ∀ (s : Shared) (H : Hp) (C : Addr) (cl : List (Str × Addr)) (fp : List Addr), DG (X.blk s H scope (compEnvC scope cl C X.env) fp) ξ tg sl b)
    (ht : ∀ (s : Shared) (H : Hp) (C : Addr) (cl : List (Str × Addr)) (fp : List Addr), DTs (X.blk s H scope (compEnvC scope cl C X.env) fp) ξ W0 ifs ft)
    (he : ∀ (s : Shared) (H : Hp) (C : Addr) (cl : List (Str × Addr)) (fp : List Addr), DE (X.blk s H scope (compEnvC scope cl C X.env) fp) ξ W0 elt fe)
    (hsl : ∀ i ∈ sl, i ∈ own.map (·.2) := by decide) (hok : ∀ v ∈ own.map (·.2), ξ.ok v := by first | exact (fun _ _ => trivial) | decide) (hs : ∀ x, foldedSetIterable iter X.env x = pure x := by intro _; rfl) :
    DE X ξ W (.ListComp elt [⟨tg, iter, ifs, 0⟩] scope pos) (fLc m fi (own.map (·.2)) b ft fe) :=
  PE.imp (pe_lc (g := gD (gp X) ξ sl b) (tt := tDT (gp X) ξ W0 ft) (te := tD (gp X) ξ W0 fe) hc hN hi ok hg ht he hs) (lc_body m hsl hok)
end
end
end FC

set_option Elab.async false
set_option linter.all false
set_option maxRecDepth 100000
namespace FC
open PySem PySem.Spec L2

inductive Rf where
  | nx (env : DEnv) (S : Store)
  | rt (d : Dv) (S : Store)
  | bk (env : DEnv) (S : Store)
  | ct (env : DEnv) (S : Store)
  | exc (c : Str) (fs : List (Str × Dv)) (env : DEnv) (S : Store)
abbrev FS := DEnv → Store → Option Rf
def PXS (G : Gp) (ξ : Iv) (W : WX) (w : Wd) (c : Str) (fs : List (Str × Dv)) (env' : DEnv) (S' : Store) : Prop :=
  ∀ σ' dd fs' w', Ext w w' → SOk G w' S' → EOk G ξ w' σ' env' → w'.H dd = some (.xd fs') → ¬ w'.M dd → fs'.map Prod.fst = fs.map Prod.fst → RpAll G w' (fs'.map Prod.snd) (fs.map Prod.snd) → W (.ref (G.cA c)) (some dd) σ' w'.H
def PF (G : Gp) (ξ : Iv) (W : WX) (w : Wd) (r : Rf) (D : Ends) : Prop := match r with
  | .nx env' S' => ∀ σ' w', Ext w w' → SOk G w' S' → EOk G ξ w' σ' env' → D.nx σ' w'.H
  | .rt d S' => ∀ v w', Ext w w' → SOk G w' S' → Rp G w' v d → D.rt v w'.H
  | .bk env' S' => ∀ σ' w', Ext w w' → SOk G w' S' → EOk G ξ w' σ' env' → D.bk σ' w'.H
  | .ct env' S' => ∀ σ' w', Ext w w' → SOk G w' S' → EOk G ξ w' σ' env' → D.ct σ' w'.H
  | .exc c fs env' S' => PXS G ξ W w c fs env' S'
def tF (G : Gp) (ξ : Iv) (W : WX) (f : FS) : TS := fun D σ H => ∃ (w : Wd) (env : DEnv) (S : Store) (r : Rf), w.H = H ∧ SOk G w S ∧ EOk G ξ w σ env ∧ f env S = some r ∧ PF G ξ W w r D
def DS (X : Cx) (ξ : Iv) (W : WX) (st : Stmt) (f : FS) : Prop := PS X st (tF (gp X) ξ W f)
def DSs (X : Cx) (ξ : Iv) (W : WX) (st : List Stmt) (f : FS) : Prop := PSs X st (tF (gp X) ξ W f)
section
variable {X : Cx} {ξ : Iv} {W : WX} {G : Gp} {w w1 : Wd} {σ : L2.St} {S S1 : Store} {D : Ends}
theorem PXS.mono {c : Str} {fs : List (Str × Dv)} {env' : DEnv} {S' : Store} (e : Ext w w1) (h : PXS G ξ W w c fs env' S') : PXS G ξ W w1 c fs env' S' :=
  fun σ' dd fs' w' e' s' en hd hm hn hr => h σ' dd fs' w' (e.trans e') s' en hd hm hn hr
theorem PF.mono {r : Rf} (e : Ext w w1) (h : PF G ξ W w r D) : PF G ξ W w1 r D := by
  cases r with
  | nx env' S' => exact fun σ' w' e' s' en => h σ' w' (e.trans e') s' en
  | rt d S' => exact fun v w' e' s' rv => h v w' (e.trans e') s' rv
  | bk env' S' => exact fun σ' w' e' s' en => h σ' w' (e.trans e') s' en
  | ct env' S' => exact fun σ' w' e' s' en => h σ' w' (e.trans e') s' en
  | exc c fs env' S' => exact PXS.mono e h
/-- an expression within a statement: its value, then the rest -/
@[simp] def sBnd {α : Type} (f : DEnv → Mm α) (k : α → FS) : FS := fun env S => match f env S with
  | none => none
  | some (.exc c fs S') => some (.exc c fs env S')
  | some (.ok a S') => k a env S'
def PFx (G : Gp) (ξ : Iv) (W : WX) (w : Wd) (r : Rf) : Prop := match r with
  | .exc c fs env' S' => PXS G ξ W w c fs env' S'
  | _ => True
theorem PF.px {r : Rf} (h : PF G ξ W w r D) : PFx G ξ W w r := by
  cases r <;> first | exact h | exact True.intro
theorem seqS {α β : Type} {R : Wd → β → α → Prop} {f : DEnv → Mm α} {k : α → FS} {env : DEnv} {r : Rf} (s : SOk G w S) (en : EOk G ξ w σ env) (hr : sBnd f k env S = some r) (px : PFx G ξ W w r) {Q : β → Hp → Prop}
    (K : ∀ a S1 v w1, Ext w w1 → SOk G w1 S1 → EOk G ξ w1 σ env → R w1 v a → k a env S1 = some r → Q v w1.H) : tG G ξ W R f σ w.H Q := by
  unfold sBnd at hr
  cases h : f env S with
  | none => rw [h] at hr; cases hr
  | some r1 =>
    rw [h] at hr
    refine ⟨w, env, S, r1, rfl, s, en, h, ?_⟩
    cases r1 with
    | exc c fs S' =>
      cases hr
      exact fun dd fs' w' e' s' hd hm hn hq => px σ dd fs' w' e' s' (en.mono e') hd hm hn hq
    | ok a S' => exact fun v w' e s' q => K a S' v w' e s' (en.mono e) q hr
/-! ### the statements -/
@[simp] def sNext : FS := fun env S => some (.nx env S)
@[simp] def sSeq (f g : FS) : FS := fun env S => match f env S with
  | some (.nx env1 S1) => g env1 S1
  | r => r
theorem ss_nil : DSs X ξ W [] sNext := PSs.imp pss_nil fun D σ H ⟨w, env, S, r, eH, s, en, h, p⟩ => by
  subst eH
  cases h
  exact p σ w (Ext.refl w) s en
theorem ss_one {st : Stmt} {f : FS} (h : DS X ξ W st f) : DSs X ξ W [st] f := pss_one h
theorem ss_cons {st : Stmt} {rest : List Stmt} {f g : FS} (h1 : DS X ξ W st f) (h2 : DSs X ξ W rest g) : DSs X ξ W (st :: rest) (sSeq f g) :=
  PSs.imp (pss_cons h1 h2) fun D σ H ⟨w, env, S, r, eH, s, en, h, p⟩ => by
    subst eH
    unfold sSeq at h
    cases q : f env S with
    | none => rw [q] at h; cases h
    | some r1 =>
      rw [q] at h
      refine ⟨w, env, S, r1, rfl, s, en, q, ?_⟩
      cases r1 with
      | nx env1 S1 => exact fun σ1 w1 e1 s1 en1 => ⟨w1, env1, S1, r, rfl, s1, en1, h, p.mono e1⟩
      | rt d S1 => cases h; exact p
      | bk env1 S1 => cases h; exact p
      | ct env1 S1 => cases h; exact p
      | exc c fs env1 S1 => cases h; exact p
theorem s_pass {pos : Pos} : DS X ξ W (.Pass pos) sNext := PS.imp ps_pass fun D σ H ⟨w, env, S, r, eH, s, en, h, p⟩ => by
  subst eH
  cases h
  exact p σ w (Ext.refl w) s en
theorem s_doc {x j pos pos'} : DS X ξ W (.Expr (.Constant (.str x) j pos) pos') sNext := PS.imp ps_doc fun D σ H ⟨w, env, S, r, eH, s, en, h, p⟩ => by
  subst eH
  cases h
  exact p σ w (Ext.refl w) s en
@[simp] def sBreak : FS := fun env S => some (.bk env S)
@[simp] def sCont : FS := fun env S => some (.ct env S)
theorem s_break {pos : Pos} : DS X ξ W (.Break pos) sBreak := PS.imp ps_break fun D σ H ⟨w, env, S, r, eH, s, en, h, p⟩ => by
  subst eH
  cases h
  exact p σ w (Ext.refl w) s en
theorem s_cont {pos : Pos} : DS X ξ W (.Continue pos) sCont := PS.imp ps_continue fun D σ H ⟨w, env, S, r, eH, s, en, h, p⟩ => by
  subst eH
  cases h
  exact p σ w (Ext.refl w) s en
def sExpr (fe : FE) : FS := sBnd fe fun _ => sNext
def sRet (fe : FE) : FS := sBnd fe fun d _ S => some (.rt d S)
@[simp] def sRetN : FS := fun _ S => some (.rt .non S)
def sIf (ft : FT) (f g : FS) : FS := sBnd ft fun c => if c = true then f else g
def sAsg (fe : FE) (b : Bd) : FS := sBnd fe fun d env S => match b d env with
  | some env' => some (.nx env' S)
  | none => none
theorem s_expr {e : Expr} {fe : FE} {pos : Pos} (he : DE X ξ W e fe) (hs : swapsWith e none pos.line X.env = pure false := by rfl) : DS X ξ W (.Expr e pos) (sExpr fe) := PS.imp (ps_expr he hs) fun D σ H ⟨w, env, S, r, eH, s, en, h, p⟩ => by
  subst eH
  refine seqS s en h p.px fun d S1 v w1 e1 s1 en1 r1 h1 => ?_
  cases h1
  exact p σ w1 e1 s1 en1
theorem s_ret {e : Expr} {fe : FE} {pos : Pos} (he : DE X ξ W e fe) : DS X ξ W (.Return (some e) pos) (sRet fe) := PS.imp (ps_ret he) fun D σ H ⟨w, env, S, r, eH, s, en, h, p⟩ => by
  subst eH
  refine seqS s en h p.px fun d S1 v w1 e1 s1 en1 r1 h1 => ?_
  cases h1
  exact p v w1 e1 s1 r1
theorem s_retN {pos : Pos} : DS X ξ W (.Return none pos) sRetN := PS.imp ps_retN fun D σ H ⟨w, env, S, r, eH, s, en, h, p⟩ => by
  subst eH
  cases h
  exact p .non w (Ext.refl w) s .non
theorem s_if {c : Expr} {a b : List Stmt} {ft : FT} {f g : FS} {pos : Pos} (hc : DT X ξ W c ft) (ha : DSs X ξ W a f) (hb : DSs X ξ W b g) : DS X ξ W (.If c a b pos) (sIf ft f g) := PS.imp (ps_if hc ha hb) fun D σ H ⟨w, env, S, r, eH, s, en, h, p⟩ => by
  subst eH
  refine seqS s en h p.px fun d S1 v w1 e1 s1 en1 r1 h1 => ?_
  cases (show v = d from r1)
  cases d with
  | true => exact ⟨w1, env, S1, r, rfl, s1, en1, h1, p.mono e1⟩
  | false => exact ⟨w1, env, S1, r, rfl, s1, en1, h1, p.mono e1⟩
theorem asg_body {fe : FE} {sl : List Nat} {b : Bd} : ∀ D σ H, tF G ξ W (sAsg fe b) D σ H → tAsg (tD G ξ W fe) (gD G ξ sl b) D σ H := fun D σ H ⟨w, env, S, r, eH, s, en, h, p⟩ => by
  subst eH
  refine seqS s en h p.px fun d S1 v w1 e1 s1 en1 r1 h1 => ?_
  cases q : b d env with
  | none => rw [q] at h1; cases h1
  | some env' =>
    rw [q] at h1
    cases h1
    exact ⟨w1, S1, env, d, env', rfl, s1, en1, r1, q, fun σ' en' _ => p σ' w1 e1 s1 en'⟩
theorem s_asg {tg e : Expr} {fe : FE} {sl : List Nat} {b : Bd} {pos : Pos} (he : DE X ξ W e fe) (hg : DG X ξ tg sl b) (hs : swapsWithSole [tg] e pos.line X.env = pure false := by rfl) (hw : swappedStores [tg] e X.env = pure none := by rfl)
    (h1 : (assignEach [tg] X.env).map (·.2) = [assign tg X.env] := by rfl) : DS X ξ W (.Assign [tg] e pos) (sAsg fe b) := PS.imp (ps_asg he hg hs hw h1) (asg_body (sl := sl))
/-- x = e -/
theorem s_set {i : Nat} {x : Str} {e : Expr} {fe : FE} {pos pos' : Pos} (hN : X.N.Nodup) (he : DE X ξ W e fe) (hi : X.N[i]? = some x := by rfl) (hx : Loc X.env.scope x := by first | exact Or.inl rfl | exact Or.inr rfl) (hs : swapsWith e (some (.Name x pos')) pos.line X.env = pure false := by rfl)
    (hf : X.fn x = true ∨ X.env.scope.names.lookup x = some .local := by first | exact .inl rfl | exact .inr rfl | assumption) (hok : ξ.ok i := by first | trivial | decide) : DS X ξ W (.Assign [.Name x pos'] e pos) (sAsg fe (bName i)) := PS.imp (ps_set hN hi hx he hs hf) fun D σ H h => by
  have q := asg_body (sl := [i]) (b := bName i) D σ H h
  obtain ⟨w, env, S, r, eH, s, en, h, p⟩ := h
  subst eH
  refine seqS s en h p.px fun d S1 v w1 e1 s1 en1 r1 h1 => ?_
  cases h1
  exact p _ w1 e1 s1 (en1.set hok r1)
/-- x = [..] -/
theorem s_setLc {i : Nat} {y : Str} {py : Pos} {tg iter elt : Expr} {ifs : List Expr} {scope : Scope} {own : List (Str × Nat)} {pos spos : Pos} {fi : FI} {sl : List Nat} {b : Bd} {ft : FT} {fe : FE}
    (m : Bool) (hc : X.calm = true) (hN : X.N.Nodup) (hsw : swapsWith (.ListComp elt [⟨tg, iter, ifs, 0⟩] scope pos) (some (.Name y py)) spos.line X.env = pure true) (hi : DI X ξ W tg iter fi) (ok : BlkOk X.N X.env.scope scope own)
    (hg : ∀ (s : Shared) (H : Hp) (C : Addr) (cl : List (Str × Addr)) (fp : List Addr), DG (X.blk s H scope (compEnvC scope cl C X.env) fp) ξ tg sl b)
    (ht : ∀ (s : Shared) (H : Hp) (C : Addr) (cl : List (Str × Addr)) (fp : List Addr), DTs (X.blk s H scope (compEnvC scope cl C X.env) fp) ξ W0 ifs ft)
    (he : ∀ (s : Shared) (H : Hp) (C : Addr) (cl : List (Str × Addr)) (fp : List Addr), DE (X.blk s H scope (compEnvC scope cl C X.env) fp) ξ W0 elt fe)
    (hsl : ∀ i ∈ sl, i ∈ own.map (·.2) := by decide) (hy : X.N[i]? = some y := by rfl) (hyl : X.env.scope.names.lookup y = some .local := by rfl) (hoki : ξ.ok i := by first | trivial | decide) (hok : ∀ v ∈ own.map (·.2), ξ.ok v := by first | exact (fun _ _ => trivial) | decide) (hs : ∀ x, foldedSetIterable iter X.env x = pure x := by intro _; rfl) :
    DS X ξ W (.Assign [.Name y py] (.ListComp elt [⟨tg, iter, ifs, 0⟩] scope pos) spos) (sAsg (fLc m fi (own.map (·.2)) b ft fe) (bName i)) :=
  PS.imp (ps_setLc (g := gD (gp X) ξ sl b) (tt := tDT (gp X) ξ W0 ft) (te := tD (gp X) ξ W0 fe) hc hN hy hyl hsw hi ok hg ht he hs) fun D σ H h => by
    obtain ⟨w, env, S, r, eH, s, en, h, p⟩ := h
    subst eH
    have q : tD (gp X) ξ W (fLc m fi (own.map (·.2)) b ft fe) σ w.H (fun x H1 => gName i x σ H1 D.nx) := seqS s en h p.px fun d S1 v w1 e1 s1 en1 r1 h1 => by
      cases h1
      exact p _ w1 e1 s1 (en1.set hoki r1)
    exact lc_body m hsl hok σ w.H _ q
/-- x += e -/
def sAug (i : Nat) (o : DOp) (fe : FE) : FS := fun env S => match (env[i]?).join with
  | some d => sBnd (fun env => bnd (fe env) fun y => o d y) (fun z env S => some (.nx (env.set i (some z)) S)) env S
  | none => none
theorem join_at {env : DEnv} {i : Nat} {d : Dv} (h : (env[i]?).join = some d) : env[i]? = some (some d) := by
  cases z : env[i]? with
  | none => rw [z] at h; cases h
  | some o => rw [z] at h; cases o with
    | none => cases h
    | some d' => cases h; rfl
theorem s_aug {i : Nat} {x : Str} {op : Operator} {e : Expr} {fe : FE} {ti : TIp} {o : DOp} {pos pos' : Pos} (hN : X.N.Nodup) (he : DE X ξ W e fe) (hp : PIp X op ti) (hd : OpD (gp X) ti o) (hi : X.N[i]? = some x := by rfl) (hx : X.env.scope.names.lookup x = some .local := by rfl)
    (hok : ξ.ok i := by first | trivial | decide) (hq : PS X (.AugAssign (.Name x pos') op e pos) (tAug i (tD (gp X) ξ W fe) ti)) : DS X ξ W (.AugAssign (.Name x pos') op e pos) (sAug i o fe) := PS.imp hq fun D σ H ⟨w, env, S, r, eH, s, en, h, p⟩ => by
  subst eH
  unfold sAug at h
  cases q : (env[i]?).join with
  | none => rw [q] at h; cases h
  | some d =>
    rw [q] at h
    obtain ⟨v, h1, h2⟩ := en.get i d (join_at q)
    refine ⟨v, h1, ?_⟩
    have h' : sBnd (fun env => bnd (fe env) fun y => o d y) (fun z env S => some (.nx (env.set i (some z)) S)) env S = some r := h
    unfold sBnd at h'
    cases h3 : fe env S with
    | none => unfold bnd at h'; simp only [h3] at h'; cases h'
    | some r1 =>
      refine ⟨w, env, S, r1, rfl, s, en, h3, ?_⟩
      unfold bnd at h'
      simp only [h3] at h'
      cases r1 with
      | exc c fs S' =>
        cases h'
        exact fun dd fs' w' e' s' hd hm hn hq => p σ dd fs' w' e' s' (en.mono e') hd hm hn hq
      | ok y S1 =>
        intro u w1 e1 s1 ru
        dsimp only at h'
        cases h4 : o d y S1 with
        | none => rw [h4] at h'; cases h'
        | some r2 =>
          rw [h4] at h'
          refine hd W w1 σ S1 v u d y r2 _ s1 (h2.mono e1) ru h4 ?_
          cases r2 with
          | exc c fs S' =>
            cases h'
            exact fun dd fs' w' e' s' hd hm hn hq => p σ dd fs' w' (e1.trans e') s' ((en.mono e1).mono e') hd hm hn hq
          | ok z S2 =>
            cases h'
            exact fun v2 w2 e2 s2 r2 => p _ w2 (e1.trans e2) s2 (((en.mono e1).mono e2).set hok r2)
/-! ### loops -/
def forM' (b : Bd) (fb : FS) : List Dv → FS
  | [], env, S => some (.nx env S)
  | d :: r, env, S => match b d env with
    | none => none
    | some env1 => match fb env1 S with
      | some (.nx env2 S2) => forM' b fb r env2 S2
      | some (.ct env2 S2) => forM' b fb r env2 S2
      | some (.bk env2 S2) => some (.nx env2 S2)
      | r => r
def sFor (fi : FI) (b : Bd) (fb : FS) : FS := sBnd fi fun items => forM' b fb items
theorem s_for {tg iter : Expr} {body : List Stmt} {fi : FI} {sl : List Nat} {b : Bd} {fb : FS} {pos : Pos} (hp : PassesOwn (model X.prog X.w) X.A X.env X.xe) (hc : X.calm = true) (hi : DI X ξ W tg iter fi) (hg : DG X ξ tg sl b) (hb : DSs X ξ W body fb)
    (hs : ∀ x, foldedSetIterable iter X.env x = pure x := by intro _; rfl) : DS X ξ W (.For tg iter body [] pos) (sFor fi b fb) := PS.imp (ps_for hp hc hi hg hb hs) fun D σ H ⟨w, env, S, r, eH, s, en, h, p⟩ => by
  subst eH
  refine seqS s en h p.px fun items S1 J w1 e1 s1 en1 ok h1 => ?_
  have p1 := p.mono e1
  refine ⟨fun i k σ' H' => k = items.length - i ∧ i ≤ items.length ∧ ∃ w2 S2 env2, w2.H = H' ∧ Ext w1 w2 ∧ SOk (gp X) w2 S2 ∧ EOk (gp X) ξ w2 σ' env2 ∧ forM' b fb (items.drop i) env2 S2 = some r, ⟨items.length, rfl, Nat.zero_le _, w1, S1, env, rfl, Ext.refl _, s1, en1, h1⟩, ?_⟩
  rintro i k σ' H' ⟨rfl, hi, w2, S2, env2, rfl, e2, s2, en2, hf⟩
  obtain ⟨go, stop, yld⟩ := ok w2 S2 e2 s2
  by_cases hlt : i < items.length
  · refine .inr ⟨go i hlt, fun σ' H' => i + 1 ≤ items.length ∧ ∃ w2 S2 env2, w2.H = H' ∧ Ext w1 w2 ∧ SOk (gp X) w2 S2 ∧ EOk (gp X) ξ w2 σ' env2 ∧ forM' b fb (items.drop (i + 1)) env2 S2 = some r, fun σ' H' hN => ⟨items.length - (i + 1), by omega, rfl, hN.1, hN.2⟩, fun x H' hy => ?_⟩
    have hd : items[i]? = some items[i] := List.getElem?_eq_getElem hlt
    obtain ⟨w3, rfl, e3, s3, rx⟩ := yld i _ x H' hd hy
    rw [List.drop_eq_getElem_cons hlt] at hf
    unfold forM' at hf
    split at hf
    · cases hf
    · rename_i env1 hb1
      refine ⟨w3, S2, env2, items[i], env1, rfl, s3, en2.mono e3, rx, hb1, fun σ3 en3 _ => ?_⟩
      have e13 := e2.trans e3
      cases h4 : fb env1 S2 with
      | none => rw [h4] at hf; cases hf
      | some r4 =>
        rw [h4] at hf
        refine ⟨w3, env1, S2, r4, rfl, s3, en3, h4, ?_⟩
        cases r4 with
        | nx env5 S5 => exact fun σ5 w5 e5 s5 en5 => ⟨hlt, w5, S5, env5, rfl, e13.trans e5, s5, en5, hf⟩
        | ct env5 S5 => exact fun σ5 w5 e5 s5 en5 => ⟨hlt, w5, S5, env5, rfl, e13.trans e5, s5, en5, hf⟩
        | bk env5 S5 =>
          cases hf
          exact fun σ5 w5 e5 s5 en5 => p1 σ5 w5 (e13.trans e5) s5 en5
        | rt d5 S5 =>
          cases hf
          exact fun v w5 e5 s5 r5 => p1 v w5 (e13.trans e5) s5 r5
        | exc c fs env5 S5 =>
          cases hf
          exact PXS.mono e13 p1
  · have e0 : i = items.length := by omega
    subst e0
    rw [List.drop_length] at hf
    cases hf
    exact .inl ⟨stop, p1 σ' w2 e2 s2 en2⟩
def whileM (ft : FT) (fb : FS) : Nat → FS
  | 0, _, _ => none
  | n + 1, env, S => match ft env S with
    | none => none
    | some (.exc c fs S') => some (.exc c fs env S')
    | some (.ok false S') => some (.nx env S')
    | some (.ok true S') => match fb env S' with
      | some (.nx env2 S2) => whileM ft fb n env2 S2
      | some (.ct env2 S2) => whileM ft fb n env2 S2
      | some (.bk env2 S2) => some (.nx env2 S2)
      | r => r
def sWhile (n : Nat) (ft : FT) (fb : FS) : FS := whileM ft fb n
theorem s_while {c : Expr} {body : List Stmt} {ft : FT} {fb : FS} {pos : Pos} (n : Nat) (hp : PassesOwn (model X.prog X.w) X.A X.env X.xe) (hc : DT X ξ W c ft) (hb : DSs X ξ W body fb) : DS X ξ W (.While c body [] pos) (sWhile n ft fb) := PS.imp (ps_while hp hc hb) fun D σ H ⟨w, env, S, r, eH, s, en, h, p⟩ => by
  subst eH
  refine ⟨fun k σ' H' => ∃ w2 S2 env2, w2.H = H' ∧ Ext w w2 ∧ SOk (gp X) w2 S2 ∧ EOk (gp X) ξ w2 σ' env2 ∧ whileM ft fb k env2 S2 = some r, ⟨n, w, S, env, rfl, Ext.refl _, s, en, h⟩, ?_⟩
  rintro k σ' H' ⟨w2, S2, env2, rfl, e2, s2, en2, hf⟩
  cases k with
  | zero => cases hf
  | succ k =>
    unfold whileM at hf
    cases h3 : ft env2 S2 with
    | none => rw [h3] at hf; cases hf
    | some r3 =>
      rw [h3] at hf
      refine ⟨w2, env2, S2, r3, rfl, s2, en2, h3, ?_⟩
      cases r3 with
      | exc c fs S' =>
        cases hf
        exact fun dd fs' w' e' s' hd hm hn hq => p σ' dd fs' w' (e2.trans e') s' (en2.mono e') hd hm hn hq
      | ok b S3 =>
        intro bv w3 e3 s3 hbv
        cases (show bv = b from hbv)
        cases b with
        | false =>
          cases hf
          exact p σ' w3 (e2.trans e3) s3 (en2.mono e3)
        | true =>
          refine ⟨fun σ5 H5 => ∃ w2 S2 env2, w2.H = H5 ∧ Ext w w2 ∧ SOk (gp X) w2 S2 ∧ EOk (gp X) ξ w2 σ5 env2 ∧ whileM ft fb k env2 S2 = some r, fun σ5 H5 hN => ⟨k, Nat.lt_succ_self _, hN⟩, ?_⟩
          have e13 := e2.trans e3
          cases h4 : fb env2 S3 with
          | none => simp only [h4] at hf; cases hf
          | some r4 =>
            simp only [h4] at hf
            refine ⟨w3, env2, S3, r4, rfl, s3, en2.mono e3, h4, ?_⟩
            cases r4 with
            | nx env5 S5 => exact fun σ5 w5 e5 s5 en5 => ⟨w5, S5, env5, rfl, e13.trans e5, s5, en5, hf⟩
            | ct env5 S5 => exact fun σ5 w5 e5 s5 en5 => ⟨w5, S5, env5, rfl, e13.trans e5, s5, en5, hf⟩
            | bk env5 S5 =>
              cases hf
              exact fun σ5 w5 e5 s5 en5 => p σ5 w5 (e13.trans e5) s5 en5
            | rt d5 S5 =>
              cases hf
              exact fun v w5 e5 s5 r5 => p v w5 (e13.trans e5) s5 r5
            | exc c fs env5 S5 =>
              cases hf
              exact PXS.mono e13 p
end
end FC

set_option Elab.async false
set_option linter.all false
set_option maxRecDepth 100000
namespace FC
open PySem PySem.Spec L2
open PyProof.Rows (envOfC)
section
variable {X : Cx} {ξ : Iv} {W : WX} {G : Gp}
/-! ### stores to named lists -/
@[simp] def setIx (o i v : Dv) (S : Store) : Option Store := match o, i with
  | .obj n, .int k => match S[n]? with
    | some (.lst ds) => match ixN ds.length k with
      | some j => some (S.set n (.lst (ds.set j v)))
      | none => none
    | _ => none
  | _, _ => none
def sSetIx (fo fi fe : FE) : FS := sBnd fe fun v => sBnd fo fun o => sBnd fi fun i => fun env S => match setIx o i v S with
  | some S' => some (.nx env S')
  | none => none
theorem s_setIx {o i e : Expr} {fo fi fe : FE} {pos pos' : Pos} (he : DE X ξ W e fe) (ho : DE X ξ W o fo) (hi : DE X ξ W i fi)
    (ha : ∀ v, assign (.Subscript o i pos') X.env v = (do
      let ov ← holding [v] (eval o X.env)
      let iv ← holding [v, ov] (eval i X.env)
      standAt pos'
      holding [v, ov, iv] (setItem ov iv v)
      release [v, ov, iv] []) := by intro _; rfl) (hs : swapsWithSole [.Subscript o i pos'] e pos.line X.env = pure false := by rfl) (hw : swappedStores [.Subscript o i pos'] e X.env = pure none := by rfl)
    (h1 : (assignEach [.Subscript o i pos'] X.env).map (·.2) = [assign (.Subscript o i pos') X.env] := by rfl) :
    DS X ξ W (.Assign [.Subscript o i pos'] e pos) (sSetIx fo fi fe) := PS.imp (ps_asg he (pg_sub ho hi set_list ha) hs hw h1) fun D σ H ⟨w, env, S, r, eH, s, en, h, p⟩ => by
  subst eH
  refine seqS s en h p.px fun d S1 v w1 e1 s1 en1 r1 h1 => seqS s1 en1 h1 (p.mono e1).px fun o S2 ov w2 e2 s2 en2 r2 h2 => seqS s2 en2 h2 (p.mono (e1.trans e2)).px fun i S3 iv w3 e3 s3 en3 r3 h3 => ?_
  cases q : setIx o i d S3 with
  | none => rw [q] at h3; cases h3
  | some S4 =>
    rw [q] at h3
    cases h3
    unfold setIx at q
    split at q
    · rename_i n k
      split at q
      · rename_i ds hS
        split at q
        · rename_i j hj
          cases q
          cases r3
          cases r2.mono e3 with
          | obj ha =>
            rename_i a
            obtain ⟨xs, hx, rx⟩ := s3.cont n a _ ha hS
            refine ⟨a, xs, k, j, rfl, rfl, hx, by rw [rx.length]; exact hj, ?_⟩
            have e4 : Ext w3 (w3.put a (.lst (xs.set j v))) := .upd ha
            have s4 : SOk (gp X) (w3.put a (.lst (xs.set j v))) (S3.set n (.lst (ds.set j d))) := s3.upd ha ⟨_, upd_same, (rx.mono e4).set (((r1.mono e2).mono e3).mono e4) j⟩
            exact p σ (w3.put a (.lst (xs.set j v))) (((e1.trans e2).trans e3).trans e4) s4 (en3.mono e4)
        · cases q
      · cases q
    · cases q
/-- a method of a named list -/
@[simp] def isL (o : Dv) (S : Store) : Option Nat := match o with
  | .obj n => match S[n]? with
    | some (.lst _) => some n
    | _ => none
  | _ => none
theorem isL_ok {w : Wd} {S : Store} {v : V} {o : Dv} {n : Nat} (s : SOk G w S) (r : Rp G w v o) (h : isL o S = some n) : o = .obj n ∧ ∃ a xs ds, v = .ref a ∧ w.as[n]? = some a ∧ S[n]? = some (.lst ds) ∧ w.H a = some (.lst xs) ∧ RpAll G w xs ds := by
  unfold isL at h
  split at h
  · rename_i m
    split at h
    · rename_i ds e
      cases h
      cases r with
      | obj ha =>
        obtain ⟨xs, h1, h2⟩ := s.cont _ _ _ ha e
        exact ⟨rfl, _, xs, ds, rfl, ha, e, h1, h2⟩
    · cases h
  · cases h
@[simp] def fMeth1 (k : Nat → List Dv → Mm Dv) (fo : FE) (fa : FA) : FE := fun env => bnd (fo env) fun o S => match isL o S with
  | some n => bnd (fa env) (k n) S
  | none => none
def MethD (G : Gp) (r : V → List V → Hp → VK → Prop) (k : Nat → List Dv → Mm Dv) : Prop := ∀ (W : WX) (w : Wd) (σ : L2.St) (S : Store) (a : Addr) (n : Nat) (xs : List V) (ds : List Dv) (res : Rs Dv) (Q : VK), SOk G w S → w.as[n]? = some a → RpAll G w xs ds → k n ds S = some res → PR G W (Rp G) w σ res Q → r (.ref a) xs w.H Q
theorem meth1_body {r : V → List V → Hp → VK → Prop} {k : Nat → List Dv → Mm Dv} {fo : FE} {fa : FA} (hd : MethD G r k) : ∀ σ H Q, tD G ξ W (fMeth1 k fo fa) σ H Q → tBM G.K "list" r (tD G ξ W fo) (tDA G ξ W fa) σ H Q := fun σ H Q ⟨w, env, S, res, eH, s, en, h, p⟩ => by
  subst eH
  refine seqR s en h p.px fun x S1 v w1 e1 s1 en1 r1 h1 => ?_
  cases q : isL x S1 with
  | none => rw [q] at h1; cases h1
  | some n =>
    rw [q] at h1
    obtain ⟨rfl, a, xs, ds, rfl, ha, hS, hx, rx⟩ := isL_ok s1 r1 q
    refine ⟨.inl ⟨rfl, xs, SqL.of hx⟩, ?_⟩
    exact seqR s1 en1 h1 (p.px.mono e1 s1) fun ys S2 us w2 e2 s2 en2 r2 h2 => hd W w2 σ S2 a n us ys res Q s2 (e2.as_of ha) r2 h2 (p.mono (e1.trans e2) s2)
@[simp] def appK (n : Nat) (ds : List Dv) : Mm Dv := fun S => match ds, S[n]? with
  | [y], some (.lst xs) => if xs.length ≤ big then some (.ok .non (S.set n (.lst (xs ++ [y])))) else none
  | _, _ => none
theorem md_app : MethD G rAppend appK := by
  intro W w σ S a n xs ds res Q s ha r h p
  unfold appK at h
  split at h
  · rename_i y zs hS
    by_cases z : zs.length ≤ big
    · rw [if_pos z] at h
      cases h
      obtain ⟨v, rfl, hv⟩ := rp1 r
      obtain ⟨us, hx, rx⟩ := s.cont n a _ ha hS
      have e4 : Ext w (w.put a (.lst (us ++ [v]))) := .upd ha
      exact ⟨a, us, v, rfl, rfl, hx, by rw [rx.length]; exact big_lt z, p.ok_ (w' := w.put a (.lst (us ++ [v]))) e4 (s.upd ha ⟨_, upd_same, (rx.mono e4).append (.cons (hv.mono e4) .nil)⟩) .non⟩
    · rw [if_neg z] at h; cases h
  · cases h
theorem d_append {o a : Expr} {fo : FE} {fa : FA} {apos cpos : Pos} (ho : DE X ξ W o fo) (ha : DA X ξ W [a] fa)
    (hbase : attributeBase o "append" X.env (eval o X.env) = eval o X.env := by rfl)
    (hfew : ((backTo cpos (starEach [a] X.env)).all (fun x => !x.1) && (backToKw cpos (keywordEach [] X.env)).all (fun x => x.1.isSome)
      && decide ([a].length + ([] : List Keyword).length + (if ([] : List Keyword).isEmpty then 0 else 1) < 30)) = true := by rfl)
    (hline : (apos.endLine == cpos.line) = true := by rfl) (hs : starEach [a] X.env = (false, eval a X.env) :: starEach [] X.env := by rfl) (hplain : (backTo cpos (starEach [] X.env)).any (·.1) = false := by rfl) :
    DE X ξ W (.Call (.Attribute o "append" apos) [a] [] cpos) (fMeth1 appK fo fa) :=
  PE.imp (pe_bm PySem.F.plainAttrs_list PySem.F.slot_list_append PySem.F.type_list_append mt_append ho ha hbase hfew hline hs hplain) (meth1_body md_app)
end
/-! ### defs -/
abbrev DFn := List Dv → Mm Dv
/-- what the def answers, as data -/
def spD (K : PySem.W.Frag) (mg : Str → Option Value) (n : Nat) (F : DFn) : Sp := fun vs H Q E => vs.length = n ∧ ∃ (w : Wd) (S : Store) (ds : List Dv) (r : Rs Dv), w.H = H ∧ SOk ⟨K, cOf mg⟩ w S ∧ RpAll ⟨K, cOf mg⟩ w vs ds ∧ F ds S = some r ∧
  PR ⟨K, cOf mg⟩ (fun cls d _ H => E cls d H) (Rp ⟨K, cOf mg⟩) w [] r Q
@[simp] def bodyF (n : Nat) (fb : FS) : DFn := fun ds S => match fb (ds.map some ++ List.replicate (n - ds.length) none) S with
  | some (.nx _ S') => some (.ok .non S')
  | some (.rt d S') => some (.ok d S')
  | some (.exc c fs _ S') => some (.exc c fs S')
  | _ => none
section
variable {X : Cx} {ξ : Iv} {W : WX} {G : Gp}
theorem start_ok {w : Wd} {N : List Str} {vs : List V} {ds : List Dv} (r : RpAll G w vs ds) : EOk G Iv.no w (L2.start N vs) (ds.map some ++ List.replicate (N.length - ds.length) none) := by
  have hl := r.length
  refine ⟨by unfold L2.start; simp [hl], fun i d h => ?_, True.intro⟩
  by_cases hi : i < ds.length
  · rw [List.getElem?_append_left (by simpa using hi), List.getElem?_map] at h
    cases e : ds[i]? with
    | none => rw [e] at h; cases h
    | some d' =>
      rw [e] at h
      cases h
      obtain ⟨v, h1, h2⟩ := r.get e
      refine ⟨v, ?_, h2⟩
      unfold L2.start
      rw [List.getElem?_append_left (by simp; omega), List.getElem?_map, h1]
      rfl
  · rw [List.getElem?_append_right (by simp; omega), List.getElem?_replicate] at h
    split at h <;> cases h
/-- the wish of a def's body -/
abbrev WD (E : XK) : WX := fun cls d _ H => E cls d H
variable {P : Program} {w0 : World} {K : PySem.W.Frag} {mg : Str → Option Value} {base : Heap}
theorem fn_ok {x qual : Str} {st : Stmt} {f : Addr} {fd : FuncData} {N ps : List Str} {k : Nat} {fb : FS} (F : Fun K x qual st f fd) (S : FnScope N ps (defScope st))
    (hbody : ∀ (cdv : Value) (A : Around) (outer : List Env) (s : Shared) (H : Hp) (E : XK), Room k (A.deeper (envOfC qual (defScope st) s.heap.objs.size f cdv)) →
      DSs (cxOf (L2.CX P w0) P w0 K mg base N qual (defScope st) f cdv A outer s H E) Iv.no (WD E) (defBody st) fb) :
    FnOk P w0 K mg base (L2.CX P w0) (k + 1) f fd ps (spD K mg ps.length (bodyF N.length fb)) := by
  refine F.okX S (fun vs H Q E h => h.1) fun cdv A outer s H vs Q E hr h => ⟨_, hbody cdv A outer s H E hr, ?_⟩
  obtain ⟨hl, w, S, ds, r, eH, hs, rv, hF, p⟩ := h
  unfold bodyF at hF
  cases hb : fb (ds.map some ++ List.replicate (N.length - ds.length) none) S with
  | none => rw [hb] at hF; cases hF
  | some r1 =>
    rw [hb] at hF
    refine ⟨w, _, S, r1, eH, hs, start_ok rv, hb, ?_⟩
    cases r1 with
    | nx env' S' =>
      cases hF
      exact fun σ' w' e s' _ => p .non w' e s' .non
    | rt d S' =>
      cases hF
      exact fun v w' e s' rv => p v w' e s' rv
    | exc c fs env' S' =>
      cases hF
      exact fun σ' dd fs' w' e s' _ hd hm hn hr => p dd fs' w' e s' hd hm hn hr
    | bk _ _ => cases hF
    | ct _ _ => cases hF
/-- another word for what is answered -/
theorem fn_as {f : Addr} {fd : FuncData} {ps : List Str} {k n : Nat} {F F' : DFn} (h : FnOk P w0 K mg base (L2.CX P w0) k f fd ps (spD K mg n F)) (e : ∀ ds S r, ds.length = n → F' ds S = some r → F ds S = some r) : FnOk P w0 K mg base (L2.CX P w0) k f fd ps (spD K mg n F') :=
  h.imp fun vs H Q E ⟨hl, w, S, ds, r, eH, hs, rv, hF, p⟩ => ⟨hl, w, S, ds, r, eH, hs, rv, e ds S r (by rw [← rv.length]; exact hl) hF, p⟩
/-- f(e, ..) -/
theorem d_call {f : Addr} {fd : FuncData} {ps : List Str} {k : Nat} {F : DFn} {x : Str} {e : Expr} {es : List Expr} {p pos : Pos} {fa : FA} (hF : FnOk X.prog X.w X.K X.mg X.base (L2.CX X.prog X.w) k f fd ps (spD X.K X.mg ps.length F)) (hr : Room k X.A) (hm : X.mg x = some (.ref f)) (hk : PySem.W.keepIn X.K (.ref f) = true) (hb : Binds X.K fd ps []) (tk : Takes X W)
    (ha : DA X ξ W (e :: es) fa) (hn : (e :: es).length = ps.length) (hg : Gl X x := by rfl) (hdb : (x == ("__debug__" : Str)) = false := by decide) (he : starEach (e :: es) X.env = (false, eval e X.env) :: starEach es X.env := by rfl) (hpl : (backTo pos (starEach es X.env)).any (·.1) = false := by rfl) :
    DE X ξ W (.Call (.Name x p) (e :: es) [] pos) (fCall (fun ds => if ds.length = ps.length then F ds else stuck) fa) :=
  PE.imp (pe_callS hF hr hg hm hk hb (fun σ => passAt tk σ) ha hdb he hpl) fun σ H Q ⟨w, env, S, res, eH, s, en, h, p⟩ => by
    subst eH
    refine seqR s en h p.px fun ds S1 vs w1 e1 s1 en1 r1 h1 => ?_
    by_cases z : ds.length = ps.length
    · rw [if_pos z] at h1
      refine ⟨by rw [r1.length]; exact z, w1, S1, ds, res, rfl, s1, r1, h1, ?_⟩
      have p1 := p.mono e1 s1
      cases res with
      | ok d S' => exact p1
      | exc c fs S' => exact fun dd fs' w' e s' hd hm hn hr => p1 dd fs' w' e s' hd hm hn hr
    · rw [if_neg z] at h1; cases h1
end
end FC

set_option Elab.async false
set_option linter.all false
set_option maxRecDepth 100000
set_option maxHeartbeats 2000000
namespace PySem
namespace SupX
open PySem.W PySem.Calls PyProof.Rows PySem.HandSPX
abbrev sArgs (fld : Str) (p1 p2 : Pos) : Arguments := { posonlyargs := [], args := [{ arg := "self", annotation := none, pos := p1 }, { arg := fld, annotation := none, pos := p2 }], vararg := none, kwonlyargs := [], kw_defaults := [], kwarg := none, defaults := [] }
abbrev sBody (fld : Str) (msg : Str) (a1 a2 a3 a4 a5 a6 q1 q2 q3 q4 : Pos) : List Stmt :=
  [.Expr (.Call (.Attribute (.Call (.Name "super" a1) [] [] a2) "__init__" a3) [.Constant (.str msg) 0 a4] [] a5) a6,
   .Assign [.Attribute (.Name "self" q1) fld q2] (.Name fld q3) q4]
abbrev sScope (fld : Str) : Scope := { kind := .function, names := [(PySem.Str.ofString "self", .local), (fld, .local), (PySem.Str.ofString "__class__", .free), (PySem.Str.ofString "super", .globalImplicit)], isGenerator := false, isCoroutine := false, more := [] }
/-- what the written part says of the class at C, its __init__ at fI -/
structure SupTxt (P : Program) (K : Frag) (mg : Str → Option Value) (name fld : Str) (C fI : Addr) : Prop where
  gC : mg name = some (.ref C)
  cls : ∃ nm q N bs bm sn sub ab col dd k0 k1 k2 k3 k5, K.lookup C = some (excClassObj nm q C N bs bm true sn sub ab col dd k0 k1 k2 k3 k5 "ValueError.__new__") ∧ refsVE bm = true
  sa : findIn K (.ref C) "__setattr__" = some (some (.builtin "object.__setattr__"))
  ga : findIn K (.ref C) "__getattribute__" = some (some (.builtin "BaseException.__getattribute__"))
  gg : findIn K (.ref C) "__getattr__" = some none
  noN : findIn K (.ref C) fld = some none
  iC : findIn K (.ref C) "__init__" = some (some (.ref fI))
  tC : typeIn K (.ref fI) = some (.type "function")
  kC : keepIn K (.ref C) = true
  exC : subIn K (.ref C) (.type "BaseException") = some true
  vC : subIn K (.ref C) (.type "ValueError") = some true
  tyC : typeIn K (.ref C) = some (.type "type")
  hdC : hasDictIn K C = true
  opq : nsIn K cStatics "thirdparty.any" = some none
  spI : ks_superIn K C C "__init__" = some (some (.builtin "ValueError.__init__"))
  spN : mg "super" = none
  top : (P.main.scope.names.lookup ("super" : Str)).isSome = false
  l1 : (sScope fld).names.lookup fld = some .local
  l2 : (sScope fld).names.lookup ("super" : Str) = some .globalImplicit
  l3 : (sScope fld).names.lookup ("__class__" : Str) = some .free
  l4 : (fld == ("__debug__" : Str)) = false
  l5 : (("self" : Str) == fld) = false
  fn : ∃ (qual msg : Str) (oc : Value) (od : Option Addr) (doc pm : Value) (an : Option Addr) (cda cc : Addr) (ct : Value) (osl : Array (Option Value)) (p1 p2 a1 a2 a3 a4 a5 a6 q1 q2 q3 q4 : Pos) (ccl cl : Value) (cdd cld : Option Addr) (vs : Array Value) (ccs csl : Array (Option Value)) (file : Str) (tf : Tok),
    K.lookup fI = some ⟨oc, od, .func (ksFn "__init__" qual (sArgs fld p1 p2) (sBody fld msg a1 a2 a3 a4 a5 a6 q1 q2 q3 q4) (sScope fld) .none .none doc pm an (.ref cda) ct cc), osl⟩ ∧ codeIn K (.ref cda) qual = true ∧
    K.lookup cda = some ⟨ccl, cdd, .fields vs, ccs⟩ ∧ vs[2]? = some (.str file tf) ∧ ((P.main.file : Str) == file) = true ∧ K.lookup cc = some ⟨cl, cld, .cell (some (.ref C)), csl⟩ ∧
    (∀ u v : Value, bindArgs (ksFn "__init__" qual (sArgs fld p1 p2) (sBody fld msg a1 a2 a3 a4 a5 a6 q1 q2 q3 q4) (sScope fld) .none .none doc pm an (.ref cda) ct cc) ⟨[u, v], []⟩ = pure [(PySem.Str.ofString "self", u), (fld, v)]) ∧
    ∃ pl : Sem Bool, ∀ L : Addr, eval (.Call (.Attribute (.Call (.Name "super" a1) [] [] a2) "__init__" a3) [.Constant (.str msg) 0 a4] [] a5) (ksEnv qual (sScope fld) L fI (.ref cda) cc) = (do
      let ov ← attributeBase (.Call (.Name "super" a1) [] [] a2) "__init__" (ksEnv qual (sScope fld) L fI (.ref cda) cc) (eval (.Call (.Name "super" a1) [] [] a2) (ksEnv qual (sScope fld) L fI (.ref cda) cc))
      standAt a3.atName
      let (f, first) ← holding [ov] (getMethod ov "__init__" pl)
      callWith a5 f first (backTo a5 (starEach [.Constant (.str msg) 0 a4] (ksEnv qual (sScope fld) L fI (.ref cda) cc))) [])
section
variable {prog : Program} {w : World} {A : Around} {E : Value → Shared → Prop} {h : Heap} {g : Array GenState} {d : Drawn} {t : Nat} {os : OsState}
variable {nm q : Str} {C N : Addr} {bs bm : List Value} {hdct : Bool} {sn : List Str} {sub : List Value} {ab : Bool} {col : Option Bool} {dd : Option Addr} {k0 k1 k2 k3 k5 : Option Value}
/-- the bound ValueError.__init__ called -/
theorem call_mw {u e t0 : Addr} {rest : List Value} {Q : Value → Shared → Prop}
    (hC : h.get? C = some (excClassObj nm q C N bs bm hdct sn sub ab col dd k0 k1 k2 k3 k5 "ValueError.__new__")) (he : h.get? e = some (HandSPX.excO C t0)) (hu : h.get? u = some (kxs_mw "ValueError.__init__" e)) (hrest : rest.length ≤ sizeLine)
    (hq : ∀ h' t1, (∀ b o, b ≠ e → h.get? b = some o → h'.get? b = some o) → h'.get? e = some (HandSPX.excO C t1) → Q .none ⟨h', g, d, t, os⟩) :
    wpAny (model prog w) A (call (.ref u) rest) Q E ⟨h, g, d, t, os⟩ := by
  refine wpAny_call (codeAny_of_tree ?_)
  show wpAny _ A.in1 (callAny (.ref u) ⟨rest, []⟩) _ _ _
  simp only [callAny]
  refine wpAny_bind (wpAny_load hu ?_)
  simp only [kxs_mw, show (Value.type "method-wrapper" == Value.type "method" || Value.type "method-wrapper" == Value.type "builtin_function_or_method" || Value.type "method-wrapper" == Value.type "method-wrapper") = true by decide, if_true]
  refine W.KFB.if_so (by decide) ?_
  refine wpAny_bind (ESX.check_bound F.excBase_ValueError hC he rfl ?_)
  refine wpAny_bind (wpAny_pure (wpAny_pure ?_))
  refine ⟨Code.quiet_builtin _ (by decide +kernel), codeAny_builtin F.excBase_ValueError.initEntry ?_⟩
  rw [Around.under_plainId F.excBase_ValueError.init.plain _]
  wp_walk
  refine hq _ h.objs.size (fun b o hb ho => ?_) ?_
  · rw [Heap.get?_update_other _ _ (Ne.symm hb)]
    exact Heap.get?_push_of_some _ ho
  · rw [Heap.get?_update_self _ (Heap.get?_push_of_some _ he) rfl]
    rfl
end
theorem callWith1 {M : Model} {A : Around} {E : Value → Shared → Prop} {s : Shared} {i : String} {u x : Addr} {pos : Pos} {env : Env} {e : Expr} {Q : Value → Shared → Prop}
    (h : wpAny M A (spliced (backTo pos (starEach [e] env))) (fun vs s₁ => KxsAt i u x s₁.heap ∧ wpAny M A (call (.ref u) vs) Q E s₁) E s)
    (he : starEach [e] env = [(false, eval e env)]) :
    wpAny M A (callWith pos (.ref u) [] (backTo pos (starEach [e] env)) []) Q E s := by
  rw [he] at h ⊢
  refine kxs_callWith (i := i) (x := x) rfl ?_
  exact evalArgs_plain h
theorem kept_but {K : Frag} {h h' : Heap} {x : Addr} (X : K.In h) (hx : K.lookup x = none) (k : ∀ b o, b ≠ x → h.get? b = some o → h'.get? b = some o) : K.In h' := fun a o e =>
  k a o (fun z => by rw [z, hx] at e; cases e) (X a o e)
/-- what __init__ leaves of a fresh exception at x -/
structure InitEnd (h h' : Heap) (fld : Str) (x C dx t1 : Addr) (v : Value) : Prop where
  keep : ∀ b o, b ≠ x → h.get? b = some o → h'.get? b = some o
  obj : h'.get? x = some { cls := .ref C, dict := some dx, data := .fields #[.ref t1, .none, .none, .none, .bool false, .none] }
  dbig : h.objs.size ≤ dx
  dne : dx ≠ x
  ns : h'.Ns1 dx (fun y => if y = fld then some v else none)
/-- a made exception -/
structure OwnMade (h h' : Heap) (fld : Str) (e C d : Addr) (v : Value) : Prop where
  keep : ∀ b o, h.get? b = some o → h'.get? b = some o
  new : h.objs.size ≤ e
  obj : ∃ oe vs, h'.get? e = some oe ∧ oe.cls = .ref C ∧ oe.dict = some d ∧ oe.data = .fields vs ∧ vs[1]? = some .none
  dbig : h.objs.size ≤ d
  dne : d ≠ e
  ns : h'.Ns1 d (fun y => if y = fld then some v else none)
section
variable {prog : Program} {w : World} {A : Around} {E : Value → Shared → Prop} {R : Result → Shared → Prop} {s : Shared} {K : Frag} {mg mb : Str → Option Value} {name fld : Str} {C fI : Addr}
theorem sup_init (T : SupTxt prog K mg name fld C fI) {x t0 : Addr} {v : Value} (X : K.In s.heap) (hG : s.heap.Ns mainGlobals mg) (hB : s.heap.Ns builtinsNs mb) (hb : ∀ x : Str, x ≠ "__name__" → mb x = bootBuiltins x) (hlim : s.heap.NoLimit) (hx : s.heap.get? x = some (excO C t0)) (hnx : K.lookup x = none) (hroom : A.depth < recursionLimit)
    (hq : ∀ h' tk dx t1, InitEnd s.heap h' fld x C dx t1 v → R (.ok (.ret .none)) { s with heap := h', toks := tk }) :
    codeAny (model prog w) A (.call (.ref fI) ⟨[.ref x, v], []⟩) R s := by
  obtain ⟨qual, msg, oc, od, doc, pm, an, cda, cc, ct, osl, p1, p2, a1, a2, a3, a4, a5, a6, q1, q2, q3, q4, ccl, cl, cdd, cld, vs, ccs, csl, file, tf, ho, hcd, hcode, hvs, hfile, hcell, hbind, pl, hev⟩ := T.fn
  obtain ⟨nm, q, N, bs, bm, sn, sub, ab, col, dd, k0, k1, k2, k3, k5, hC, hbm⟩ := T.cls
  have hcl : clsIn K C = some { name := nm, bases := bs, mro := .ref C :: bm, ns := N, qualname := q, hasDict := true, slotNames := sn, subclasses := sub, abstract := ab, collection := col, hasDel := false } := by unfold clsIn; rw [hC] <;> rfl
  have lself : (sScope fld).names.lookup ("self" : Str) = some .local := by rfl
  have lfld := T.l1
  have lsup := T.l2
  have lcls := T.l3
  have hxL : s.heap.objs.size ≠ x := Nat.ne_of_gt (Heap.lt_size hx)
  refine ks_codeAny_call_defAt (binds := [(PySem.Str.ofString "self", .ref x), (fld, v)]) hroom (X _ _ ho) rfl hlim (codeRec_of X hcd) rfl (BindsTo.of_eq (hbind _ _)) (fun y hy => ?_) (fun y hy => ?_) (fun h₁ hn k => ?_) rfl rfl rfl
  · have hy' : y = (PySem.Str.ofString "self", NameKind.local) ∨ y = (fld, NameKind.local) ∨ y = (PySem.Str.ofString "__class__", NameKind.free) ∨ y = (PySem.Str.ofString "super", NameKind.globalImplicit) := by simpa using hy
    rcases hy' with e | e | e | e <;> (rw [e]; intro z; cases z)
  · have hy' : y = (PySem.Str.ofString "self", Value.ref x) ∨ y = (fld, v) := by simpa using hy
    rcases hy' with e | e
    · rw [e]; exact lself
    · rw [e]; exact lfld
  · have X₁ : K.In h₁ := X.keeps k
    have hx₁ := k _ _ hx
    have hC₁ := X₁ _ _ hC
    have mself : (fun y => List.lookup y [(PySem.Str.ofString "self", Value.ref x), (fld, v)].reverse) ("self" : Str) = some (.ref x) := by
      show List.lookup ("self" : Str) [(fld, v), (PySem.Str.ofString "self", Value.ref x)] = _
      rw [List.lookup_cons, show ((PySem.Str.ofString "self") == fld) = false from T.l5]
      rfl
    have mfld : (fun y => List.lookup y [(PySem.Str.ofString "self", Value.ref x), (fld, v)].reverse) fld = some v := by
      show List.lookup fld [(fld, v), (PySem.Str.ofString "self", Value.ref x)] = _
      rw [List.lookup_cons, beq_self_eq_true]
    show _root_.PySem.wpAt _ _ _ (execs (sBody fld msg a1 a2 a3 a4 a5 a6 q1 q2 q3 q4) (ksEnv qual (sScope fld) s.heap.objs.size fI (.ref cda) cc)) _ _ _
    refine ks_wpAt_execs_cons (ks_wpAt_Expr_any (ks_wpAt_MethodCall ?_ (hev _)) (by rfl) (by rfl))
    refine ks_wpAt_super_base (env := ksEnv qual (sScope fld) s.heap.objs.size fI (.ref cda) cc) lsup lcls (by decide) rfl (X₁ _ _ ho) rfl rfl rfl (X₁ _ _ hcode) rfl hvs hfile T.top ?_
    refine ks_loadName_global rfl lsup (loadGlobal_builtin (env := ksEnv qual (sScope fld) s.heap.objs.size fI (.ref cda) cc) (hG.keeps k) T.spN (hB.keeps k) ((hb "super" (by decide)).trans (by decide +kernel)) ⟨rfl, ?_⟩)
    refine wpAny_loadName_free rfl lcls rfl ⟨_, X₁ _ _ hcell, rfl⟩ ?_
    refine wpAny_loadName_local rfl lself hn mself ?_
    refine ks_wpAny_isType_cls hC₁ rfl ⟨rfl, ?_⟩
    have hsub : mroIn K C (.ref C) = some true := by
      unfold mroIn
      rw [hcl, Option.bind_some]
      simp
    refine ks_wpAny_call_super hC₁ rfl hx₁ rfl (fun c e => nomatch e) (looks_mroIn X₁ hsub) (fun h₂ e₂ k₂ => ?_)
    have X₂ : K.In h₂ := X₁.keeps k₂
    have hx₂ := k₂ _ _ hx₁
    have I₂ : InstAt h₂ x (excO C t0) C none := ⟨hx₂, rfl, rfl, trivial⟩
    have hf : alongIn K "__init__" (((Value.ref C :: bm).dropWhile (· != .ref C)).drop 1) = some (some (.builtin "ValueError.__init__")) := by
      have q := T.spI
      unfold ks_superIn at q
      rw [hcl] at q
      exact q
    have hne : x ≠ C := ks_ne X₂ I₂ hcl
    refine kxs_getMethod kxs_ValueError (so := h₁.objs.size) (D := C) e₂ (looks_opaque X₂ T.opq) (l₀ := .ref C :: bm) (fun A Q E s k q => wpAny_bind ((looks_clsIn X₂ hcl) A _ E s k (wpAny_pure q))) rfl X₂ hf (I₂.type.andThen (looks_subIn X₂ T.vC)) hne (by decide) ?_
    refine callWith1 (i := "ValueError.__init__") (x := x) ?_ rfl
    show wpAny _ _ (spliced ((false, eval (.Constant (.str msg) 0 a4) (ksEnv qual (sScope fld) s.heap.objs.size fI (.ref cda) cc)) :: backTo a5 [])) _ _ _
    refine Calls.spliced_cons (Calls.Constant_str (Calls.spliced_nil ⟨?_, ?_⟩))
    · exact Heap.get?_push_at rfl rfl
    · have k₃ : ∀ b o, h₂.get? b = some o → (h₂.push (kxs_mw "ValueError.__init__" x)).get? b = some o := fun b o e => Heap.get?_push_of_some _ e
      have X₃ : K.In (h₂.push (kxs_mw "ValueError.__init__" x)) := X₂.keeps k₃
      refine call_mw (t0 := t0) (X₃ _ _ hC) (k₃ _ _ hx₂) (Heap.get?_push_at rfl rfl) (by rw [sizeLine_eq]; exact (by decide : 1 ≤ 16777216)) fun h₄ t1 k₄ hx₄ => ?_
      have X₄ : K.In h₄ := kept_but X₃ hnx k₄
      have old : ∀ b o, b ≠ x → s.heap.get? b = some o → h₄.get? b = some o := fun b o hb e => k₄ b o hb (k₃ b o (k₂ b o (k b o e)))
      have hn₄ : h₄.Ns s.heap.objs.size fun y => List.lookup y [(PySem.Str.ofString "self", Value.ref x), (fld, v)].reverse := by
        obtain ⟨oL, es, ep, hL, r⟩ := hn
        exact ⟨oL, es, ep, k₄ _ _ hxL (k₃ _ _ (k₂ _ _ hL)), r⟩
      refine ks_wpAt_execs_cons (ks_wpAt_Assign_Attr ?_ (by rfl))
      refine wpAt_of_wpAny (wpAny_Name (wpAny_loadName_local rfl lfld hn₄ mfld ?_) T.l4)
      refine wpAny_Name (wpAny_loadName_local rfl lself hn₄ mself ?_) (by decide)
      refine set_plain X₄ (ox := excO C t1) (od := none) ⟨hx₄, rfl, rfl, trivial⟩ T.sa ?_
      refine exc_osa X₄ hx₄ hcl (show refsVE (.ref C :: bm) = true from hbm) rfl T.noN (fun h₅ tk₅ dx k₅ dn dne hx₅ hn₅ => ?_)
      refine wpAt_of_wpAny (wpAny_execs_nil ?_)
      refine hq h₅ tk₅ dx t1 ⟨fun b o hb e => k₅ b o hb (old b o hb e), hx₅, ?_, dne, hn₅⟩
      obtain ⟨oL, es, ep, hL, _⟩ := hn₄
      exact Nat.le_trans (Nat.le_of_lt (Heap.lt_size hL)) dn
theorem sup_made (T : SupTxt prog K mg name fld C fI) {v : Value} (X : K.In s.heap) (hG : s.heap.Ns mainGlobals mg) (hB : s.heap.Ns builtinsNs mb) (hb : ∀ x : Str, x ≠ "__name__" → mb x = bootBuiltins x) (hlim : s.heap.NoLimit) (hroom : A.depth + 1 < recursionLimit)
    (hq : ∀ h' tk e d, OwnMade s.heap h' fld e C d v → R (.ok (.ret (.ref e))) { s with heap := h', toks := tk }) :
    codeAny (model prog w) A (.call (.ref C) ⟨[v], []⟩) R s := by
  obtain ⟨nm, q, N, bs, bm, sn, sub, ab, col, dd, k0, k1, k2, k3, k5, hC, hbm⟩ := T.cls
  obtain ⟨hp, g, dr, tk, os⟩ := s
  have k : ∀ b o, hp.get? b = some o → ((hp.push (kdv_tup [v])).push (excO C hp.objs.size)).get? b = some o := fun b o e => Heap.get?_push_of_some _ (Heap.get?_push_of_some _ e)
  have hget : ((hp.push (kdv_tup [v])).push (excO C hp.objs.size)).get? (hp.objs.size + 1) = some (excO C hp.objs.size) := by heap_get
  have hnx : K.lookup (hp.objs.size + 1) = none := by
    cases e : K.lookup (hp.objs.size + 1) with
    | none => rfl
    | some o =>
      have z : hp.get? (hp.objs.size + 1) = some o := X _ _ e
      exact absurd (Nat.lt_of_succ_lt (Heap.lt_size z)) (Nat.lt_irrefl _)
  refine call_own F.excBase_ValueError (fun X => refsVE_contains X bm hbm) (X _ _ hC) (looks_findIn X T.iC) (fun self => bind_fn X self T.tC) (by rw [sizeLine_eq]; exact (by decide : 1 ≤ 16777216)) ?_
  refine sup_init (s := ⟨(hp.push (kdv_tup [v])).push (excO C hp.objs.size), g, dr, tk, os⟩) T (X.keeps k) (hG.keeps k) (hB.keeps k) hb (hlim.keeps k) hget hnx ?_ fun h' tk' dx t1 ⟨k', hx, dn, dne, hns⟩ => ?_
  · show A.depth + 1 < recursionLimit
    exact hroom
  · have old : ∀ b o, hp.get? b = some o → h'.get? b = some o := fun b o e => k' b o (Nat.ne_of_lt (Nat.lt_succ_of_lt (Heap.lt_size e))) (k b o e)
    have z : hp.objs.size + 1 + 1 ≤ dx := by
      first
        | (simpa only [Heap.size_push] using dn)
        | exact dn
        | (have q := dn; rw [Heap.size_push, Heap.size_push] at q; exact q)
    exact ⟨rfl, hq h' tk' (hp.objs.size + 1) dx ⟨old, Nat.le_succ _, ⟨_, _, hx, rfl, rfl, rfl, rfl⟩, Nat.le_trans (Nat.le_trans (Nat.le_succ _) (Nat.le_succ _)) z, dne, hns⟩⟩
end
end SupX
end PySem

set_option Elab.async false
set_option linter.all false
set_option maxRecDepth 100000
set_option maxHeartbeats 2000000
namespace FC
open PySem PySem.Spec L2
open PySem.SupX (SupTxt)
theorem relO_one {v : V} {v' : Value} {fld : Str} (r : RelV v v') (f : Str) : RelO (List.lookup f [(fld, v)]) (if f = fld then some v' else none) := by
  by_cases hw : f = fld
  · subst hw
    rw [if_pos rfl]
    have q : List.lookup f [(f, v)] = some v := by simp [List.lookup]
    rw [q]
    exact r
  · rw [if_neg hw]
    have qw : (f == fld) = false := by simpa using hw
    have q2 : List.lookup f [(fld, v)] = none := by simp [List.lookup, qw]
    rw [q2]
    trivial
section
variable {X : Cx} {ξ : Iv} {W : WX} {G : Gp} {name fld : Str} {C fI : Addr}
def tMkSup (C : Addr) (fld : Str) (ta : TA) : L2.St → Hp → XK → Prop := fun σ H Q => ta σ H fun vs H1 => ∃ v, vs = [v] ∧ ∀ d, H1 d = none → Q (.ref C) (some d) (upd H1 d (.xd [(fld, v)]))
theorem pmk_sup {a : Expr} {ta : TA} {p pos : Pos} {k : Nat} (T : SupTxt X.prog X.K X.mg name fld C fI) (hr : Room k X.A) (ha : PA X [a] ta) (hg : Gl X name := by rfl) (hdb : (name == ("__debug__" : Str)) = false := by decide)
    (he : starEach (a :: []) X.env = (false, eval a X.env) :: starEach [] X.env := by rfl) (hpl : (backTo pos (starEach [] X.env)).any (·.1) = false := by rfl) :
    PMk X (.Call (.Name name p) [a] [] pos) (tMkSup C fld ta) := by
  intro pins s σ H Q I h
  refine wpAny_Call_Name_kw (ld_glob I hg T.gC ?_ hdb)
  refine PySem.W.callWith_K (h₀ := X.base) I.ok.mod.kin T.kC (thn (ha.run pos pins s σ H _ I h) fun us s1 hh => ?_) he hpl
  obtain ⟨vs, H1, I1, r1, v, ev, q1⟩ := hh
  subst ev
  refine ⟨I1.kIn, ?_⟩
  cases r1 with
  | cons rv rn =>
    rename_i v' us'
    cases rn
    show wpAny _ _ (call (.ref C) [v']) _ _ _
    have hlim := I1.nolimit
    obtain ⟨mb, hb1, hb2⟩ := I1.mod.blt
    have hG : s1.heap.Ns mainGlobals X.mg := I1.mod.glob.keeps I1.bk
    have hB : s1.heap.Ns builtinsNs mb := hb1.keeps I1.bk
    obtain ⟨hp, g, d, t, os⟩ := s1
    refine wpAny_call (PySem.SupX.sup_made T I1.kIn hG hB hb2 hlim (by have := hr.dp; omega) fun h' tk' e d M => ?_)
    show MkP X pins σ Q (.ref e) ⟨h', g, _, tk', os⟩
    obtain ⟨oe, fv, hoe, hc, hd, hdat, h1⟩ := M.obj
    have hns := M.ns
    obtain ⟨G', g1, g2⟩ := restrict h' fun b => decide (b ≠ e)
    have gk : ∀ b, b ≠ e → G'.get? b = h'.get? b := fun b hb => g1 b (decide_eq_true hb)
    have ge : G'.get? e = none := g2 e (by simp)
    have old : ∀ b o, hp.get? b = some o → G'.get? b = some o := fun b o q => (gk b (Nat.ne_of_lt (Nat.lt_of_lt_of_le (Heap.lt_size q) M.new))).trans (M.keep b o q)
    have ob : ObjOk X.prog X.w (upd H1 d (.xd [(fld, v)])) G' d (.xd [(fld, v)]) :=
      ⟨_, hns.at (fun o q => (gk d M.dne).trans q), fun f => relO_one rv f⟩
    have J : Inv X pins σ (upd H1 d (.xd [(fld, v)])) ⟨G', g, _, tk', os⟩ := I1.laid (t' := tk') old M.dbig ob
    refine ⟨e, oe, fv, ⟨G', g, _, tk', os⟩, _, .ref C, some d, rfl, J, fun b o q => ?_, ge, hoe, ⟨hc, hd⟩, hdat, h1, ?_, rfl, I1.bare, raises_own T.exC T.tyC, q1 d (I1.hok.fresh M.dbig)⟩
    · by_cases hb : b = e
      · have q' : G'.get? b = some o := q
        rw [hb, ge] at q'; cases q'
      · exact (gk b hb).symm.trans q
    · rw [upd_ne (Ne.symm M.dne)]
      exact I1.hok.fresh M.new
/-- raise C(e) -/
def sRaise (name : Str) (flds : List Str) (fa : FA) : FS := sBnd fa fun ds env S => if ds.length = flds.length then some (.exc name (flds.zip ds) env S) else none
theorem s_raise1 {a : Expr} {fa : FA} {p pos pos2 : Pos} {k : Nat} (hc : X.calm = true) (T : SupTxt X.prog X.K X.mg name fld C fI) (hr : Room k X.A) (tk : Takes X W) (ha : DA X ξ W [a] fa) (hg : Gl X name := by rfl) (hdb : (name == ("__debug__" : Str)) = false := by decide)
    (he : starEach (a :: []) X.env = (false, eval a X.env) :: starEach [] X.env := by rfl) (hpl : (backTo pos (starEach [] X.env)).any (·.1) = false := by rfl) :
    DS X ξ W (.Raise (some (.Call (.Name name p) [a] [] pos)) none pos2) (sRaise name [fld] fa) :=
  PS.imp (ps_raise hc tk (pmk_sup T hr ha hg hdb he hpl)) fun D σ H ⟨w, env, S, r, eH, s, en, h, p⟩ => by
    subst eH
    refine seqS s en h p.px fun ds S1 vs w1 e1 s1 en1 r1 h1 => ?_
    have h1' : (if ds.length = 1 then some (Rf.exc name ([fld].zip ds) env S1) else none) = some r := h1
    by_cases z : ds.length = 1
    · rw [if_pos z] at h1'
      cases h1'
      match ds, z with
      | [d], _ =>
        obtain ⟨v, rfl, hv⟩ := rp1 r1
        have eC : (gp X).cA name = C := by
          show cOf X.mg name = C
          unfold cOf
          rw [T.gC]
        refine ⟨v, rfl, fun dd hdd => ?_⟩
        have q := p σ dd [(fld, v)] (w1.put dd (.xd [(fld, v)])) (e1.trans (.put hdd)) (s1.put hdd) ((en1.mono (.put hdd))) upd_same (s1.fresh hdd) rfl (.cons (hv.mono (.put hdd)) .nil)
        rw [eC] at q
        exact q
    · rw [if_neg z] at h1'
      cases h1'
end
end FC

set_option Elab.async false
set_option linter.all false
set_option maxRecDepth 100000
set_option maxHeartbeats 2000000
namespace FC
open PySem PySem.Spec L2
section
variable {X : Cx} {ξ : Iv} {W : WX} {G : Gp}
/-! ### try .. except C as n -/
def XdOk (G : Gp) (w : Wd) (dd : Addr) (flds : List (Str × Dv)) : Prop := ∃ fs', w.H dd = some (.xd fs') ∧ ¬ w.M dd ∧ fs'.map Prod.fst = flds.map Prod.fst ∧ RpAll G w (fs'.map Prod.snd) (flds.map Prod.snd)
theorem XdOk.mono {w w' : Wd} {dd : Addr} {flds : List (Str × Dv)} (e : Ext w w') (h : XdOk G w dd flds) : XdOk G w' dd flds := by
  obtain ⟨fs', h1, h2, h3, h4⟩ := h
  exact ⟨fs', e.kp id (fun z => h2 (.inr z)) h1, e.nM _ _ h1 h2, h3, h4.mono e⟩
def Ix (G : Gp) (i : Nat) (a dd : Addr) (flds : List (Str × Dv)) : Iv := ⟨fun w σ => σ[i]? = some (some (.ref a)) ∧ XdOk G w dd flds, fun j => j ≠ i, fun w w' σ e h => ⟨h.1, h.2.mono e⟩, fun w σ j v hj h => ⟨by rw [List.getElem?_set_ne hj]; exact h.1, h.2⟩⟩
@[simp] def erase (i : Nat) : Option Rf → Option Rf
  | some (.nx env S) => some (.nx (env.set i none) S)
  | some (.rt d S) => some (.rt d S)
  | some (.bk env S) => some (.bk (env.set i none) S)
  | some (.ct env S) => some (.ct (env.set i none) S)
  | _ => none
@[simp] def sTryAs (fb : FS) (cn : Str → Option Bool) (i : Nat) (fsu : Str → List (Str × Dv) → FS) : FS := fun env S => match fb env S with
  | some (.exc c flds env1 S1) => match cn c with
    | some true => if i < env1.length then erase i (fsu c flds (env1.set i none) S1) else none
    | some false => some (.exc c flds env1 S1)
    | none => none
  | r => r
theorem EOk.unset {I : Iv} {w : Wd} {σ : L2.St} {env : DEnv} {i : Nat} {o : Option V} (h : EOk G I w σ env) : EOk G Iv.no w (σ.set i o) (env.set i none) := ⟨by simp [h.len], fun j d q => by
  by_cases z : i = j
  · subst z
    rw [List.getElem?_set_self'] at q
    cases e : env[i]? with
    | none => rw [e] at q; cases q
    | some o => rw [e] at q; cases q
  · rw [List.getElem?_set_ne z] at q
    obtain ⟨u, h1, h2⟩ := h.get j d q
    exact ⟨u, by rw [List.getElem?_set_ne z]; exact h1, h2⟩, True.intro⟩
theorem s_try_as {x n : Str} {c : Value} {i : Nat} {body suite : List Stmt} {b₀ : Stmt} {np pos pos' : Pos} {fb : FS} {cn : Str → Option Bool} {fsu : Str → List (Str × Dv) → FS}
    (hN : X.N.Nodup) (hc : Names X x c) (tk : Takes X W)
    (hb : ∀ (W' : WX) (pn : List (Addr × Obj)) (xe : Value → Shared → Prop), Takes (X.tr pn xe) W' → PassesOwn (model X.prog X.w) X.A X.env xe → DSs (X.tr pn xe) Iv.no W' body fb)
    (hcn : ∀ c' b, cn c' = some b → PySem.W.exmOne X.K (.ref (cOf X.mg c')) c = some b)
    (hsu : ∀ (a : Addr) (oe : Obj) (dd : Addr) (c' : Str) (flds : List (Str × Dv)) (pn : List (Addr × Obj)), cn c' = some true → Zc (.ref (cOf X.mg c')) (some dd) oe → (∃ vs, oe.data = .fields vs) → DSs (X.suite a ((a, oe) :: pn)) (Ix (gp X) i a dd flds) W0 (b₀ :: suite) (fsu c' flds))
    (hs : X.stack = X.env :: X.outer := by rfl) (hf : X.env.frame = some X.env.locals := by rfl) (hi : X.N[i]? = some n := by rfl) (hln : X.env.kindOf n = some .local := by rfl) :
    DS X Iv.no W (.Try body [.ExceptHandler (some (.Name x np)) (some n) (b₀ :: suite) pos'] [] [] pos) (sTryAs fb cn i fsu) := by
  refine PS.imp (ps_try_as (Wout := W) (tb := fun W' => tF (gp X) Iv.no W' fb) (ts := fun a cls d D σ H => ∃ (c' : Str) (flds : List (Str × Dv)) (dd : Addr), cls = .ref (cOf X.mg c') ∧ d = some dd ∧ cn c' = some true ∧ tF (gp X) (Ix (gp X) i a dd flds) W0 (fsu c' flds) D σ H)
    hs hf hN hi hln hc tk hb (fun a oe cls d pn hz hv => ⟨fun pins s σ H D I h => ?_⟩)) fun D σ H ⟨w, env, S, r, eH, s, en, h, p⟩ => ?_
  · obtain ⟨c', flds, dd, rfl, rfl, hct, h⟩ := h
    exact (hsu a oe dd c' flds pn hct hz hv).run pins s σ H D I h
  · subst eH
    unfold sTryAs at h
    cases h1 : fb env S with
    | none => rw [h1] at h; cases h
    | some r1 =>
      rw [h1] at h
      refine ⟨w, env, S, r1, rfl, s, en, h1, ?_⟩
      cases r1 with
      | nx env1 S1 => cases h; exact p
      | rt d S1 => cases h; exact p
      | bk env1 S1 => cases h; exact p
      | ct env1 S1 => cases h; exact p
      | exc c' flds env1 S1 =>
        intro σ' dd fs' w' e' s' en' hd hm hn hr
        have h2 : (match cn c' with | some true => if i < env1.length then erase i (fsu c' flds (env1.set i none) S1) else none | some false => some (.exc c' flds env1 S1) | none => none) = some r := h
        cases hb' : cn c' with
        | none => rw [hb'] at h2; cases h2
        | some b =>
          rw [hb'] at h2
          refine ⟨b, hcn c' b hb', fun hbt a ha => ?_, fun hbf => ?_⟩
          · subst hbt
            have h3 : (if i < env1.length then erase i (fsu c' flds (env1.set i none) S1) else none) = some r := h2
            by_cases hil : i < env1.length
            · rw [if_pos hil] at h3
              refine ⟨c', flds, dd, rfl, rfl, hb', ?_⟩
              cases h4 : fsu c' flds (env1.set i none) S1 with
              | none => rw [h4] at h3; cases h3
              | some r4 =>
                rw [h4] at h3
                have q := en'.unset (i := i) (o := some (.ref a))
                refine ⟨w', env1.set i none, S1, r4, rfl, s', ⟨q.len, q.get, ?_, fs', hd, hm, hn, hr⟩, h4, ?_⟩
                · rw [List.getElem?_set_self (by rw [en'.len]; exact hil)]
                · cases r4 with
                  | nx env5 S5 =>
                    cases h3
                    exact fun σ5 w5 e5 s5 en5 => p _ w5 (e'.trans e5) s5 en5.unset
                  | rt d5 S5 =>
                    cases h3
                    exact fun v w5 e5 s5 r5 => p v w5 (e'.trans e5) s5 r5
                  | bk env5 S5 =>
                    cases h3
                    exact fun σ5 w5 e5 s5 en5 => p _ w5 (e'.trans e5) s5 en5.unset
                  | ct env5 S5 =>
                    cases h3
                    exact fun σ5 w5 e5 s5 en5 => p _ w5 (e'.trans e5) s5 en5.unset
                  | exc _ _ _ _ => cases h3
            · rw [if_neg hil] at h3; cases h3
          · subst hbf
            cases h2
            exact p σ' dd fs' w' e' s' en' hd hm hn hr
/-! ### the caught exception -/
variable {a dd : Addr} {oe : Obj} {pn : List (Addr × Obj)} {c : Str} {flds : List (Str × Dv)} {i : Nat}
theorem fld_at {w : Wd} {f : Str} {d : Dv} : ∀ {fs' : List (Str × V)} {flds : List (Str × Dv)}, fs'.map Prod.fst = flds.map Prod.fst → RpAll G w (fs'.map Prod.snd) (flds.map Prod.snd) → flds.lookup f = some d → ∃ v, fs'.lookup f = some v ∧ Rp G w v d
  | [], [], _, _, h => by cases h
  | [], _ :: _, h, _, _ => by cases h
  | _ :: _, [], h, _, _ => by cases h
  | (g, v) :: fs', (g', d') :: flds, hn, hr, h => by
    have e1 : g = g' ∧ fs'.map Prod.fst = flds.map Prod.fst := by simpa using hn
    obtain ⟨rfl, hn'⟩ := e1
    have hr' : RpAll G w (v :: fs'.map Prod.snd) (d' :: flds.map Prod.snd) := hr
    cases hr' with
    | cons hv hrr =>
      rw [List.lookup_cons] at h ⊢
      cases q : (f == g) with
      | true =>
        rw [q] at h
        cases h
        exact ⟨v, rfl, hv⟩
      | false =>
        rw [q] at h
        exact fld_at hn' hrr h
@[simp] def fXf (flds : List (Str × Dv)) (f : Str) : FE := fun _ => ofO (flds.lookup f)
/-- e.f -/
theorem d_xf {x f : Str} {p pos : Pos} (T : XfC X.K (cOf X.mg c)) (hno : PySem.W.findIn X.K (.ref (cOf X.mg c)) f = some none) (hz : Zc (.ref (cOf X.mg c)) (some dd) oe) (hf : ∃ vs, oe.data = .fields vs)
    (hN : X.N[i]? = some x := by rfl) (hv : Vis X.env.scope x := by first | exact Or.inl rfl | exact Or.inr (Or.inl rfl) | exact Or.inr (Or.inr rfl)) (hd : (x == ("__debug__" : Str)) = false := by decide) (hcd : (x == ("__classdict__" : Str)) = false := by decide) (hb : attributeBase (.Name x p) f X.env (eval (.Name x p) X.env) = eval (.Name x p) X.env := by rfl) :
    DE (X.suite a ((a, oe) :: pn)) (Ix (gp X) i a dd flds) W (.Attribute (.Name x p) f pos) (fXf flds f) :=
  PE.imp (pe_xf T hno hz hf (pe_var (i := i) hN hv hd hcd) hb) fun σ H Q ⟨w, env, S, r, eH, s, en, h, q⟩ => by
    subst eH
    obtain ⟨hsl, fs', h1, h2, h3, h4⟩ := en.inv
    obtain ⟨d, hd', rfl⟩ := ofO_some h
    obtain ⟨v, hv', rv⟩ := fld_at h3 h4 hd'
    exact ⟨.ref a, hsl, rfl, rfl, dd, fs', v, rfl, h1, hv', q.here s rv⟩
def rIsED (K : PySem.W.Frag) (D a dd : Addr) : List V → Hp → VK → Prop := fun xs H Q => ∃ (c : V) (cv : Value) (b : Bool) (fs : List (Str × V)), xs = [.ref a, c] ∧ (∀ u, RelV c u → u = cv) ∧ PySem.W.kitOne K (.ref D) cv = some b ∧ H dd = some (.xd fs) ∧ Q (.bl b) H
theorem call_isED {D : Addr} (C : ExcC X.K D) (hz : Zc (.ref D) (some dd) oe) (hf : ∃ vs, oe.data = .fields vs) : CallR (X.suite a ((a, oe) :: pn)) (.builtin "isinstance") (rIsED X.K D a dd) := by
  intro pins s σ H xs us Q I r h
  obtain ⟨c, cv, b, fs, rfl, hcv, e, hdd, q⟩ := h
  cases r with
  | cons rx rr =>
    cases rr with
    | cons rt rr =>
      cases rr
      cases rx
      have ec := hcv _ rt
      subst ec
      obtain ⟨hget, _⟩ := I.pin (a, oe) (List.mem_append.mpr (.inl List.mem_cons_self))
      obtain ⟨vs, hv⟩ := hf
      obtain ⟨mA, hns, _⟩ := (show ObjOk X.prog X.w H s.heap dd (.xd fs) from I.hok dd _ hdd)
      obtain ⟨od, ho, _⟩ := lookIn_ns hns
      have J : PySem.W.InstAt s.heap a oe D (some od) := by
        obtain ⟨oc, odc, oda, osl⟩ := oe
        obtain ⟨h1, h2⟩ := hz
        dsimp only at h1 h2 hv
        subst h1 h2 hv
        exact ⟨hget, rfl, rfl, ho⟩
      obtain ⟨cd, hcd, _⟩ := PySem.W.any_some C.hd
      exact PySem.W.kia_one (PySem.W.kitx_exc (by rw [hcd]; rfl) C.hg C.hk C.hs C.ha C.hn C.ht C.hm) I.kIn J e (fun z => nomatch z) fun tk => ⟨.bl b, H, I.kept (t' := tk) fun _ _ z => z, rfl, q⟩
/-- isinstance(e, D) -/
theorem d_isE {x : Str} {ce : Expr} {cvV : V} {cv : Value} {b : Bool} {p p2 pos : Pos} (C : ExcC X.K (cOf X.mg c)) (hz : Zc (.ref (cOf X.mg c)) (some dd) oe) (hf : ∃ vs, oe.data = .fields vs) (hm : X.mg "isinstance" = none) (hce : PE (X.suite a ((a, oe) :: pn)) ce (tC cvV)) (hcv : ∀ u, RelV cvV u → u = cv) (hk : PySem.W.kitOne X.K (.ref (cOf X.mg c)) cv = some b)
    (hv : bootBuiltins "isinstance" = some (.builtin "isinstance")) (hg : Gl X "isinstance" := by rfl) (hN : X.N[i]? = some x := by rfl) (hvi : Vis X.env.scope x := by first | exact Or.inl rfl | exact Or.inr (Or.inl rfl) | exact Or.inr (Or.inr rfl)) (hd : (x == ("__debug__" : Str)) = false := by decide) (hcd : (x == ("__classdict__" : Str)) = false := by decide)
    (he : starEach [.Name x p2, ce] X.env = (false, eval (.Name x p2) X.env) :: starEach [ce] X.env := by rfl) (he2 : starEach [ce] X.env = (false, eval ce X.env) :: starEach [] X.env := by rfl) (hpl : (backTo pos (starEach [ce] X.env)).any (·.1) = false := by rfl) :
    DE (X.suite a ((a, oe) :: pn)) (Ix (gp X) i a dd flds) W (.Call (.Name "isinstance" p) [.Name x p2, ce] [] pos) (fC (.bl b)) :=
  PE.imp (pe_callB (X := X.suite a ((a, oe) :: pn)) (call_isED C hz hf) hg hm hv (pa_cons (pe_var (X := X.suite a ((a, oe) :: pn)) (i := i) hN hvi hd hcd) (pa_cons hce pa_nil he2) he) (by decide) (by decide) he hpl) fun σ H Q ⟨w, env, S, r, eH, s, en, h, q⟩ => by
    subst eH
    cases h
    obtain ⟨hsl, fs', h1, h2, h3, h4⟩ := en.inv
    exact ⟨.ref a, hsl, cvV, cv, b, fs', rfl, hcv, hk, h1, q.here s (.bl b)⟩
/-! ### isinstance of data -/
@[simp] def tyOf (d : Dv) (S : Store) : Option String := match d with
  | .non => some "NoneType"
  | .bl _ => some "bool"
  | .int _ => some "int"
  | .str _ => some "str"
  | .tup _ => some "tuple"
  | .lst _ => some "list"
  | .obj n => match S[n]? with
    | some (.lst _) => some "list"
    | some (.dic _) => some "dict"
    | some (.dit _) => some "dict"
    | _ => none
  | _ => none
theorem tyX_of {w : Wd} {S : Store} {v : V} {d : Dv} {t : String} (s : SOk G w S) (r : Rp G w v d) (h : tyOf d S = some t) : TyX G.K w.H v (.type t) := by
  cases r with
  | non => cases h; exact .base .non
  | bl b => cases h; exact .base (.bl b)
  | int i => cases h; exact .base (.int i)
  | str x => cases h; exact .base (.str x)
  | tup ha _ =>
    cases h
    rcases ha with ⟨h, _⟩ | ⟨_, o, its, n, h1, h2, _⟩
    · exact .base (.tup h)
    · exact .kTuple h1 h2
  | lst ha _ =>
    cases h
    rcases ha with ⟨h | ⟨o, h⟩, _⟩ | ⟨o, its, n, h1, h2, _⟩
    · exact .base (.lst h)
    · exact .base (.frz h)
    · exact .kList h1 h2
  | dic _ _ _ _ => cases h
  | dit _ _ _ _ => cases h
  | ins _ _ _ _ => cases h
  | cls _ => cases h
  | @obj a n ha =>
    dsimp only [tyOf] at h
    cases e : S[n]? with
    | none => rw [e] at h; cases h
    | some d =>
      rw [e] at h
      have m := s.cont n a d ha e
      cases d <;> first | (cases h; done) | skip
      · obtain ⟨xs, h1, _⟩ := m; cases h; exact .base (.lst h1)
      · obtain ⟨xs, h1, _⟩ := m; cases h; exact .base (.dK h1)
      · obtain ⟨xs, h1, _⟩ := m; cases h; exact .base (.dT h1)
/-- the types' names and a class asked for -/
@[simp] def isTy (t b : String) : Option Bool :=
  if b = "bool" then some (t == "bool") else if b = "int" then some (t == "int" || t == "bool") else if b = "str" then some (t == "str") else if b = "tuple" then some (t == "tuple") else if b = "list" then some (t == "list") else if b = "dict" then some (t == "dict") else none
def tyNames : List String := ["NoneType", "bool", "int", "str", "tuple", "list", "dict"]
theorem kit_all : ∀ b ∈ ["bool", "int", "str", "tuple", "list", "dict"], ∀ t ∈ tyNames, kitB t b = isTy t b := by decide +kernel
theorem tyOf_mem {d : Dv} {S : Store} {t : String} (h : tyOf d S = some t) : t ∈ tyNames := by
  unfold tyOf at h
  split at h <;> first | (cases h; decide) | skip
  · split at h <;> first | (cases h; decide) | (cases h; done)
  · cases h
@[simp] def fIsi (b : String) (fa : FE) : FE := fun env => bnd (fa env) fun x S => match tyOf x S with
  | some t => match isTy t b with
    | some r => some (.ok (.bl r) S)
    | none => none
  | none => none
theorem d_isi {b : String} {e : Expr} {fa : FE} {cx : Str} {p p2 pos : Pos} (ha : DE X ξ W e fa) (hm : X.mg "isinstance" = none) (hv : bootBuiltins "isinstance" = some (.builtin "isinstance")) (hmb : X.mg cx = none) (hvb : bootBuiltins cx = some (.type b)) (hb : b ∈ ["bool", "int", "str", "tuple", "list", "dict"])
    (hg : Gl X "isinstance" := by rfl) (hgb : Gl X cx := by rfl) (hn : cx ≠ "__name__" := by decide) (hdb : (cx == ("__debug__" : Str)) = false := by decide)
    (he : starEach [e, .Name cx p2] X.env = (false, eval e X.env) :: starEach [.Name cx p2] X.env := by rfl) (he2 : starEach [.Name cx p2] X.env = (false, eval (.Name cx p2) X.env) :: starEach [] X.env := by rfl) (hpl : (backTo pos (starEach [.Name cx p2] X.env)).any (·.1) = false := by rfl) :
    DE X ξ W (.Call (.Name "isinstance" p) [e, .Name cx p2] [] pos) (fIsi b fa) :=
  PE.imp (pe_callB call_isi hg hm hv (pa_cons ha (pa_cons (pe_bltn (v := .ty b) hgb hmb hvb rfl hn hdb) pa_nil he2) he) (by decide) (by decide) he hpl) fun σ H Q ⟨w, env, S, r, eH, s, en, h, q⟩ => by
    subst eH
    refine seqR s en h q.px fun x S1 v w1 e1 s1 en1 r1 h1 => ?_
    cases ht : tyOf x S1 with
    | none => rw [ht] at h1; cases h1
    | some t =>
      rw [ht] at h1
      have h1' : (match isTy t b with | some r => some (Rs.ok (Dv.bl r) S1) | none => none) = some r := h1
      cases hi : isTy t b with
      | none => rw [hi] at h1'; cases h1'
      | some bb =>
        rw [hi] at h1'
        cases h1'
        exact ⟨v, .ty b, .type t, .type b, bb, rfl, .ty b, tyX_of s1 r1 ht, kit_ty ((kit_all b hb t (tyOf_mem ht)).trans hi), q.ok_ e1 s1 (.bl bb)⟩
end
end FC

set_option Elab.async false
set_option linter.all false
set_option maxRecDepth 100000
namespace FC
open PySem PySem.Spec L2
open PyProof.Rows (envOfC)
/-! ### what a def has made for itself falls away -/
mutual
def noO : Dv → Bool
  | .non => true
  | .bl _ => true
  | .int _ => true
  | .str _ => true
  | .cls _ => true
  | .tup xs => noOs xs
  | .lst xs => noOs xs
  | .obj _ => false
  | .ins _ fs => noOf fs
  | .dic kvs => noOk kvs
  | .dit kvs => noOt kvs
def noOs : List Dv → Bool
  | [] => true
  | d :: r => noO d && noOs r
def noOf : List (Str × Dv) → Bool
  | [] => true
  | (_, d) :: r => noO d && noOf r
def noOk : List (Key × Dv) → Bool
  | [] => true
  | (_, d) :: r => noO d && noOk r
def noOt : List (List Key × Dv) → Bool
  | [] => true
  | (_, d) :: r => noO d && noOt r
end
theorem noOf_eq : ∀ fs : List (Str × Dv), noOf fs = noOs (fs.map Prod.snd)
  | [] => rfl
  | (_, d) :: r => by show (noO d && noOf r) = (noO d && noOs (r.map Prod.snd)); rw [noOf_eq r]
theorem noOk_eq : ∀ fs : List (Key × Dv), noOk fs = noOs (fs.map Prod.snd)
  | [] => rfl
  | (_, d) :: r => by show (noO d && noOk r) = (noO d && noOs (r.map Prod.snd)); rw [noOk_eq r]
theorem noOt_eq : ∀ fs : List (List Key × Dv), noOt fs = noOs (fs.map Prod.snd)
  | [] => rfl
  | (_, d) :: r => by show (noO d && noOt r) = (noO d && noOs (r.map Prod.snd)); rw [noOt_eq r]
theorem noOs_ints : ∀ ns : List Int, noOs (ns.map Dv.int) = true
  | [] => rfl
  | n :: ns => by show (true && noOs (ns.map Dv.int)) = true; rw [noOs_ints ns]; rfl
/-- names may be forgotten -/
structure Dr (w w' : Wd) : Prop where
  H : w'.H = w.H
  M : ∀ a, w'.M a → w.M a
mutual
theorem Rp.dr {G : Gp} {w w' : Wd} (e : Dr w w') : ∀ {v : V} {d : Dv}, Rp G w v d → noO d = true → Rp G w' v d
  | _, _, .non, _ => .non
  | _, _, .bl b, _ => .bl b
  | _, _, .int i, _ => .int i
  | _, _, .str x, _ => .str x
  | _, _, .cls c, _ => .cls c
  | _, _, .tup h r, n => .tup (by
      rcases h with h | h
      · exact .inl ⟨by rw [e.H]; exact h.1, fun z => h.2 (e.M _ z)⟩
      · exact .inr h) (RpAll.dr e r n)
  | _, _, .lst h r, n => .lst (by
      rcases h with h | h
      · exact .inl ⟨by rw [e.H]; exact h.1, fun z => h.2 (e.M _ z)⟩
      · exact .inr h) (RpAll.dr e r n)
  | _, _, .obj h, n => Bool.noConfusion n
  | _, _, .ins h m q r, n => .ins (by rw [e.H]; exact h) (fun z => m (e.M _ z)) q (RpAll.dr e r (by rw [← noOf_eq]; exact n))
  | _, _, .dic h m q r, n => .dic (by rw [e.H]; exact h) (fun z => m (e.M _ z)) q (RpAll.dr e r (by rw [← noOk_eq]; exact n))
  | _, _, .dit h m q r, n => .dit (by rw [e.H]; exact h) (fun z => m (e.M _ z)) q (RpAll.dr e r (by rw [← noOt_eq]; exact n))
theorem RpAll.dr {G : Gp} {w w' : Wd} (e : Dr w w') : ∀ {vs : List V} {ds : List Dv}, RpAll G w vs ds → noOs ds = true → RpAll G w' vs ds
  | _, _, .nil, _ => .nil
  | _, _, .cons h r, n => .cons (Rp.dr e h (Bool.and_eq_true_iff.mp n).1) (RpAll.dr e r (Bool.and_eq_true_iff.mp n).2)
end
theorem MOk.dr {G : Gp} {w w' : Wd} (e : Dr w w') {a : Addr} {d : Dv} (h : MOk G w a d) (n : noO d = true) : MOk G w' a d := by
  have hk : w'.H a = w.H a := by rw [e.H]
  cases d <;> first | exact h.elim | skip
  · obtain ⟨xs, h, r⟩ := h; exact ⟨xs, hk.trans h, r.dr e n⟩
  · obtain ⟨dx, fs', h, q, r⟩ := h; exact ⟨dx, fs', hk.trans h, q, r.dr e (by rw [← noOf_eq]; exact n)⟩
  · obtain ⟨kvs', h, q, r⟩ := h; exact ⟨kvs', hk.trans h, q, r.dr e (by rw [← noOk_eq]; exact n)⟩
  · obtain ⟨kvs', h, q, r⟩ := h; exact ⟨kvs', hk.trans h, q, r.dr e (by rw [← noOt_eq]; exact n)⟩
/-- the value of a def's end, told without the def's own names -/
def solid (n : Nat) (d : Dv) (S : Store) : Option Dv := match d with
  | .obj k => if k < n then none else S[k]?
  | d => some d
def gcF (F : DFn) : DFn := fun ds S => match F ds S with
  | some (.ok d S') => match solid S.length d S' with
    | some d' => if noO d' = true ∧ noOs (S'.take S.length) = true ∧ S.length ≤ S'.length then some (.ok d' (S'.take S.length)) else none
    | none => none
  | some (.exc c fs S') => if noOf fs = true ∧ noOs (S'.take S.length) = true ∧ S.length ≤ S'.length then some (.exc c fs (S'.take S.length)) else none
  | none => none
section
variable {G : Gp} {w w' : Wd} {S S' : Store}
theorem drop_ok (e : Ext w w') (s : SOk G w S) (s' : SOk G w' S') (hn : noOs (S'.take S.length) = true) (hl : S.length ≤ S'.length) : Ext w ⟨w'.H, w.as, w'.M0⟩ ∧ SOk G ⟨w'.H, w.as, w'.M0⟩ (S'.take S.length) ∧ Dr w' ⟨w'.H, w.as, w'.M0⟩ := by
  obtain ⟨bs, hb⟩ := e.as
  have dr : Dr w' ⟨w'.H, w.as, w'.M0⟩ := ⟨rfl, fun a h => by
    rcases h with h | h
    · exact .inl h
    · exact .inr (by rw [hb]; exact List.mem_append_left _ h)⟩
  have all : ∀ (l : List Dv), noOs l = true → ∀ (i : Nat) (d : Dv), l[i]? = some d → noO d = true := by
    intro l
    induction l with
    | nil => intro _ i d h; simp at h
    | cons x r ih =>
      intro h i d hd
      have h' : (noO x && noOs r) = true := h
      cases i with
      | zero =>
        simp at hd
        subst hd
        exact (Bool.and_eq_true_iff.mp h').1
      | succ i => exact ih (Bool.and_eq_true_iff.mp h').2 i d (by simpa using hd)
  refine ⟨⟨⟨[], by simp⟩, e.m0, fun _ _ _ h => h, fun a o h n z => e.nM a o h n (dr.M a z), e.keep⟩, ⟨s.nd, ?_, s'.dom, fun a ha => s'.dj a (by rw [hb]; exact List.mem_append_left _ ha), fun i a d h1 h2 => ?_⟩, dr⟩
  · show w.as.length = (S'.take S.length).length
    rw [List.length_take, s.len]
    omega
  · have hi : i < (S'.take S.length).length := (List.getElem?_eq_some_iff.mp h2).1
    have hi2 : i < S.length := by rw [List.length_take] at hi; omega
    have nd := all _ hn i d h2
    rw [List.getElem?_take_of_lt hi2] at h2
    refine (s'.cont i a d ?_ h2).dr dr nd
    rw [hb, List.getElem?_append_left (by rw [s.len]; exact hi2)]
    exact h1
theorem solid_ok {v : V} {d d' : Dv} (e : Ext w w') (s : SOk G w S) (s' : SOk G w' S') (r : Rp G w' v d) (h : solid S.length d S' = some d') (nd : noO d' = true) (hn : noOs (S'.take S.length) = true) (hl : S.length ≤ S'.length) : Rp G ⟨w'.H, w.as, w'.M0⟩ v d' := by
  obtain ⟨e2, s2, dr⟩ := drop_ok e s s' hn hl
  unfold solid at h
  split at h
  · rename_i k
    by_cases hk : k < S.length
    · rw [if_pos hk] at h; cases h
    · rw [if_neg hk] at h
      cases r with
      | @obj a n ha =>
        have m := (s'.cont k a d' ha h).dr dr nd
        have nM : ¬ (⟨w'.H, w.as, w'.M0⟩ : Wd).M a := by
          obtain ⟨bs, hb⟩ := e.as
          have hkl : w.as.length ≤ k := by rw [s.len]; omega
          have hkw : k < w'.as.length := (List.getElem?_eq_some_iff.mp ha).1
          have hae : w'.as[k] = a := (List.getElem?_eq_some_iff.mp ha).2
          rintro (z | z)
          · exact s'.dj a (List.mem_of_getElem? ha) z
          · obtain ⟨j, hj, ej⟩ := List.getElem_of_mem z
            have hj' : j < w.as.length := hj
            have hj2 : j < w'.as.length := by rw [hb, List.length_append]; omega
            have e1 : w'.as[j] = w'.as[k] := by
              rw [hae, ← ej]
              simp only [hb]
              exact List.getElem_append_left hj'
            have := (List.getElem_inj s'.nd).mp e1
            omega
        cases d' <;> first | exact m.elim | skip
        · obtain ⟨xs, h1, h2⟩ := m
          exact .lst (.inl ⟨.inl h1, nM⟩) h2
        · obtain ⟨dx, fs', h1, h2, h3⟩ := m
          exact .ins h1 nM h2 h3
        · obtain ⟨kvs', h1, h2, h3⟩ := m
          exact .dic (.inl h1) nM h2 h3
        · obtain ⟨kvs', h1, h2, h3⟩ := m
          exact .dit (.inl h1) nM h2 h3
  · cases h
    exact r.dr dr nd
variable {P : Program} {w0 : World} {K : PySem.W.Frag} {mg : Str → Option Value} {base : Heap}
theorem fn_gc {f : Addr} {fd : FuncData} {ps : List Str} {k n : Nat} {F : DFn} (h : FnOk P w0 K mg base (L2.CX P w0) k f fd ps (spD K mg n F)) : FnOk P w0 K mg base (L2.CX P w0) k f fd ps (spD K mg n (gcF F)) :=
  h.imp fun vs H Q E ⟨hl, w, S, ds, r, eH, hs, rv, hF, p⟩ => by
    unfold gcF at hF
    cases h1 : F ds S with
    | none => rw [h1] at hF; cases hF
    | some r1 =>
      rw [h1] at hF
      refine ⟨hl, w, S, ds, r1, eH, hs, rv, h1, ?_⟩
      cases r1 with
      | ok d S' =>
        dsimp only at hF
        cases h2 : solid S.length d S' with
        | none => rw [h2] at hF; cases hF
        | some d' =>
          rw [h2] at hF
          dsimp only at hF
          by_cases z : noO d' = true ∧ noOs (S'.take S.length) = true ∧ S.length ≤ S'.length
          · rw [if_pos z] at hF
            cases hF
            intro v w' e s' rv'
            obtain ⟨e2, s2, dr⟩ := drop_ok e hs s' z.2.1 z.2.2
            exact p v ⟨w'.H, w.as, w'.M0⟩ e2 s2 (solid_ok e hs s' rv' h2 z.1 z.2.1 z.2.2)
          · rw [if_neg z] at hF; cases hF
      | exc c fs S' =>
        dsimp only at hF
        by_cases z : noOf fs = true ∧ noOs (S'.take S.length) = true ∧ S.length ≤ S'.length
        · rw [if_pos z] at hF
          cases hF
          intro dd fs' w' e s' hd hm hn hr
          obtain ⟨e2, s2, dr⟩ := drop_ok e hs s' z.2.1 z.2.2
          exact p dd fs' ⟨w'.H, w.as, w'.M0⟩ e2 s2 hd (fun q => hm (dr.M _ q)) hn (hr.dr dr (by rw [← noOf_eq]; exact z.1))
        · rw [if_neg z] at hF; cases hF
end
end FC

set_option Elab.async false
set_option linter.all false
set_option maxRecDepth 100000
namespace FC
open PySem PySem.Spec L2
section
variable {X : Cx} {ξ : Iv} {W : WX} {G : Gp}
/-! ### list(range(..)) -/
abbrev FR := DEnv → Mm (Int × Int)
def RR (_ : Wd) (a : Int × Int) (b : Int × Int) : Prop := a = b
def rgOk (a b : Int) : Prop := a.natAbs ≤ 400000 ∧ b.natAbs ≤ 400000
instance (a b : Int) : Decidable (rgOk a b) := inferInstanceAs (Decidable (_ ∧ _))
theorem rgOk.to {a b : Int} (h : rgOk a b) : RgOk a b := by
  obtain ⟨h1, h2⟩ := h
  refine ⟨?_, ?_, ?_, ?_, Nat.le_trans (?_ : (b - a).toNat ≤ 1000000) (by decide)⟩ <;> omega
theorem rgV_eq (a b : Int) : rgV a b = (upTo a (b - a).toNat).map V.int := by
  unfold rgV upTo
  rw [List.map_map]
  rfl
def fLr1 (m : Bool) (fa : FE) : FE := fun env => bnd (fa env) fun x => bnd (ofO (asI x)) fun n => if rgOk 0 n then newL m ((upTo 0 (n - 0).toNat).map Dv.int) else stuck
def fLr2 (m : Bool) (fa fb : FE) : FE := fun env => bnd (fa env) fun x => bnd (fb env) fun y => bnd (ofO (asI x)) fun i => bnd (ofO (asI y)) fun j => if rgOk i j then newL m ((upTo i (j - i).toNat).map Dv.int) else stuck
theorem asI_bnd {α : Type} {w : Wd} {v : V} {d : Dv} {k : Int → Mm α} {S : Store} {r : Rs α} (rv : Rp G w v d) (h : bnd (ofO (asI d)) k S = some r) : ∃ i, v = .int i ∧ k i S = some r := by
  cases rv <;> first | (cases h; done) | skip
  rename_i b
  exact ⟨b, rfl, h⟩
theorem d_listRg1 (m : Bool) {e : Expr} {fa : FE} {p p2 pos pos2 : Pos} (hc : X.calm = true) (hml : X.mg "list" = none) (hmr : X.mg "range" = none) (ha : DE X ξ W e fa) (hgl : Gl X "list" := by rfl) (hgr : Gl X "range" := by rfl) (na : starEach [e] X.env = (false, eval e X.env) :: starEach [] X.env := by rfl)
    (nb : starEach [.Call (.Name "range" p2) [e] [] pos2] X.env = (false, eval (.Call (.Name "range" p2) [e] [] pos2) X.env) :: starEach [] X.env := by rfl) : DE X ξ W (.Call (.Name "list" p) [.Call (.Name "range" p2) [e] [] pos2] [] pos) (fLr1 m fa) :=
  PE.imp (pe_listRg hc hgl hml (prg_1 hgr hmr ha na) nb) fun σ H Q ⟨w, env, S, res, eH, s, en, h, p⟩ => by
    subst eH
    show tRg1 (tD (gp X) ξ W fa) σ w.H _
    refine seqR s en h p.px fun x S1 v w1 e1 s1 en1 r1 h1 => ?_
    obtain ⟨n, rfl, h2⟩ := asI_bnd r1 h1
    by_cases z : rgOk 0 n
    · rw [if_pos z] at h2
      refine ⟨n, rfl, z.to, ?_⟩
      rw [rgV_eq]
      exact new_lst s1 (RpAll.of_ints _) h2 (p.mono e1 s1)
    · rw [if_neg z] at h2; cases h2
theorem d_listRg2 (m : Bool) {e e2 : Expr} {fa fb : FE} {p p2 pos pos2 : Pos} (hc : X.calm = true) (hml : X.mg "list" = none) (hmr : X.mg "range" = none) (ha : DE X ξ W e fa) (hb : DE X ξ W e2 fb) (hgl : Gl X "list" := by rfl) (hgr : Gl X "range" := by rfl) (na : starEach [e, e2] X.env = (false, eval e X.env) :: starEach [e2] X.env := by rfl)
    (na2 : starEach [e2] X.env = (false, eval e2 X.env) :: starEach [] X.env := by rfl) (na3 : (backTo pos2 (starEach [e2] X.env)).any (·.1) = false := by rfl)
    (nb : starEach [.Call (.Name "range" p2) [e, e2] [] pos2] X.env = (false, eval (.Call (.Name "range" p2) [e, e2] [] pos2) X.env) :: starEach [] X.env := by rfl) : DE X ξ W (.Call (.Name "list" p) [.Call (.Name "range" p2) [e, e2] [] pos2] [] pos) (fLr2 m fa fb) :=
  PE.imp (pe_listRg hc hgl hml (prg_2 hgr hmr ha hb na na2 na3) nb) fun σ H Q ⟨w, env, S, res, eH, s, en, h, p⟩ => by
    subst eH
    show tRg2 (tD (gp X) ξ W fa) (tD (gp X) ξ W fb) σ w.H _
    refine seqR s en h p.px fun x S1 v w1 e1 s1 en1 r1 h1 => seqR s1 en1 h1 (p.px.mono e1 s1) fun y S2 u w2 e2 s2 en2 r2 h2 => ?_
    obtain ⟨i, hi, h3⟩ := asI_bnd (r1.mono e2) h2
    obtain ⟨j, rfl, h4⟩ := asI_bnd r2 h3
    by_cases z : rgOk i j
    · rw [if_pos z] at h4
      refine ⟨i, j, hi, rfl, z.to, ?_⟩
      rw [rgV_eq]
      exact new_lst s2 (RpAll.of_ints _) h4 (p.mono (e1.trans e2) s2)
    · rw [if_neg z] at h4; cases h4
end
/-! ### the law's end -/
def spLaw (n : Nat) (K : PySem.W.Frag) : Sp := fun vs H Q _ => ∃ (a : Addr) (ns : List Int), vs = [.ref a] ∧ SqL K H a (ns.map V.int) ∧ ns.length ≤ n ∧ ∀ H', Q (.bl true) H'
theorem fn_law {P : Program} {w0 : World} {K : PySem.W.Frag} {mg : Str → Option Value} {base : Heap} {f : Addr} {fd : FuncData} {ps : List Str} {k n : Nat} {F : DFn} (h : FnOk P w0 K mg base (L2.CX P w0) k f fd ps (spD K mg 1 F))
    (e : ∀ ns : List Int, ns.length ≤ n → ∃ S', F [.lst (ns.map Dv.int)] [] = some (.ok (.bl true) S')) : FnOk P w0 K mg base (L2.CX P w0) k f fd ps (spLaw n K) :=
  h.imp fun vs H Q E ⟨a, ns, ev, hS, hl, q⟩ => by
    subst ev
    obtain ⟨S', hF⟩ := e ns hl
    have nM : ∀ b, ¬ (⟨H, [], []⟩ : Wd).M b := fun b z => by
      rcases z with z | z
      · exact absurd z (by simp)
      · exact absurd z (by simp)
    refine ⟨rfl, ⟨H, [], []⟩, [], [.lst (ns.map Dv.int)], _, rfl, ⟨List.nodup_nil, rfl, fun a ha => absurd ha (by simp), fun a ha => absurd ha (by simp), fun i a d h1 _ => by simp at h1⟩, .cons (.lst ?_ (RpAll.of_ints ns)) .nil, hF, fun v w' _ _ rv => ?_⟩
    · rcases hS with h | h
      · exact .inl ⟨h, nM a⟩
      · exact .inr h
    · cases rv
      exact q _
end FC

set_option Elab.async false
set_option linter.all false
set_option maxRecDepth 100000
namespace FC
open PySem PySem.Spec L2
section
variable {X : Cx} {ξ : Iv} {W : WX} {G : Gp}
/-- a call's answer, told by the number of its arguments -/
@[simp] def clF (n : Nat) (F : DFn) : DCl := fun ds => if ds.length = n then F ds else stuck
theorem d_callF {f : Addr} {fd : FuncData} {ps : List Str} {k n : Nat} {F : DFn} {x : Str} {e : Expr} {es : List Expr} {p pos : Pos} {fa : FA} (hF : FnOk X.prog X.w X.K X.mg X.base (L2.CX X.prog X.w) k f fd ps (spD X.K X.mg n F)) (hn : ps.length = n) (hr : Room k X.A) (hm : X.mg x = some (.ref f)) (hk : PySem.W.keepIn X.K (.ref f) = true) (hb : Binds X.K fd ps []) (tk : Takes X W)
    (ha : DA X ξ W (e :: es) fa) (hg : Gl X x := by rfl) (hdb : (x == ("__debug__" : Str)) = false := by decide) (he : starEach (e :: es) X.env = (false, eval e X.env) :: starEach es X.env := by rfl) (hpl : (backTo pos (starEach es X.env)).any (·.1) = false := by rfl) :
    DE X ξ W (.Call (.Name x p) (e :: es) [] pos) (fCall (clF n F) fa) :=
  PE.imp (pe_callS hF hr hg hm hk hb (fun σ => passAt tk σ) ha hdb he hpl) fun σ H Q ⟨w, env, S, res, eH, s, en, h, p⟩ => by
    subst eH
    refine seqR s en h p.px fun ds S1 vs w1 e1 s1 en1 r1 h1 => ?_
    have h2 : (if ds.length = n then F ds else stuck) S1 = some res := h1
    by_cases z : ds.length = n
    · rw [if_pos z] at h2
      refine ⟨by rw [r1.length]; exact z, w1, S1, ds, res, rfl, s1, r1, h2, ?_⟩
      have p1 := p.mono e1 s1
      cases res with
      | ok d S' => exact p1
      | exc c fs S' => exact fun dd fs' w' e s' hd hm hn hr => p1 dd fs' w' e s' hd hm hn hr
    · rw [if_neg z] at h2; cases h2
/-- a walked list or tuple that nothing changes -/
theorem i_seq {tg e : Expr} {fa : FE} (ha : DE X ξ W e fa) : DI X ξ W tg e (fIt fa) := PI.imp (PI.or (pi_list ha) (pi_tup ha)) fun σ H R ⟨w, env, S, res, eH, s, en, h, p⟩ => by
  subst eH
  have h0 := h
  unfold fIt bnd at h0
  cases q : fa env S with
  | none => rw [q] at h0; cases h0
  | some r1 =>
    rw [q] at h0
    cases r1 with
    | exc c fs S1 =>
      cases h0
      exact .inl ⟨w, env, S, _, rfl, s, en, q, p⟩
    | ok d S1 =>
      have h1 : ofO (frozen d) S1 = some res := h0
      obtain ⟨ds, hd, rfl⟩ := ofO_some h1
      cases d <;> first | (cases hd; done) | skip
      · cases hd
        refine .inr ⟨w, env, S, _, rfl, s, en, q, fun v w1 e1 s1 rv => ?_⟩
        cases rv with
        | tup ha ra => exact ⟨_, rfl, ⟨_, ha.to⟩, p.ok_ e1 s1 (it_tup ha ra)⟩
      · cases hd
        refine .inl ⟨w, env, S, _, rfl, s, en, q, fun v w1 e1 s1 rv => ?_⟩
        cases rv with
        | lst ha ra => exact ⟨_, rfl, ⟨_, ha.to⟩, p.ok_ e1 s1 (it_list ha ra)⟩
/-- which classes a clause takes -/
@[simp] def cnL (l : List (Str × Bool)) : Str → Option Bool := fun c => l.lookup c
theorem cnL_ok {K : PySem.W.Frag} {mg : Str → Option Value} {cv : Value} : ∀ {l : List (Str × Bool)}, (∀ p ∈ l, PySem.W.exmOne K (.ref (cOf mg p.1)) cv = some p.2) → ∀ c b, cnL l c = some b → PySem.W.exmOne K (.ref (cOf mg c)) cv = some b
  | [], _, c, b, h => by cases h
  | (n, v) :: r, hl, c, b, h => by
    unfold cnL at h
    rw [List.lookup_cons] at h
    cases q : (c == n) with
    | true =>
      rw [q] at h
      cases h
      have e : c = n := by simpa using q
      subst e
      exact hl _ List.mem_cons_self
    | false =>
      rw [q] at h
      exact cnL_ok (l := r) (fun p hp => hl p (List.mem_cons_of_mem _ hp)) c b h
theorem cOf_of {mg : Str → Option Value} {n : Str} {C : Addr} (h : mg n = some (.ref C)) : cOf mg n = C := by
  unfold cOf
  rw [h]
end
end FC
namespace FC
open PySem
theorem cnL_one {n c : Str} (h : cnL [(n, true)] c = some true) : c = n := by
  unfold cnL at h
  rw [List.lookup_cons] at h
  cases q : (c == n) with
  | true => simpa using q
  | false => rw [q] at h; cases h
end FC
namespace FC
open PySem PySem.Spec L2
section
variable {X : Cx} {ξ : Iv} {W : WX} {G : Gp}
theorem d_lcV {tg iter elt : Expr} {ifs : List Expr} {scope : Scope} {own : List (Str × Nat)} {pos : Pos} {fi : FI} {sl : List Nat} {b : Bd} {ft : FT} {fe : FE} {vs : List Nat} (m : Bool) (hc : X.calm = true) (hN : X.N.Nodup) (hi : DI X ξ W tg iter fi) (ok : BlkOk X.N X.env.scope scope own)
    (hg : ∀ (s : Shared) (H : Hp) (C : Addr) (cl : List (Str × Addr)) (fp : List Addr), DG (X.blk s H scope (compEnvC scope cl C X.env) fp) ξ tg sl b)
    (ht : ∀ (s : Shared) (H : Hp) (C : Addr) (cl : List (Str × Addr)) (fp : List Addr), DTs (X.blk s H scope (compEnvC scope cl C X.env) fp) ξ W0 ifs ft)
    (he : ∀ (s : Shared) (H : Hp) (C : Addr) (cl : List (Str × Addr)) (fp : List Addr), DE (X.blk s H scope (compEnvC scope cl C X.env) fp) ξ W0 elt fe)
    (hv : own.map (·.2) = vs := by rfl) (hsl : ∀ i ∈ sl, i ∈ own.map (·.2) := by decide) (hok : ∀ v ∈ own.map (·.2), ξ.ok v := by first | exact (fun _ _ => trivial) | decide) (hs : ∀ x, foldedSetIterable iter X.env x = pure x := by intro _; rfl) :
    DE X ξ W (.ListComp elt [⟨tg, iter, ifs, 0⟩] scope pos) (fLc m fi vs b ft fe) := by
  subst hv
  exact d_lc m hc hN hi ok hg ht he hsl hok hs
theorem s_setLcV {i : Nat} {y : Str} {py : Pos} {tg iter elt : Expr} {ifs : List Expr} {scope : Scope} {own : List (Str × Nat)} {pos spos : Pos} {fi : FI} {sl : List Nat} {b : Bd} {ft : FT} {fe : FE} {vs : List Nat}
    (m : Bool) (hc : X.calm = true) (hN : X.N.Nodup) (hsw : swapsWith (.ListComp elt [⟨tg, iter, ifs, 0⟩] scope pos) (some (.Name y py)) spos.line X.env = pure true) (hi : DI X ξ W tg iter fi) (ok : BlkOk X.N X.env.scope scope own)
    (hg : ∀ (s : Shared) (H : Hp) (C : Addr) (cl : List (Str × Addr)) (fp : List Addr), DG (X.blk s H scope (compEnvC scope cl C X.env) fp) ξ tg sl b)
    (ht : ∀ (s : Shared) (H : Hp) (C : Addr) (cl : List (Str × Addr)) (fp : List Addr), DTs (X.blk s H scope (compEnvC scope cl C X.env) fp) ξ W0 ifs ft)
    (he : ∀ (s : Shared) (H : Hp) (C : Addr) (cl : List (Str × Addr)) (fp : List Addr), DE (X.blk s H scope (compEnvC scope cl C X.env) fp) ξ W0 elt fe)
    (hv : own.map (·.2) = vs := by rfl) (hsl : ∀ i ∈ sl, i ∈ own.map (·.2) := by decide) (hy : X.N[i]? = some y := by rfl) (hyl : X.env.scope.names.lookup y = some .local := by rfl) (hoki : ξ.ok i := by first | trivial | decide) (hok : ∀ v ∈ own.map (·.2), ξ.ok v := by first | exact (fun _ _ => trivial) | decide) (hs : ∀ x, foldedSetIterable iter X.env x = pure x := by intro _; rfl) :
    DS X ξ W (.Assign [.Name y py] (.ListComp elt [⟨tg, iter, ifs, 0⟩] scope pos) spos) (sAsg (fLc m fi vs b ft fe) (bName i)) := by
  subst hv
  exact s_setLc m hc hN hsw hi ok hg ht he hsl hy hyl hoki hok hs
end
end FC
namespace FC
open PySem PySem.Spec L2
theorem fn_none {P : Program} {w0 : World} {K : PySem.W.Frag} {mg : Str → Option Value} {base : Heap} {f : Addr} {fd : FuncData} {ps : List Str} {k n : Nat} (_ : ps.length = n) : FnOk P w0 K mg base (L2.CX P w0) k f fd ps (spD K mg n fun _ _ => none) where
  len := fun vs H Q E h => by
    obtain ⟨_, _, _, _, _, _, _, _, h, _⟩ := h
    cases h
  run := fun A outer s H args us vs Q E _ _ _ _ h => by
    obtain ⟨_, _, _, _, _, _, _, _, h, _⟩ := h
    cases h
end FC

set_option Elab.async false
set_option linter.all false
set_option maxRecDepth 100000
namespace FC
open PySem PySem.Spec L2
open RT (ItvT pi_revA iRevA)
section
variable {X : Cx} {ξ : Iv} {W : WX} {G : Gp}
/-! ### a < b < c -/
@[simp] def fChain (o o' : DOp) (fa fb fc : FE) : FE := fun env => bnd (fa env) fun x => bnd (fb env) fun y => bnd (o x y) fun z => bnd (ofO (asB z)) fun k => if k = true then bnd (fc env) fun u => o' y u else ret (.bl false)
theorem op_seq {r : R2} {o : DOp} (hd : OpD G r o) {w : Wd} {σ : L2.St} {S : Store} {x y : V} {dx dy : Dv} {K : Dv → Mm Dv} {res : Rs Dv} {Q' : VK} (s : SOk G w S) (rx : Rp G w x dx) (ry : Rp G w y dy) (h : bnd (o dx dy) K S = some res) (px : PXr G W w σ res)
    (k : ∀ a S1 v w1, Ext w w1 → SOk G w1 S1 → Rp G w1 v a → K a S1 = some res → Q' v w1.H) : r x y w.H Q' := by
  unfold bnd at h
  cases e : o dx dy S with
  | none => rw [e] at h; cases h
  | some r1 =>
    rw [e] at h
    refine hd W w σ S x y dx dy r1 Q' s rx ry e ?_
    cases r1 with
    | exc c fs S' =>
      have e2 : (Rs.exc c fs S' : Rs Dv) = res := Option.some.inj h
      subst e2
      exact px
    | ok a S' => exact fun v w' e' s' q => k a S' v w' e' s' q h
theorem chain_body {r r' : R2} {o o' : DOp} {fa fb fc : FE} (hd : OpD G r o) (hd' : OpD G r' o') : ∀ σ H Q, tD G ξ W (fChain o o' fa fb fc) σ H Q → tChain r r' (tD G ξ W fa) (tD G ξ W fb) (tD G ξ W fc) σ H Q := fun σ H Q ⟨w, env, S, res, eH, s, en, h, p⟩ => by
  subst eH
  refine seqR s en h p.px fun x S1 v w1 e1 s1 en1 r1 h1 => seqR s1 en1 h1 (p.px.mono e1 s1) fun y S2 u w2 e2 s2 en2 r2 h2 => ?_
  have e12 := e1.thru e2 s1
  refine op_seq hd s2 (r1.mono e2) r2 h2 (p.px.mono e12 s2) fun z S3 b w3 e3 s3 r3 h3 => ?_
  obtain ⟨k, rfl, h4⟩ := asB_bnd r3 h3
  refine ⟨k, rfl, ?_⟩
  have e13 := e12.thru e3 s2
  cases k with
  | true =>
    rw [if_pos rfl] at h4 ⊢
    refine seqR s3 (en2.mono e3) h4 (p.px.mono e13 s3) fun u' S4 t w4 e4 s4 en4 r4 h5 => ?_
    exact hd' W w4 σ S4 u t y u' res Q s4 ((r2.mono e3).mono e4) r4 h5 (p.mono (e13.thru e4 s3) s4)
  | false =>
    cases h4
    exact p.ok_ e13 s3 (.bl false)
section
variable {a b c : Expr} {fa fb fc : FE} {pos : Pos}
theorem d_chain {op op' : CmpOp} {r r' : R2} {o o' : DOp} (ho : OpR X (compareOp op) r) (ho' : OpR X (compareOp op') r') (hd : OpD (gp X) r o) (hd' : OpD (gp X) r' o') (ha : DE X ξ W a fa) (hb : DE X ξ W b fb) (hc : DE X ξ W c fc)
    (hm : lastMarks [op, op'] [b, c] = false := by with_unfolding_all rfl) : DE X ξ W (.Compare a [op, op'] [b, c] pos) (fChain o o' fa fb fc) := PE.imp (pe_chain ho ho' ha hb hc hm) (chain_body hd hd')
theorem t_chain {op op' : CmpOp} {r r' : R2} {o o' : DOp} (ho : OpR X (compareOp op) r) (ho' : OpR X (compareOp op') r') (hd : OpD (gp X) r o) (hd' : OpD (gp X) r' o') (ha : DE X ξ W a fa) (hb : DE X ξ W b fb) (hc : DE X ξ W c fc)
    (hm : lastMarks [op, op'] [b, c] = false := by with_unfolding_all rfl) : DT X ξ W (.Compare a [op, op'] [b, c] pos) (fTest (fChain o o' fa fb fc)) := PT.imp (pt_chain ho ho' ha hb hc hm) fun σ H Q h => by
  obtain ⟨w, env, S, res, eH, s, en, h, p⟩ := test_body (fa := fChain o o' fa fb fc) σ H Q h
  exact chain_body hd hd' σ H _ ⟨w, env, S, res, eH, s, en, h, p⟩
end
/-! ### an int in a sequence of ints -/
def oIn : DOp := fun x y S => match x, (seqOf y S).bind asInts with
  | .int i, some ns => some (.ok (.bl (decide (i ∈ ns))) S)
  | _, _ => none
def oNin : DOp := fun x y S => match x, (seqOf y S).bind asInts with
  | .int i, some ns => some (.ok (.bl (!decide (i ∈ ns))) S)
  | _, _ => none
theorem ints_vs {w : Wd} : ∀ {vs : List V} {ds : List Dv} {ns : List Int}, RpAll G w vs ds → asInts ds = some ns → vs = ns.map V.int
  | [], _, ns, .nil, h => by cases h; rfl
  | v :: vs, _, ns, @RpAll.cons _ _ _ _ d ds hv hr, h => by
    cases hv <;> first | (cases h; done) | skip
    rename_i i
    have h' : (match asInts ds with | some r => some (i :: r) | none => none) = some ns := by
      rw [← h]
      cases e : asInts ds <;> simp [asInts, e]
    cases e : asInts ds with
    | none => rw [e] at h'; cases h'
    | some r =>
      rw [e] at h'
      cases h'
      rw [ints_vs hr e]
      rfl
theorem flat_ints (ns : List Int) : (ns.map V.int).all flatV = true := by
  rw [List.all_eq_true]
  intro x hx
  obtain ⟨i, _, rfl⟩ := List.mem_map.1 hx
  rfl
theorem inV_ints (i : Int) : ∀ ns : List Int, inV (.int i) (ns.map V.int) = decide (i ∈ ns)
  | [] => by simp [inV]
  | j :: ns => by
    have ih := inV_ints i ns
    unfold inV at ih ⊢
    rw [List.map_cons, List.any_cons, ih]
    have e : eqV (.int j) (.int i) = decide (i = j) := by
      show (j == i) = decide (i = j)
      rw [Bool.eq_iff_iff, beq_iff_eq, decide_eq_true_iff]
      exact ⟨fun h => h.symm, fun h => h.symm⟩
    rw [e, ← Bool.decide_or, decide_eq_decide]
    exact List.mem_cons.symm
theorem od_in : OpD G (rIn G.K false) oIn := by
  intro W w σ S x y dx dy res Q s rx ry h p
  unfold oIn at h
  cases hs : seqOf dy S with
  | none => rw [hs] at h; cases rx <;> cases h
  | some ds =>
    cases hi : asInts ds with
    | none => rw [hs] at h; simp only [Option.bind, hi] at h; cases rx <;> cases h
    | some ns =>
      rw [hs] at h; simp only [Option.bind, hi] at h
      cases rx <;> first | (cases h; done) | skip
      rename_i i
      cases h
      obtain ⟨a, xs, rfl, hz, hr⟩ := seqOf_ok s ry hs
      have e := ints_vs hr hi
      subst e
      refine ⟨a, _, rfl, hz, rfl, flat_ints ns, ?_⟩
      show Q (.bl (inV (.int i) (ns.map V.int))) w.H
      rw [inV_ints]
      exact p.here s (.bl _)
theorem od_nin : OpD G (rIn G.K true) oNin := by
  intro W w σ S x y dx dy res Q s rx ry h p
  unfold oNin at h
  cases hs : seqOf dy S with
  | none => rw [hs] at h; cases rx <;> cases h
  | some ds =>
    cases hi : asInts ds with
    | none => rw [hs] at h; simp only [Option.bind, hi] at h; cases rx <;> cases h
    | some ns =>
      rw [hs] at h; simp only [Option.bind, hi] at h
      cases rx <;> first | (cases h; done) | skip
      rename_i i
      cases h
      obtain ⟨a, xs, rfl, hz, hr⟩ := seqOf_ok s ry hs
      have e := ints_vs hr hi
      subst e
      refine ⟨a, _, rfl, hz, rfl, flat_ints ns, ?_⟩
      show Q (.bl (!inV (.int i) (ns.map V.int))) w.H
      rw [inV_ints]
      exact p.here s (.bl _)
section
variable {a b : Expr} {fa fb : FE} {pos : Pos}
theorem d_in (ha : DE X ξ W a fa) (hb : DE X ξ W b fb) (hm : behindInMarks .In b = false := by rfl) : DE X ξ W (.Compare a [.In] [b] pos) (fOp oIn fa fb) := d_cmp op_in_seq od_in ha hb hm
theorem d_nin (ha : DE X ξ W a fa) (hb : DE X ξ W b fb) (hm : behindInMarks .NotIn b = false := by rfl) : DE X ξ W (.Compare a [.NotIn] [b] pos) (fOp oNin fa fb) := d_cmp op_notIn_seq od_nin ha hb hm
theorem t_in (ha : DE X ξ W a fa) (hb : DE X ξ W b fb) (hm : behindInMarks .In b = false := by rfl) : DT X ξ W (.Compare a [.In] [b] pos) (fTest (fOp oIn fa fb)) := t_cmp op_in_seq od_in ha hb hm
theorem t_nin (ha : DE X ξ W a fa) (hb : DE X ξ W b fb) (hm : behindInMarks .NotIn b = false := by rfl) : DT X ξ W (.Compare a [.NotIn] [b] pos) (fTest (fOp oNin fa fb)) := t_cmp op_notIn_seq od_nin ha hb hm
end
/-! ### from the last one to the first -/
@[simp] def fRev (fa : FE) : FI := fun env => bnd (fa env) fun x => bnd (ofO (frozen x)) fun xs => ret xs.reverse
theorem it_rev {w : Wd} {a : Addr} {xs : List V} {ds : List Dv} (ha : SqLM G w a xs) (ra : RpAll G w xs ds) : ItOk G w (Itv G.K a xs.length) ds.reverse := fun w2 S2 e2 s2 => by
  have ha2 := (ha.mono e2).to
  have ra2 := ra.mono e2
  have hl := ra.length
  refine ⟨fun i hi => ?_, ?_, fun i d x H' hd hy => ?_⟩
  · have hx : i < xs.length := by rw [hl]; simpa using hi
    exact ⟨hx, xs, xs[xs.length - 1 - i]'(by omega), ha2, List.getElem?_eq_getElem _⟩
  · show xs.length ≤ ds.reverse.length
    rw [List.length_reverse, hl]
    exact Nat.le_refl _
  · obtain ⟨rfl, hx⟩ := hy
    have hi : i < ds.length := by
      have := (List.getElem?_eq_some_iff.1 hd).1
      simpa using this
    rw [List.getElem?_reverse hi, ← hl] at hd
    obtain ⟨v, h1, h2⟩ := ra2.get hd
    rw [hx xs ha2] at h1
    cases h1
    exact ⟨w2, rfl, Ext.refl _, s2, h2⟩
theorem it_revT {w : Wd} {a : Addr} {xs : List V} {ds : List Dv} (ha : SqTM G w a xs) (ra : RpAll G w xs ds) : ItOk G w (ItvT G.K a xs.length) ds.reverse := fun w2 S2 e2 s2 => by
  have ha2 := (ha.mono e2).to
  have ra2 := ra.mono e2
  have hl := ra.length
  refine ⟨fun i hi => ?_, ?_, fun i d x H' hd hy => ?_⟩
  · have hx : i < xs.length := by rw [hl]; simpa using hi
    exact ⟨hx, xs, xs[xs.length - 1 - i]'(by omega), ha2, List.getElem?_eq_getElem _⟩
  · show xs.length ≤ ds.reverse.length
    rw [List.length_reverse, hl]
    exact Nat.le_refl _
  · obtain ⟨rfl, hx⟩ := hy
    have hi : i < ds.length := by
      have := (List.getElem?_eq_some_iff.1 hd).1
      simpa using this
    rw [List.getElem?_reverse hi, ← hl] at hd
    obtain ⟨v, h1, h2⟩ := ra2.get hd
    rw [hx xs ha2] at h1
    cases h1
    exact ⟨w2, rfl, Ext.refl _, s2, h2⟩
theorem i_rev {tg e : Expr} {fa : FE} {p pos : Pos} (hm : X.mg "reversed" = none) (ha : DE X ξ W e fa) (hg : Gl X "reversed" := by rfl) (hs : starEach [e] X.env = (false, eval e X.env) :: starEach [] X.env := by rfl) : DI X ξ W tg (.Call (.Name "reversed" p) [e] [] pos) (fRev fa) :=
  PI.imp (pi_revA hg hm ha hs) fun σ H R ⟨w, env, S, res, eH, s, en, h, p⟩ => by
    subst eH
    refine seqR s en h p.px fun x S1 v w1 e1 s1 en1 r1 h1 => ?_
    obtain ⟨ds, hd, h2⟩ := bnd_ofO h1
    cases h2
    cases r1 <;> first | (cases hd; done) | skip
    · rename_i a xs ds' ha ra
      cases hd
      exact ⟨a, xs, rfl, .inr ⟨ha.to, p.ok_ e1 s1 (it_revT ha ra)⟩⟩
    · rename_i a xs ds' ha ra
      cases hd
      exact ⟨a, xs, rfl, .inl ⟨ha.to, p.ok_ e1 s1 (it_rev ha ra)⟩⟩
end
end FC

set_option Elab.async false
set_option linter.all false
set_option maxRecDepth 100000
namespace FC
open PySem PySem.Spec L2
section
variable {X : Cx} {ξ : Iv} {W : WX} {G : Gp}
/-- a list, named or frozen -/
@[simp] def listOf (d : Dv) (S : Store) : Option (List Dv) := match d with
  | .lst xs => some xs
  | .obj n => match S[n]? with
    | some (.lst xs) => some xs
    | _ => none
  | _ => none
theorem listOf_ok {w : Wd} {S : Store} {v : V} {d : Dv} {ds : List Dv} (s : SOk G w S) (r : Rp G w v d) (h : listOf d S = some ds) : ∃ a xs, v = .ref a ∧ SqL G.K w.H a xs ∧ RpAll G w xs ds := by
  cases r <;> first | (cases h; done) | skip
  · rename_i ha ra; cases h; exact ⟨_, _, rfl, ha.to, ra⟩
  · rename_i a n ha
    dsimp only [listOf] at h
    cases e : S[n]? with
    | none => rw [e] at h; cases h
    | some d =>
      rw [e] at h
      have m := s.cont n a d ha e
      cases d <;> first | (cases h; done) | skip
      obtain ⟨xs, h1, h2⟩ := m
      cases h
      exact ⟨a, xs, rfl, SqL.of h1, h2⟩
/-! ### xs[::-1] -/
@[simp] def fRevL (m : Bool) (fa : FE) : FE := fun env => bnd (fa env) fun x S => match listOf x S with
  | some xs => newL m xs.reverse S
  | none => none
theorem RpAll.rev {w : Wd} : ∀ {xs : List V} {ds : List Dv}, RpAll G w xs ds → RpAll G w xs.reverse ds.reverse
  | [], [], .nil => .nil
  | x :: xs, d :: ds, .cons h r => by
    rw [List.reverse_cons, List.reverse_cons]
    exact (RpAll.rev r).append (.cons h .nil)
theorem d_revL (m : Bool) {e : Expr} {fa : FE} {k : Nat} {p1 p2 p3 pos : Pos} (ha : DE X ξ W e fa) : DE X ξ W (.Subscript e (.Slice none none (some (.UnaryOp .USub (.Constant (.int 1) k p1) p2)) p3) pos) (fRevL m fa) :=
  PE.imp (pe_revL ha) fun σ H Q ⟨w, env, S, res, eH, s, en, h, p⟩ => by
    subst eH
    refine seqR s en h p.px fun x S1 v w1 e1 s1 en1 r1 h1 => ?_
    cases hl : listOf x S1 with
    | none => rw [hl] at h1; cases h1
    | some ds =>
      rw [hl] at h1
      obtain ⟨a, xs, rfl, hs, hr⟩ := listOf_ok s1 r1 hl
      exact ⟨a, xs, rfl, hs, new_lst s1 (RpAll.rev hr) h1 (p.mono e1 s1)⟩
/-! ### for i in reversed(range(..)) -/
@[simp] def fRevR (fr : FR) : FI := fun env => bnd (fr env) fun ab => if rgOk ab.1 ab.2 then ret (((upTo ab.1 (ab.2 - ab.1).toNat).map Dv.int).reverse) else stuck
theorem rgOk.b {a b : Int} (h : rgOk a b) : -(2 ^ 62) ≤ a ∧ a < 2 ^ 62 ∧ -(2 ^ 62) ≤ b ∧ b < 2 ^ 62 := by
  obtain ⟨h1, h2⟩ := h
  omega
theorem it_revR {w : Wd} {a b : Int} : ItOk G w (Itc (a + (((b - a).toNat : Nat) : Int) - 1) (-1) (b - a).toNat) ((upTo a (b - a).toNat).map Dv.int).reverse := fun w2 S2 e2 s2 => by
  generalize (b - a).toNat = n
  have hl : ((upTo a n).map Dv.int).length = n := by simp [upTo]
  refine ⟨fun i hi => by rw [List.length_reverse, hl] at hi; exact hi, by rw [List.length_reverse, hl]; exact Nat.le_refl _, fun i d x H' hd hy => ?_⟩
  obtain ⟨rfl, rfl⟩ := hy
  have hi : i < n := by
    have := (List.getElem?_eq_some_iff.1 hd).1
    rwa [List.length_reverse, hl] at this
  rw [List.getElem?_reverse (by rw [hl]; exact hi), hl] at hd
  have : d = .int (a + (n : Int) - 1 + (i : Nat) * (-1)) := by
    unfold upTo at hd
    rw [List.map_map, List.getElem?_map, List.getElem?_range (by omega)] at hd
    have e := Option.some.inj hd
    rw [← e]
    simp only [Function.comp_apply]
    congr 1
    omega
  subst this
  exact ⟨w2, rfl, Ext.refl _, s2, .int _⟩
def tFR (G : Gp) (ξ : Iv) (W : WX) (f : FR) := tG G ξ W RR f
@[simp] def fR1 (fa : FE) : FR := fun env => bnd (fa env) fun x => bnd (ofO (asI x)) fun n => ret (0, n)
@[simp] def fR2 (fa fb : FE) : FR := fun env => bnd (fa env) fun x => bnd (fb env) fun y => bnd (ofO (asI x)) fun i => bnd (ofO (asI y)) fun j => ret (i, j)
theorem i_revR1 {tg e : Expr} {fa : FE} {p p2 pos pos2 : Pos} (hm : X.mg "reversed" = none) (hmr : X.mg "range" = none) (ha : DE X ξ W e fa) (hg : Gl X "reversed" := by rfl) (hgr : Gl X "range" := by rfl) (na : starEach [e] X.env = (false, eval e X.env) :: starEach [] X.env := by rfl)
    (hs : starEach [.Call (.Name "range" p2) [e] [] pos2] X.env = (false, eval (.Call (.Name "range" p2) [e] [] pos2) X.env) :: starEach [] X.env := by rfl) : DI X ξ W tg (.Call (.Name "reversed" p) [.Call (.Name "range" p2) [e] [] pos2] [] pos) (fRevR (fR1 fa)) :=
  PI.imp (pi_revR hg hm (prg_1 hgr hmr ha na) hs) fun σ H R ⟨w, env, S, res, eH, s, en, h, p⟩ => by
    subst eH
    show tRg1 (tD (gp X) ξ W fa) σ w.H _
    have h' : bnd (fa env) (fun x => bnd (ofO (asI x)) fun n => if rgOk 0 n then ret (((upTo 0 (n - 0).toNat).map Dv.int).reverse) else stuck) S = some res := by
      rw [← h]
      simp only [fRevR, fR1, bnd, ofO, ret]
      cases fa env S with
      | none => rfl
      | some r =>
        cases r with
        | exc _ _ _ => rfl
        | ok x S1 => dsimp only; cases asI x <;> rfl
    refine seqR s en h' p.px fun x S1 v w1 e1 s1 en1 r1 h1 => ?_
    obtain ⟨n, rfl, h2⟩ := asI_bnd r1 h1
    by_cases z : rgOk 0 n
    · rw [if_pos z] at h2
      cases h2
      obtain ⟨b1, b2, b3, b4⟩ := z.b
      exact ⟨n, rfl, b1, b2, b3, b4, p.ok_ e1 s1 it_revR⟩
    · rw [if_neg z] at h2; cases h2
/-! ### [x] * n -/
@[simp] def fRep (m : Bool) (fa fb : FE) : FE := fun env => bnd (fa env) fun x => bnd (fb env) fun y => bnd (ofO (asI y)) fun n => if n.natAbs ≤ 100000 then newL m (List.replicate n.toNat x) else stuck
theorem flat_rep {α : Type} (v : α) : ∀ n : Nat, (List.replicate n [v]).flatten = List.replicate n v
  | 0 => rfl
  | n + 1 => by rw [List.replicate_succ, List.flatten_cons, flat_rep v n, List.replicate_succ]; rfl
theorem RpAll.rep {w : Wd} {v : V} {d : Dv} (h : Rp G w v d) : ∀ n : Nat, RpAll G w (List.replicate n v) (List.replicate n d)
  | 0 => .nil
  | n + 1 => by rw [List.replicate_succ, List.replicate_succ]; exact .cons h (RpAll.rep h n)
theorem d_rep (m : Bool) {a b : Expr} {fa fb : FE} {p1 pos : Pos} (ha : DA X ξ W [a] (fCons fa fNil)) (hb : DE X ξ W b fb) : DE X ξ W (.BinOp (.List [a] p1) .Mult b pos) (fRep m fa fb) :=
  PE.imp (pe_op op_rep (pe_lst ha) hb) fun σ H Q ⟨w, env, S, res, eH, s, en, h, p⟩ => by
    subst eH
    have h' : bnd (fCons fa fNil env) (fun xs => match xs with
      | [x] => bnd (fb env) fun y => bnd (ofO (asI y)) fun n => if n.natAbs ≤ 100000 then newL m (List.replicate n.toNat x) else stuck
      | _ => stuck) S = some res := by
      rw [← h]
      simp only [fRep, fCons, fNil, bnd, ret]
      cases fa env S with
      | none => rfl
      | some r => cases r <;> rfl
    refine seqR s en h' p.px fun xs S1 vs w1 e1 s1 en1 r1 h1 => ?_
    split at h1
    · rename_i x
      obtain ⟨v, rfl, hv⟩ := rp1 r1
      refine ⟨big_le (show 1 ≤ big by decide), fun q hq => ?_⟩
      have eP : Ext w1 (w1.put q (.lst [v])) := .put hq
      have sP : SOk (gp X) (w1.put q (.lst [v])) S1 := s1.put hq
      refine seqR sP (en1.mono eP) h1 (p.px.mono (e1.thru eP s1) sP) fun y S2 u w2 e2 s2 en2 r2 h2 => ?_
      obtain ⟨n, rfl, h3⟩ := asI_bnd r2 h2
      by_cases z : n.natAbs ≤ 100000
      · rw [if_pos z] at h3
        have hk : w2.H q = some (.lst [v]) := e2.kp id (fun z => s1.fresh hq (.inr z)) upd_same
        refine ⟨q, n, [v], rfl, rfl, hk, by omega, by omega, big_le (show 1 * n.toNat ≤ big by unfold big; omega), ?_⟩
        rw [flat_rep]
        exact new_lst s2 (RpAll.rep ((hv.mono eP).mono e2) _) h3 (p.mono ((e1.thru eP s1).thru e2 sP) s2)
      · rw [if_neg z] at h3; cases h3
    · cases h1
end
end FC

set_option Elab.async false
set_option linter.all false
set_option maxRecDepth 100000
namespace FC
open PySem PySem.Spec L2
section
variable {X : Cx} {ξ : Iv} {W : WX} {G : Gp}
/-! ### methods that read a list -/
@[simp] def fMethR (k : List Dv → List Dv → Mm Dv) (fo : FE) (fa : FA) : FE := fun env => bnd (fo env) fun o => bnd (fa env) fun ds S => match listOf o S with
  | some xs => k xs ds S
  | none => none
def MethR (G : Gp) (r : V → List V → Hp → VK → Prop) (k : List Dv → List Dv → Mm Dv) : Prop := ∀ (W : WX) (w : Wd) (σ : L2.St) (S : Store) (a : Addr) (ys xs : List V) (es ds : List Dv) (res : Rs Dv) (Q : VK), SOk G w S → SqL G.K w.H a ys → RpAll G w ys es → RpAll G w xs ds → k es ds S = some res → PR G W (Rp G) w σ res Q → r (.ref a) xs w.H Q
/-- what stays a list -/
def isLst (o : Dv) (S : Store) : Bool := match o with
  | .lst _ => true
  | .obj n => match S[n]? with
    | some (.lst _) => true
    | _ => false
  | _ => false
theorem methR_body {r : V → List V → Hp → VK → Prop} {k : List Dv → List Dv → Mm Dv} {fo : FE} {fa : FA} (hd : MethR G r k) : ∀ σ H Q, tD G ξ W (fun env => bnd (fo env) fun o S => if isLst o S = true then bnd (fa env) (fun ds S => match listOf o S with
  | some xs => k xs ds S
  | none => none) S else none) σ H Q → tBM G.K "list" r (tD G ξ W fo) (tDA G ξ W fa) σ H Q := fun σ H Q ⟨w, env, S, res, eH, s, en, h, p⟩ => by
  subst eH
  refine seqR s en h p.px fun x S1 v w1 e1 s1 en1 r1 h1 => ?_
  by_cases z : isLst x S1 = true
  · rw [if_pos z] at h1
    have hty : tyV G.K "list" v w1.H := by
      obtain ⟨ds, hl⟩ : ∃ ds, listOf x S1 = some ds := by
        unfold isLst at z
        unfold listOf
        split at z
        · exact ⟨_, rfl⟩
        · split at z
          · rename_i n _ xs e
            exact ⟨xs, by simp [e]⟩
          · cases z
        · cases z
      obtain ⟨a, xs, rfl, hs, _⟩ := listOf_ok s1 r1 hl
      exact .inl ⟨rfl, xs, hs⟩
    refine ⟨hty, ?_⟩
    refine seqR s1 en1 h1 (p.px.mono e1 s1) fun ys S2 us w2 e2 s2 en2 r2 h2 => ?_
    cases hl : listOf x S2 with
    | none => rw [hl] at h2; cases h2
    | some xs =>
      rw [hl] at h2
      obtain ⟨a, zs, rfl, hs, hr⟩ := listOf_ok s2 (r1.mono e2) hl
      exact hd W w2 σ S2 a zs us xs ys res Q s2 hs hr r2 h2 (p.mono (e1.thru e2 s1) s2)
  · rw [if_neg z] at h1; cases h1
@[simp] def fMR (k : List Dv → List Dv → Mm Dv) (fo : FE) (fa : FA) : FE := fun env => bnd (fo env) fun o S => if isLst o S = true then bnd (fa env) (fun ds S => match listOf o S with
  | some xs => k xs ds S
  | none => none) S else none
@[simp] def cntK (es ds : List Dv) : Mm Dv := fun S => match asInts es, ds with
  | some ns, [.int i] => some (.ok (.int (ns.count i : Nat)) S)
  | _, _ => none
theorem md_cnt : MethR G (rCntI G.K) cntK := by
  intro W w σ S a ys xs es ds res Q s hs hr r h p
  unfold cntK at h
  cases hi : asInts es with
  | none => rw [hi] at h; cases h
  | some ns =>
    rw [hi] at h
    have e := ints_vs hr hi
    subst e
    match ds, r, h with
    | [.int i], r, h =>
      obtain ⟨v, rfl, hv⟩ := rp1 r
      cases hv
      cases h
      exact ⟨a, ns, i, rfl, rfl, hs, p.here s (.int _)⟩
@[simp] def idxK (es ds : List Dv) : Mm Dv := fun S => match asInts es, ds with
  | some ns, [.int i] => match ns.idxOf? i with
    | some j => some (.ok (.int (j : Nat)) S)
    | none => none
  | _, _ => none
theorem md_idx : MethR G (rIndex G.K) idxK := by
  intro W w σ S a ys xs es ds res Q s hs hr r h p
  unfold idxK at h
  cases hi : asInts es with
  | none => rw [hi] at h; cases h
  | some ns =>
    rw [hi] at h
    have e := ints_vs hr hi
    subst e
    match ds, r, h with
    | [.int i], r, h =>
      obtain ⟨v, rfl, hv⟩ := rp1 r
      cases hv
      cases hj : ns.idxOf? i with
      | none => simp only [hj] at h; cases h
      | some j =>
        simp only [hj] at h
        cases h
        unfold List.idxOf? at hj
        rw [List.findIdx?_eq_some_iff_getElem] at hj
        obtain ⟨h1, h2, h3⟩ := hj
        refine ⟨a, ns.map V.int, .int i, j, .int i, rfl, rfl, hs, rfl, flat_ints ns, ?_, by simp [eqV], fun m z hm hz => ?_, p.here s (.int _)⟩
        · rw [List.getElem?_map, List.getElem?_eq_getElem h1]
          have : ns[j] = i := by simpa using h2
          rw [this]
          rfl
        · rw [List.getElem?_map, List.getElem?_eq_getElem (by omega)] at hz
          cases hz
          have := h3 m hm
          show (ns[m] == i) = false
          simpa using this
section
variable {o a : Expr} {fo : FE} {fa : FA} {apos cpos : Pos}
theorem d_count (ho : DE X ξ W o fo) (ha : DA X ξ W [a] fa)
    (hbase : attributeBase o "count" X.env (eval o X.env) = eval o X.env := by rfl)
    (hfew : ((backTo cpos (starEach [a] X.env)).all (fun x => !x.1) && (backToKw cpos (keywordEach [] X.env)).all (fun x => x.1.isSome)
      && decide ([a].length + ([] : List Keyword).length + (if ([] : List Keyword).isEmpty then 0 else 1) < 30)) = true := by rfl)
    (hline : (apos.endLine == cpos.line) = true := by rfl) (hs : starEach [a] X.env = (false, eval a X.env) :: starEach [] X.env := by rfl) (hplain : (backTo cpos (starEach [] X.env)).any (·.1) = false := by rfl) :
    DE X ξ W (.Call (.Attribute o "count" apos) [a] [] cpos) (fMR cntK fo fa) :=
  PE.imp (pe_bm PySem.F.plainAttrs_list PySem.F.slot_list_count PySem.F.type_list_count mt_lcount ho ha hbase hfew hline hs hplain) (methR_body md_cnt)
theorem d_index (ho : DE X ξ W o fo) (ha : DA X ξ W [a] fa)
    (hbase : attributeBase o "index" X.env (eval o X.env) = eval o X.env := by rfl)
    (hfew : ((backTo cpos (starEach [a] X.env)).all (fun x => !x.1) && (backToKw cpos (keywordEach [] X.env)).all (fun x => x.1.isSome)
      && decide ([a].length + ([] : List Keyword).length + (if ([] : List Keyword).isEmpty then 0 else 1) < 30)) = true := by rfl)
    (hline : (apos.endLine == cpos.line) = true := by rfl) (hs : starEach [a] X.env = (false, eval a X.env) :: starEach [] X.env := by rfl) (hplain : (backTo cpos (starEach [] X.env)).any (·.1) = false := by rfl) :
    DE X ξ W (.Call (.Attribute o "index" apos) [a] [] cpos) (fMR idxK fo fa) :=
  PE.imp (pe_bm PySem.F.plainAttrs_list PySem.F.slot_list_index PySem.F.type_list_index mt_index ho ha hbase hfew hline hs hplain) (methR_body md_idx)
end
/-! ### sorted of ints -/
@[simp] def oSorted (m : Bool) : DCl := fun ds S => match ds with
  | [d] => match (listOf d S).bind asInts with
    | some ns => newL m ((ns.mergeSort (fun a b => decide (a ≤ b))).map Dv.int) S
    | none => none
  | _ => none
theorem sorted_one {ns ms : List Int} (h : ms.Perm ns) (hs : ms.Pairwise (· ≤ ·)) : ms = ns.mergeSort fun a b => decide (a ≤ b) := by
  have h1 : (ns.mergeSort fun a b => decide (a ≤ b)).Perm ns := List.mergeSort_perm _ _
  have h2 : (ns.mergeSort fun a b => decide (a ≤ b)).Pairwise (· ≤ ·) := by
    have := List.pairwise_mergeSort (le := fun a b : Int => decide (a ≤ b)) (by intro a b c; simp; omega) (by intro a b; simp; omega) ns
    simpa using this
  exact List.Perm.eq_of_pairwise (le := (· ≤ ·)) (by intro a b _ _ h1 h2; omega) hs h2 (h.trans h1.symm)
theorem cd_sorted (m : Bool) : CallD G (rSortedI G.K) (oSorted m) := by
  intro W w σ S xs ds res Q s r h p
  match ds, r, h with
  | [d], r, h =>
    obtain ⟨v, rfl, hv⟩ := rp1 r
    unfold oSorted at h
    dsimp only at h
    cases hl : listOf d S with
    | none => rw [hl] at h; cases h
    | some es =>
      cases hi : asInts es with
      | none => rw [hl] at h; simp only [Option.bind, hi] at h; cases h
      | some ns =>
        rw [hl] at h; simp only [Option.bind, hi] at h
        obtain ⟨a, zs, rfl, hs, hr⟩ := listOf_ok s hv hl
        have e := ints_vs hr hi
        subst e
        refine ⟨a, ns, rfl, hs, fun ms q hp hw hq => ?_⟩
        rw [sorted_one hp hw]
        exact new_lst s (RpAll.of_ints _) h p q hq
end
end FC

set_option Elab.async false
set_option linter.all false
set_option maxRecDepth 100000
namespace FC
open PySem PySem.Spec L2
/-! ### instances: fields -/
section
variable {X : Cx} {ξ : Iv} {W : WX} {G : Gp}
def insOf (d : Dv) (S : Store) : Option (Str × List (Str × Dv)) := match d with
  | .ins c fs => some (c, fs)
  | .obj n => match S[n]? with
    | some (.ins c fs) => some (c, fs)
    | _ => none
  | _ => none
theorem insOf_ok {w : Wd} {S : Store} {v : V} {d : Dv} {c : Str} {fs : List (Str × Dv)} (s : SOk G w S) (r : Rp G w v d) (h : insOf d S = some (c, fs)) : ∃ a dx fs', v = .ref a ∧ w.H a = some (.ins (G.cA c) dx fs') ∧ fs'.map Prod.fst = fs.map Prod.fst ∧ RpAll G w (fs'.map Prod.snd) (fs.map Prod.snd) := by
  cases r <;> first | (cases h; done) | skip
  · rename_i a n ha
    dsimp only [insOf] at h
    cases e : S[n]? with
    | none => rw [e] at h; cases h
    | some d =>
      rw [e] at h
      have m := s.cont n a d ha e
      cases d <;> first | (cases h; done) | skip
      cases h
      obtain ⟨dx, fs', h1, h2, h3⟩ := m
      exact ⟨a, dx, fs', rfl, h1, h2, h3⟩
  · cases h
    rename_i a dx fs' h2 h1 h3 h4
    exact ⟨a, dx, fs', rfl, h1, h3, h4⟩
theorem look_ok {w : Wd} {f : Str} : ∀ {fs' : List (Str × V)} {fs : List (Str × Dv)}, fs'.map Prod.fst = fs.map Prod.fst → RpAll G w (fs'.map Prod.snd) (fs.map Prod.snd) → (∀ d, fs.lookup f = some d → ∃ v, fs'.lookup f = some v ∧ Rp G w v d) ∧ (fs.lookup f = none → fs'.lookup f = none)
  | [], [], _, _ => ⟨fun d h => (by cases h), fun _ => rfl⟩
  | (g, v) :: fs', (g2, d) :: fs, hn, hr => by
    simp only [List.map_cons, List.cons.injEq] at hn
    obtain ⟨hg, hn⟩ := hn
    subst hg
    cases hr with
    | cons hv hr =>
      obtain ⟨i1, i2⟩ := look_ok (f := f) hn hr
      rw [List.lookup_cons, List.lookup_cons]
      cases f == g with
      | true => exact ⟨fun e h => by cases h; exact ⟨v, rfl, hv⟩, fun h => by cases h⟩
      | false => exact ⟨i1, i2⟩
  | [], _ :: _, hn, _ => by simp at hn
  | _ :: _, [], hn, _ => by simp at hn
/-- o.f, o an instance of just this class -/
@[simp] def fFld (c f : Str) (fa : FE) : FE := fun env => bnd (fa env) fun x S => match insOf x S with
  | some (c', fs) => if c' = c then (match fs.lookup f with
    | some d => some (.ok d S)
    | none => none) else none
  | none => none
theorem d_fld {c f : Str} {e : Expr} {fa : FE} {pos : Pos} (hC : Cls X.K (cOf X.mg c)) (hN : NoAttr X.K (cOf X.mg c) f) (ha : DE X ξ W e fa) (hb : attributeBase e f X.env (eval e X.env) = eval e X.env := by rfl) : DE X ξ W (.Attribute e f pos) (fFld c f fa) :=
  PE.imp (pe_fld ha hb) fun σ H Q ⟨w, env, S, res, eH, s, en, h, p⟩ => by
    subst eH
    refine seqR s en h p.px fun x S1 v w1 e1 s1 en1 r1 h1 => ?_
    cases hi : insOf x S1 with
    | none => rw [hi] at h1; cases h1
    | some q =>
      obtain ⟨c', fs⟩ := q
      rw [hi] at h1
      by_cases z : c' = c
      · subst z
        simp only [if_pos] at h1
        obtain ⟨a, dx, fs', rfl, hH, hn, hr⟩ := insOf_ok s1 r1 hi
        cases hl : fs.lookup f with
        | none => rw [hl] at h1; cases h1
        | some d =>
          rw [hl] at h1
          cases h1
          obtain ⟨v, h2, h3⟩ := (look_ok hn hr).1 d hl
          exact ⟨a, _, dx, fs', v, rfl, hH, hC, hN, h2, p.ok_ e1 s1 h3⟩
      · simp only [if_neg z] at h1
        cases h1
/-- a constant of the class -/
@[simp] def fCon (c f : Str) (d : Dv) (fa : FE) : FE := fun env => bnd (fa env) fun x S => match insOf x S with
  | some (c', fs) => if c' = c ∧ fs.lookup f = none then some (.ok d S) else none
  | none => none
theorem d_con {c f : Str} {e : Expr} {fa : FE} {pos : Pos} {v : V} {u : Value} {d : Dv} (hC : Cls X.K (cOf X.mg c)) (hN : Con X.K (cOf X.mg c) f v u) (hv : ∀ w, Rp (gp X) w v d) (ha : DE X ξ W e fa) (hb : attributeBase e f X.env (eval e X.env) = eval e X.env := by rfl) : DE X ξ W (.Attribute e f pos) (fCon c f d fa) :=
  PE.imp (pe_con ha hb) fun σ H Q ⟨w, env, S, res, eH, s, en, h, p⟩ => by
    subst eH
    refine seqR s en h p.px fun x S1 y w1 e1 s1 en1 r1 h1 => ?_
    cases hi : insOf x S1 with
    | none => rw [hi] at h1; cases h1
    | some q =>
      obtain ⟨c', fs⟩ := q
      rw [hi] at h1
      by_cases z : c' = c ∧ fs.lookup f = none
      · simp only [if_pos z] at h1
        obtain ⟨z1, z2⟩ := z
        subst z1
        cases h1
        obtain ⟨a, dx, fs', rfl, hH, hn, hr⟩ := insOf_ok s1 r1 hi
        exact ⟨a, _, dx, fs', v, u, rfl, hH, hC, hN, (look_ok hn hr).2 z2, p.ok_ e1 s1 (hv w1)⟩
      · simp only [if_neg z] at h1
        cases h1
/-- o.f = value -/
def putD (f : Str) (v : Dv) : List (Str × Dv) → List (Str × Dv)
  | [] => [(f, v)]
  | (g, x) :: r => if g = f then (g, v) :: r else (g, x) :: putD f v r
theorem putD_ok {w : Wd} {f : Str} {v : V} {d : Dv} (hv : Rp G w v d) : ∀ {fs' : List (Str × V)} {fs : List (Str × Dv)}, fs'.map Prod.fst = fs.map Prod.fst → RpAll G w (fs'.map Prod.snd) (fs.map Prod.snd) → (putF f v fs').map Prod.fst = (putD f d fs).map Prod.fst ∧ RpAll G w ((putF f v fs').map Prod.snd) ((putD f d fs).map Prod.snd)
  | [], [], _, _ => ⟨rfl, .cons hv .nil⟩
  | (g, x) :: fs', (g2, y) :: fs, hn, hr => by
    simp only [List.map_cons, List.cons.injEq] at hn
    obtain ⟨hg, hn⟩ := hn
    subst hg
    cases hr with
    | cons hx hr =>
      obtain ⟨i1, i2⟩ := putD_ok hv hn hr
      unfold putF putD
      by_cases z : g = f
      · rw [if_pos z, if_pos z]
        exact ⟨by simp only [List.map_cons, hn], .cons hv hr⟩
      · rw [if_neg z, if_neg z]
        exact ⟨by simp only [List.map_cons, i1], .cons hx i2⟩
  | [], _ :: _, hn, _ => by simp at hn
  | _ :: _, [], hn, _ => by simp at hn
def setFld (c f : Str) (o v : Dv) (S : Store) : Option Store := match o with
  | .obj n => match S[n]? with
    | some (.ins c' fs) => if c' = c ∧ fs.length < 1000 then some (S.set n (.ins c (putD f v fs))) else none
    | _ => none
  | _ => none
def sSetFld (c f : Str) (fo fe : FE) : FS := sBnd fe fun v => sBnd fo fun o => fun env S => match setFld c f o v S with
  | some S' => some (.nx env S')
  | none => none
theorem s_setFld {c f : Str} {o e : Expr} {fo fe : FE} {pos pos' : Pos} (hC : Cls X.K (cOf X.mg c)) (hN : NoAttr X.K (cOf X.mg c) f) (ho : DE X ξ W o fo) (he : DE X ξ W e fe) (hs : swapsWith e (some (.Attribute o f pos')) pos.line X.env = pure false := by rfl) : DS X ξ W (.Assign [.Attribute o f pos'] e pos) (sSetFld c f fo fe) :=
  PS.imp (ps_fld ho he hs) fun D σ H ⟨w, env, S, r, eH, s, en, h, p⟩ => by
    subst eH
    refine seqS s en h p.px fun d S1 v w1 e1 s1 en1 r1 h1 => seqS s1 en1 h1 (p.mono e1).px fun o S2 ov w2 e2 s2 en2 r2 h2 => ?_
    cases q : setFld c f o d S2 with
    | none => rw [q] at h2; cases h2
    | some S4 =>
      rw [q] at h2
      cases h2
      unfold setFld at q
      split at q
      · rename_i n
        split at q
        · rename_i c' fs hS
          by_cases z : c' = c ∧ fs.length < 1000
          · rw [if_pos z] at q
            obtain ⟨z1, z2⟩ := z
            subst z1
            cases q
            cases r2 with
            | obj ha =>
              rename_i a
              obtain ⟨dx, fs', hx, hn, hr⟩ := s2.cont n a _ ha hS
              have hlen : fs'.length = fs.length := by
                have := congrArg List.length hn
                simpa using this
              refine ⟨a, _, dx, fs', rfl, hx, hC, hN, by omega, ?_⟩
              have e4 : Ext w2 (w2.put a (.ins (cOf X.mg c') dx (putF f v fs'))) := .upd ha
              obtain ⟨k1, k2⟩ := putD_ok (f := f) (((r1.mono e2).mono e4)) hn (hr.mono e4)
              have s4 : SOk (gp X) (w2.put a (.ins (cOf X.mg c') dx (putF f v fs'))) (S2.set n (.ins c' (putD f d fs))) := s2.upd ha ⟨dx, _, upd_same, k1, k2⟩
              exact p σ (w2.put a (.ins (cOf X.mg c') dx (putF f v fs'))) ((e1.trans e2).trans e4) s4 (en2.mono e4)
          · rw [if_neg z] at q; cases q
        · cases q
      · cases q
end
end FC

set_option Elab.async false
set_option linter.all false
set_option maxRecDepth 100000
namespace FC
open PySem PySem.Spec L2
/-! ### instances: made, asked -/
section
variable {X : Cx} {ξ : Iv} {W : WX} {CX : CXT} {k : Nat} {f C : Addr} {fd : FuncData} {ps : List Str} {sp : Sp} {E : L2.St → XK}
/-- an instance, the errors by the slots -/
def tMkS (C : Addr) (sp : Sp) (E : L2.St → XK) (t : TA) : TE := fun σ H Q => t σ H fun vs H1 =>
  ∀ x dx, H1 x = none → H1 dx = none → dx ≠ x → sp (V.ref x :: vs) (upd (upd H1 dx (.own x)) x (.ins C dx [])) (fun v H2 => v = V.non ∧ Q (V.ref x) H2) (E σ)
theorem run_mkS {pins : List (Addr × Obj)} {σ : L2.St} {H : Hp} {s : Shared} {Q : VK} {us : List Value} {vs : List V} (M : Mk X.K C f) (F : FnOk X.prog X.w X.K X.mg X.base CX k f fd ps sp) (hr : Room (k + 1) X.A) (hb : Binds X.K fd ps [])
    (hx : PassesAt CX X σ (E σ)) (I : Inv X pins σ H s) (rv : Vals vs us)
    (h : ∀ x dx, H x = none → H dx = none → dx ≠ x → sp (V.ref x :: vs) (upd (upd H dx (.own x)) x (.ins C dx [])) (fun v H2 => v = V.non ∧ Q (V.ref x) H2) (E σ)) :
    wpAny (model X.prog X.w) X.A (call (Value.ref C) us) (EP X pins σ Q) X.xe s := by
  let z := s.heap.objs.size
  have wish := h (z + 1) z (I.hok.fresh (Nat.le_succ z)) (I.hok.fresh (Nat.le_refl z)) (Nat.ne_of_lt (Nat.lt_succ_self z))
  have J := Inv.made (C := C) I
  have rall : Vals (V.ref (z + 1) :: vs) (Value.ref (z + 1) :: us) := .cons rfl rv
  have len : (Value.ref (z + 1) :: us ++ []).length = ps.length := by
    rw [List.append_nil, ← rall.length]
    exact F.len _ _ _ _ wish
  have binds := hb _ (Value.ref (z + 1) :: us) J.kIn len
  rw [List.append_nil] at binds
  refine wpAny_call (make_map (f := f) I.kIn M.makes M.init (beq_iff_eq.mp M.fn) (codeAny_mono (F.run _ X.stack _ _ ⟨Value.ref (z + 1) :: us, []⟩ (Value.ref (z + 1) :: us) _ _ (E σ) (hr.make C us []) (J.env0.make C us []) binds rall wish) fun r s' out => ?_))
  cases r with
  | error e => exact hx pins _ _ e s' J out
  | ok fl =>
    cases fl with
    | ret u =>
      obtain ⟨v, H', I3, ru, e, q⟩ := J.after out
      subst e
      exact ⟨ru, V.ref (z + 1), H', I3, rfl, q⟩
    | next => cases out
    | brk => cases out
    | cont => cases out
theorem pe_mkS {x : Str} {e : Expr} {es : List Expr} {p pos : Pos} {t : TA} (M : Mk X.K C f) (F : FnOk X.prog X.w X.K X.mg X.base CX k f fd ps sp) (hr : Room (k + 1) X.A) (hm : X.mg x = some (.ref C)) (hb : Binds X.K fd ps []) (hx : ∀ σ, PassesAt CX X σ (E σ))
    (ha : PA X (e :: es) t) (hg : Gl X x := by rfl) (hdb : (x == ("__debug__" : Str)) = false := by decide) (he : starEach (e :: es) X.env = (false, eval e X.env) :: starEach es X.env := by rfl) (hpl : (backTo pos (starEach es X.env)).any (·.1) = false := by rfl) :
    PE X (.Call (.Name x p) (e :: es) [] pos) (tMkS C sp E t) := ⟨fun pins s σ H Q I h => by
  refine wpAny_Call_Name_kw (ld_glob I hg hm ?_ hdb)
  exact PySem.W.callWith_K (h₀ := X.base) I.ok.mod.kin M.kp (thn (ha.run pos pins s σ H _ I h) fun us s1 ⟨vs, H1, I1, rv, q⟩ => ⟨I1.kIn, run_mkS M F hr hb (hx σ) I1 rv q⟩) he hpl⟩
@[simp] def fMake (c : Str) (n : Nat) (F : DFn) (fa : FA) : FE := fun env => bnd (fa env) fun ds S => if ds.length = n then (match F (.obj S.length :: ds) (S ++ [.ins c []]) with
  | some (.ok .non S') => some (.ok (.obj S.length) S')
  | some (.exc e fs S') => some (.exc e fs S')
  | _ => none) else none
theorem d_make {c : Str} {n : Nat} {F : DFn} {e : Expr} {es : List Expr} {p pos : Pos} {fa : FA} (M : Mk X.K (cOf X.mg c) f) (hF : FnOk X.prog X.w X.K X.mg X.base (L2.CX X.prog X.w) k f fd ps (spD X.K X.mg (n + 1) F)) (hr : Room (k + 1) X.A) (hm : X.mg c = some (.ref (cOf X.mg c))) (hb : Binds X.K fd ps []) (tk : Takes X W)
    (ha : DA X ξ W (e :: es) fa) (hg : Gl X c := by rfl) (hdb : (c == ("__debug__" : Str)) = false := by decide) (he : starEach (e :: es) X.env = (false, eval e X.env) :: starEach es X.env := by rfl) (hpl : (backTo pos (starEach es X.env)).any (·.1) = false := by rfl) :
    DE X ξ W (.Call (.Name c p) (e :: es) [] pos) (fMake c n F fa) :=
  PE.imp (pe_mkS M hF hr hm hb (fun σ => passAt tk σ) ha hg hdb he hpl) fun σ H Q ⟨w, env, S, res, eH, s, en, h, p⟩ => by
    subst eH
    refine seqR s en h p.px fun ds S1 vs w1 e1 s1 en1 r1 h1 => ?_
    by_cases z : ds.length = n
    · rw [if_pos z] at h1
      intro x dx hx hdx hne
      have eA : Ext w1 (w1.put dx (.own x)) := .put hdx
      have sA : SOk (gp X) (w1.put dx (.own x)) S1 := s1.put hdx
      have hx2 : (w1.put dx (.own x)).H x = none := by
        show upd w1.H dx _ x = none
        rw [upd_ne (fun q => hne q.symm)]
        exact hx
      let w2 : Wd := (w1.put dx (.own x)).add x (.ins (cOf X.mg c) dx [])
      have eB : Ext (w1.put dx (.own x)) w2 := .add hx2
      have sB : SOk (gp X) w2 (S1 ++ [.ins c []]) := sA.add hx2 ⟨dx, [], upd_same, rfl, .nil⟩
      have ro : Rp (gp X) w2 (V.ref x) (.obj S1.length) := Rp.add_obj sA
      have e12 := (e1.thru eA s1).thru eB sA
      have pp := p.mono e12 sB
      cases hF2 : F (.obj S1.length :: ds) (S1 ++ [.ins c []]) with
      | none => rw [hF2] at h1; cases h1
      | some r =>
        rw [hF2] at h1
        refine ⟨by rw [List.length_cons, r1.length, z], w2, S1 ++ [.ins c []], .obj S1.length :: ds, r, rfl, sB, .cons ro ((r1.mono eA).mono eB), hF2, ?_⟩
        cases r with
        | ok d S' =>
          cases d <;> first | (cases h1; done) | skip
          cases h1
          intro v w' e' s' rv
          cases rv
          cases ro with
          | obj ha2 => exact ⟨rfl, pp.ok_ e' s' (.obj (e'.as_of ha2))⟩
        | exc c2 fs2 S' =>
          cases h1
          exact fun dd fs' w' e s' hd hm hn hr => pp dd fs' w' e s' hd hm hn hr
    · rw [if_neg z] at h1; cases h1
/-! ### methods -/
def tMtS (C : Addr) (m : Str) (sp : Sp) (E : L2.St → XK) (ta : TE) (t : TA) : TE := fun σ H Q => ta σ H fun x H1 => ∃ a dx fs, x = V.ref a ∧ H1 a = some (.ins C dx fs) ∧ fs.lookup m = none ∧ t σ H1 fun vs H2 => sp (x :: vs) H2 Q (E σ)
theorem pe_mtS {pl : Sem Bool} {o e : Expr} {es : List Expr} {m : Str} {apos pos : Pos} {to : TE} {t : TA} (ho : PE X o to) (c : Cls X.K C) (hm : Meth X.K C m f) (F : FnOk X.prog X.w X.K X.mg X.base CX k f fd ps sp) (hr : Room k X.A) (hb : Binds X.K fd ps []) (hx : ∀ σ, PassesAt CX X σ (E σ)) (ha : PA X (e :: es) t)
    (hst : starEach (e :: es) X.env = (false, eval e X.env) :: starEach es X.env := by rfl) (hpl : (backTo pos (starEach es X.env)).any (·.1) = false := by rfl)
    (ht : eval (.Call (.Attribute o m apos) (e :: es) [] pos) X.env = (do
      let ov ← eval o X.env; standAt apos.atName; let (f, first) ← holding [ov] (getMethod ov m pl); callWith pos f first (backTo pos (starEach (e :: es) X.env)) (backToKw pos (keywordEach [] X.env))) := by rfl) :
    PE X (.Call (.Attribute o m apos) (e :: es) [] pos) (tMtS C m sp E to t) := ⟨fun pins s σ H Q I h => by
  refine PySem.W.methodCall_KW (pl := pl) (thn (ho.run pins s σ H _ I h) fun u s1 ⟨x, H1, I1, rx, a, dx, fs, ex, ea, l, q⟩ => ?_) ht
  cases ex
  cases (show u = Value.ref a from rx)
  refine getmeth_ok I1 ea c hm l (PySem.W.callWith_K (first := [.ref a]) (h₀ := X.base) I.ok.mod.kin hm.kp (thn (ha.run pos pins s1 σ H1 _ I1 q) fun us s2 ⟨vs, H2, I2, rv, q2⟩ => ⟨I2.kIn, ?_⟩) hst hpl)
  exact run_fnSD (us := .ref a :: us) (vs := .ref a :: vs) (dvs := []) F hr hb .nil (hx σ) I2 (.cons rfl rv) (by rw [List.append_nil]; exact q2)⟩
theorem pe_mtS0 {pl : Sem Bool} {o : Expr} {m : Str} {apos pos : Pos} {to : TE} (ho : PE X o to) (c : Cls X.K C) (hm : Meth X.K C m f) (F : FnOk X.prog X.w X.K X.mg X.base CX k f fd ps sp) (hr : Room k X.A) (hb : Binds X.K fd ps []) (hx : ∀ σ, PassesAt CX X σ (E σ))
    (ht : eval (.Call (.Attribute o m apos) [] [] pos) X.env = (do
      let ov ← eval o X.env; standAt apos.atName; let (f, first) ← holding [ov] (getMethod ov m pl); callWith pos f first (backTo pos (starEach [] X.env)) (backToKw pos (keywordEach [] X.env))) := by rfl) :
    PE X (.Call (.Attribute o m apos) [] [] pos) (tMtS C m sp E to tNil) := ⟨fun pins s σ H Q I h => by
  refine PySem.W.methodCall_KW (pl := pl) (thn (ho.run pins s σ H _ I h) fun u s1 ⟨x, H1, I1, rx, a, dx, fs, ex, ea, l, q⟩ => ?_) ht
  cases ex
  cases (show u = Value.ref a from rx)
  exact getmeth_ok I1 ea c hm l (PySem.W.callWith_K0 (first := [.ref a]) I1.kIn hm.kp (run_fnSD (us := [.ref a]) (vs := [.ref a]) (dvs := []) F hr hb .nil (hx σ) I1 (.cons rfl .nil) q))⟩
@[simp] def fMt (c m : Str) (n : Nat) (F : DFn) (fo : FE) (fa : FA) : FE := fun env => bnd (fo env) fun o S => match insOf o S with
  | some (c', fs) => if c' = c ∧ fs.lookup m = none then bnd (fa env) (fun ds => if ds.length = n then F (o :: ds) else stuck) S else none
  | none => none
theorem mt_body {c m : Str} {n : Nat} {F : DFn} {fo : FE} {fa : FA} : ∀ σ H Q, tD (gp X) ξ W (fMt c m n F fo fa) σ H Q → tMtS (cOf X.mg c) m (spD X.K X.mg (n + 1) F) (WE W) (tD (gp X) ξ W fo) (tDA (gp X) ξ W fa) σ H Q := fun σ H Q ⟨w, env, S, res, eH, s, en, h, p⟩ => by
  subst eH
  refine seqR s en h p.px fun o S1 v w1 e1 s1 en1 r1 h1 => ?_
  cases hi : insOf o S1 with
  | none => rw [hi] at h1; cases h1
  | some q =>
    obtain ⟨c', fs⟩ := q
    rw [hi] at h1
    by_cases z : c' = c ∧ fs.lookup m = none
    · simp only [if_pos z] at h1
      obtain ⟨z1, z2⟩ := z
      subst z1
      obtain ⟨a, dx, fs', rfl, hH, hn, hr⟩ := insOf_ok s1 r1 hi
      refine ⟨a, dx, fs', rfl, hH, (look_ok hn hr).2 z2, ?_⟩
      refine seqR s1 en1 h1 (p.px.mono e1 s1) fun ds S2 vs w2 e2 s2 en2 r2 h2 => ?_
      by_cases y : ds.length = n
      · rw [if_pos y] at h2
        have pp := p.mono (e1.thru e2 s1) s2
        refine ⟨by rw [List.length_cons, r2.length, y], w2, S2, o :: ds, res, rfl, s2, .cons (r1.mono e2) r2, h2, ?_⟩
        cases res with
        | ok d S' => exact pp
        | exc c2 fs2 S' => exact fun dd fs3 w' e s' hd hm hn hr => pp dd fs3 w' e s' hd hm hn hr
      · rw [if_neg y] at h2; cases h2
    · simp only [if_neg z] at h1
      cases h1
theorem d_meth {pl : Sem Bool} {c m : Str} {n : Nat} {F : DFn} {o e : Expr} {es : List Expr} {apos pos : Pos} {fo : FE} {fa : FA} (hC : Cls X.K (cOf X.mg c)) (hm : Meth X.K (cOf X.mg c) m f) (hF : FnOk X.prog X.w X.K X.mg X.base (L2.CX X.prog X.w) k f fd ps (spD X.K X.mg (n + 1) F)) (hr : Room k X.A) (hb : Binds X.K fd ps []) (tk : Takes X W) (ho : DE X ξ W o fo)
    (ha : DA X ξ W (e :: es) fa) (hst : starEach (e :: es) X.env = (false, eval e X.env) :: starEach es X.env := by rfl) (hpl : (backTo pos (starEach es X.env)).any (·.1) = false := by rfl)
    (ht : eval (.Call (.Attribute o m apos) (e :: es) [] pos) X.env = (do
      let ov ← eval o X.env; standAt apos.atName; let (f, first) ← holding [ov] (getMethod ov m pl); callWith pos f first (backTo pos (starEach (e :: es) X.env)) (backToKw pos (keywordEach [] X.env))) := by rfl) :
    DE X ξ W (.Call (.Attribute o m apos) (e :: es) [] pos) (fMt c m n F fo fa) := PE.imp (pe_mtS ho hC hm hF hr hb (fun σ => passAt tk σ) ha hst hpl ht) mt_body
theorem d_meth0 {pl : Sem Bool} {c m : Str} {F : DFn} {o : Expr} {apos pos : Pos} {fo : FE} (hC : Cls X.K (cOf X.mg c)) (hm : Meth X.K (cOf X.mg c) m f) (hF : FnOk X.prog X.w X.K X.mg X.base (L2.CX X.prog X.w) k f fd ps (spD X.K X.mg (0 + 1) F)) (hr : Room k X.A) (hb : Binds X.K fd ps []) (tk : Takes X W) (ho : DE X ξ W o fo)
    (ht : eval (.Call (.Attribute o m apos) [] [] pos) X.env = (do
      let ov ← eval o X.env; standAt apos.atName; let (f, first) ← holding [ov] (getMethod ov m pl); callWith pos f first (backTo pos (starEach [] X.env)) (backToKw pos (keywordEach [] X.env))) := by rfl) :
    DE X ξ W (.Call (.Attribute o m apos) [] [] pos) (fMt c m 0 F fo fNil) := PE.imp (pe_mtS0 ho hC hm hF hr hb (fun σ => passAt tk σ) ht) fun σ H Q h => by
  obtain ⟨w, env, S, res, eH, s, en, h, p⟩ := h
  subst eH
  refine seqR s en h p.px fun o S1 v w1 e1 s1 en1 r1 h1 => ?_
  cases hi : insOf o S1 with
  | none => rw [hi] at h1; cases h1
  | some q =>
    obtain ⟨c', fs⟩ := q
    rw [hi] at h1
    by_cases z : c' = c ∧ fs.lookup m = none
    · simp only [if_pos z] at h1
      obtain ⟨z1, z2⟩ := z
      subst z1
      obtain ⟨a, dx, fs', rfl, hH, hn, hr⟩ := insOf_ok s1 r1 hi
      have pp := p.mono e1 s1
      have h2 : F [o] S1 = some res := h1
      refine ⟨a, dx, fs', rfl, hH, (look_ok hn hr).2 z2, rfl, w1, S1, [o], res, rfl, s1, .cons r1 .nil, h2, ?_⟩
      cases res with
      | ok d S' => exact pp
      | exc c2 fs2 S' => exact fun dd fs3 w' e s' hd hm hn hr => pp dd fs3 w' e s' hd hm hn hr
    · simp only [if_neg z] at h1
      cases h1
end
end FC

set_option Elab.async false
set_option linter.all false
set_option maxRecDepth 100000
namespace FC
open PySem PySem.Spec L2
section
variable {X : Cx} {ξ : Iv} {W : WX} {G : Gp}
/-! ### what is walked, whatever becomes of the lists that are being made -/
theorem Wk.refl (w : Wd) : Wk w w := ⟨fun _ _ h => h, fun _ _ _ n => n, fun _ _ _ h => .inl h⟩
theorem Wk.trans {w w1 w2 : Wd} (a : Wk w w1) (b : Wk w1 w2) : Wk w w2 := ⟨fun n x h => b.as n x (a.as n x h), fun x o h n => by
    rcases a.keep x o n h with q | ⟨_, _, q⟩
    · exact b.nM x _ q (a.nM x o h n)
    · exact b.nM x _ q (a.nM x o h n), fun x o n h => by
    rcases a.keep x o n h with q | ⟨hd, od, q⟩
    · exact b.keep x o (a.nM x o h n) q
    · exact .inr ⟨hd, od, b.kp id (a.nM x o h n) q⟩⟩
theorem Wk.putD {w : Wd} {D : Addr} {o : HO} (hD : w.M D) : Wk w (w.put D o) := ⟨fun _ _ h => h, fun _ _ _ n => n, fun a u n h => by
  refine .inl ?_
  show upd w.H D o a = some u
  rw [upd_ne (fun z => n (by rw [z]; exact hD))]
  exact h⟩
theorem EOk.wkNo {w w' : Wd} {σ : L2.St} {env : DEnv} (k : Wk w w') (h : EOk G Iv.no w σ env) : EOk G Iv.no w' σ env := ⟨h.len, fun i d q => by
  obtain ⟨v, h1, h2⟩ := h.get i d q
  exact ⟨v, h1, h2.wk k⟩, True.intro⟩
def ItOkW (G : Gp) (w : Wd) (J : It) (ds : List Dv) : Prop := ∀ w2 S2, Wk w w2 → SOk G w2 S2 →
  (∀ i, i < ds.length → J.go i w2.H) ∧ J.stop ds.length w2.H ∧
    ∀ i d x H', ds[i]? = some d → J.yld i w2.H x H' → ∃ w3, w3.H = H' ∧ Ext w2 w3 ∧ SOk G w3 S2 ∧ Rp G w3 x d
def tIW (G : Gp) (ξ : Iv) (W : WX) (f : FI) : TI := tG G ξ W (fun w J ds => ItOkW G w J ds) f
def DIW (X : Cx) (ξ : Iv) (W : WX) (tg iter : Expr) (f : FI) : Prop := PI X tg iter (tIW (gp X) ξ W f)
theorem itW_rng {w : Wd} {lo : Int} {n : Nat} : ItOkW G w (Itr lo n) ((upTo lo n).map Dv.int) := fun w2 S2 _ s2 => it_rng (w := w2) w2 S2 (Ext.refl _) s2
section
variable {tg e e2 : Expr} {fa : FA} {p pos : Pos}
theorem iw_rng1 (hm : X.mg "range" = none) (ha : DA X ξ W [e] fa) (hg : Gl X "range" := by rfl) (hs : starEach [e] X.env = [(false, eval e X.env)] := by rfl) : DIW X ξ W tg (.Call (.Name "range" p) [e] [] pos) (fRng1 fa) := PI.imp (pi_range1 hg hm ha hs) fun σ H R ⟨w, env, S, res, eH, s, en, h, p⟩ => by
  subst eH
  refine seqR s en h p.px fun ds S1 vs w1 e1 s1 en1 rv h1 => ?_
  unfold rng1 at h1
  split at h1
  · rename_i j
    obtain ⟨v, rfl, hv⟩ := rp1 rv
    cases hv
    by_cases z : rngOk j
    · rw [if_pos z] at h1
      cases h1
      exact ⟨j, rfl, z.to.1, z.to.2, p.ok_ e1 s1 itW_rng⟩
    · rw [if_neg z] at h1; cases h1
  · cases h1
end
/-! ### comprehensions with two clauses -/
def compM2 (b : Bd) (ft : FT) (fi1 : FI) (vs1 : List Nat) (b1 : Bd) (ft1 : FT) (fe : FE) (env0 : DEnv) : List Dv → List Dv → Mm (List Dv)
  | [], acc => ret acc
  | d :: r, acc => fun S => match b d env0 with
    | none => none
    | some env1 => match ft env1 S with
      | some (.ok false S1) => compM2 b ft fi1 vs1 b1 ft1 fe env0 r acc S1
      | some (.ok true S1) => match fi1 env1 S1 with
        | some (.ok items1 S2) => match compM b1 ft1 fe (wipeD env1 vs1) items1 acc S2 with
          | some (.ok acc2 S3) => compM2 b ft fi1 vs1 b1 ft1 fe env0 r acc2 S3
          | _ => none
        | _ => none
      | _ => none
@[simp] def fLc2 (m : Bool) (fi : FI) (own : List Nat) (b : Bd) (ft : FT) (fi1 : FI) (vs1 : List Nat) (b1 : Bd) (ft1 : FT) (fe : FE) : FE := fun env => bnd (fi env) fun items => bnd (compM2 b ft fi1 vs1 b1 ft1 fe (wipeD env own) items []) (newL m)
theorem compM2_cons {b : Bd} {ft : FT} {fi1 : FI} {vs1 : List Nat} {b1 : Bd} {ft1 : FT} {fe : FE} {env0 : DEnv} {d : Dv} {r acc : List Dv} {S : Store} {res : Rs (List Dv)} (h : compM2 b ft fi1 vs1 b1 ft1 fe env0 (d :: r) acc S = some res) :
    ∃ env1, b d env0 = some env1 ∧ ((∃ S1, ft env1 S = some (.ok false S1) ∧ compM2 b ft fi1 vs1 b1 ft1 fe env0 r acc S1 = some res) ∨
      ∃ S1 items1 S2 acc2 S3, ft env1 S = some (.ok true S1) ∧ fi1 env1 S1 = some (.ok items1 S2) ∧ compM b1 ft1 fe (wipeD env1 vs1) items1 acc S2 = some (.ok acc2 S3) ∧ compM2 b ft fi1 vs1 b1 ft1 fe env0 r acc2 S3 = some res) := by
  unfold compM2 at h
  split at h
  · cases h
  · rename_i env1 e1
    refine ⟨env1, e1, ?_⟩
    split at h
    · rename_i S1 e2
      exact .inl ⟨S1, e2, h⟩
    · rename_i S1 e2
      split at h
      · rename_i items1 S2 e3
        split at h
        · rename_i acc2 S3 e4
          exact .inr ⟨S1, items1, S2, acc2, S3, e2, e3, e4, h⟩
        · cases h
      · cases h
    · cases h
theorem compM2_ok {b : Bd} {ft : FT} {fi1 : FI} {vs1 : List Nat} {b1 : Bd} {ft1 : FT} {fe : FE} {env0 : DEnv} : ∀ {items acc : List Dv} {S : Store} {res : Rs (List Dv)}, compM2 b ft fi1 vs1 b1 ft1 fe env0 items acc S = some res → ∃ ys S2, res = .ok ys S2
  | [], acc, S, res, h => by cases h; exact ⟨acc, S, rfl⟩
  | d :: r, acc, S, res, h => by
    obtain ⟨env1, _, ⟨S1, _, h2⟩ | ⟨S1, items1, S2, acc2, S3, _, _, _, h2⟩⟩ := compM2_cons h
    · exact compM2_ok h2
    · exact compM2_ok h2
section
variable {tg iter tg1 iter1 elt : Expr} {ifs ifs1 : List Expr} {scope : Scope} {own : List (Str × Nat)} {pos : Pos} {fi fi1 : FI} {sl sl1 vs1 : List Nat} {b b1 : Bd} {ft ft1 : FT} {fe : FE}
theorem lc2_body (m : Bool) (hsl : ∀ i ∈ sl, i ∈ own.map (·.2)) (hsl1 : ∀ i ∈ sl1, i ∈ vs1) : ∀ σ H Q, tD G Iv.no W (fLc2 m fi (own.map (·.2)) b ft fi1 vs1 b1 ft1 fe) σ H Q →
    tLc2 (tI G Iv.no W fi) (gD G Iv.no sl b) (tDT G Iv.no W0 ft) (tIW G Iv.no W0 fi1) (gD G Iv.no sl1 b1) (tDT G Iv.no W0 ft1) (tD G Iv.no W0 fe) (own.map (·.2)) vs1 σ H Q := fun σ H Q ⟨w, env, S, res, eH, s, en, h, p⟩ => by
  subst eH
  refine seqR s en h p.px fun items S1 J w1 e1 s1 en1 ok h1 => fun D hD => ?_
  have p1 := p.mono e1 s1
  unfold bnd at h1
  cases hc : compM2 b ft fi1 vs1 b1 ft1 fe (wipeD env (own.map (·.2))) items [] S1 with
  | none => rw [hc] at h1; cases h1
  | some r1 =>
    rw [hc] at h1
    obtain ⟨ys, Sf, rfl⟩ := compM2_ok hc
    have hk : newL m ys Sf = some res := h1
    refine ⟨fun i k H => k = items.length - i ∧ i ≤ items.length ∧ ∃ w2 S2 vs acc, w2.H = H ∧ Lcs G w1 D w2 S2 vs acc ∧ compM2 b ft fi1 vs1 b1 ft1 fe (wipeD env (own.map (·.2))) (items.drop i) acc S2 = some (.ok ys Sf), ⟨items.length, rfl, Nat.zero_le _, ?_⟩, ?_⟩
    · refine ⟨⟨upd w1.H D (.lst []), w1.as, D :: w1.M0⟩, S1, [], [], rfl, ?_, hc⟩
      have ex : Ext w1 ⟨upd w1.H D (.lst []), w1.as, D :: w1.M0⟩ := ⟨⟨[], by simp⟩, fun a ha => List.mem_cons_of_mem _ ha, fun _ _ _ n => n, fun a o ho n z => by
        rcases z with z | z
        · rcases List.mem_cons.mp z with z | z
          · exact ne_of_none ho hD z
          · exact n (.inl z)
        · exact n (.inr z), fun a o _ ho => by
        refine .inl ?_
        show upd w1.H D _ a = some o
        rw [upd_ne (ne_of_none ho hD)]
        exact ho⟩
      refine ⟨ex, ⟨s1.nd, s1.len, fun a ha => ?_, fun a ha z => ?_, fun i a d q1 q2 => ?_⟩, List.mem_cons_self, fun z => s1.fresh hD (.inr z), upd_same, .nil⟩
      · rcases List.mem_cons.mp ha with z | z
        · subst z; exact ⟨_, upd_same, True.intro⟩
        · obtain ⟨o, ho, nt⟩ := s1.dom a z
          exact ⟨o, by show upd w1.H D _ a = some o; rw [upd_ne (ne_of_none ho hD)]; exact ho, nt⟩
      · rcases List.mem_cons.mp z with z | z
        · subst z; exact s1.fresh hD (.inr ha)
        · exact s1.dj a ha z
      · have q := s1.cont i a d q1 q2
        obtain ⟨o, ho⟩ := q.there
        exact q.mono ex (upd_ne (ne_of_none ho hD))
    · rintro i k H' ⟨rfl, hi, w2, S2, vs, acc, rfl, c, hcm⟩
      obtain ⟨go, stop, yld⟩ := ok w2 S2 c.e c.s
      by_cases hlt : i < items.length
      · refine .inr ⟨go i hlt, fun H' => i + 1 ≤ items.length ∧ ∃ w2 S2 vs acc, w2.H = H' ∧ Lcs G w1 D w2 S2 vs acc ∧ compM2 b ft fi1 vs1 b1 ft1 fe (wipeD env (own.map (·.2))) (items.drop (i + 1)) acc S2 = some (.ok ys Sf), fun H' hN => ⟨items.length - (i + 1), by omega, rfl, hN.1, hN.2⟩, fun x H' hy => ?_⟩
        have hd : items[i]? = some items[i] := List.getElem?_eq_getElem hlt
        obtain ⟨w3, rfl, e3, s3, rx⟩ := yld i _ x H' hd hy
        rw [List.drop_eq_getElem_cons hlt] at hcm
        obtain ⟨env1, hb, hcases⟩ := compM2_cons hcm
        refine ⟨w3, S2, wipeD env (own.map (·.2)), items[i], env1, rfl, s3, ((en1.mono c.e).mono e3).wipe _ (fun _ _ => True.intro), rx, hb, fun σ' en' hw => ⟨?_, ?_⟩⟩
        · rw [hw _ hsl]
          exact wipe_wipe σ _ _ fun _ z => z
        · have c3 := c.go e3 s3
          rcases hcases with ⟨S4, hft, hr⟩ | ⟨S4, items1, S5, acc2, S6, hft, hfi, hcm1, hr⟩
          · refine ⟨w3, env1, S2, _, rfl, s3, en', hft, fun bv w4 e4 s4 hbv => ?_⟩
            cases hbv
            exact ⟨hlt, w4, S4, vs, acc, rfl, c3.go e4 s4, hr⟩
          · refine ⟨w3, env1, S2, _, rfl, s3, en', hft, fun bv w4 e4 s4 hbv => ?_⟩
            cases hbv
            have c4 := c3.go e4 s4
            refine ⟨w4, env1, S4, _, rfl, s4, en'.mono e4, hfi, fun J1 w5 e5 s5 ok1 => ?_⟩
            have c5 := c4.go e5 s5
            have en5 := (en'.mono e4).mono e5
            refine ⟨fun j k H => k = items1.length - j ∧ j ≤ items1.length ∧ ∃ w6 S7 vs' acc', w6.H = H ∧ Wk w5 w6 ∧ Lcs G w1 D w6 S7 vs' acc' ∧ compM b1 ft1 fe (wipeD env1 vs1) (items1.drop j) acc' S7 = some (.ok acc2 S6), ⟨items1.length, rfl, Nat.zero_le _, w5, S5, vs, acc, rfl, Wk.refl _, c5, hcm1⟩, ?_⟩
            rintro j k H7 ⟨rfl, hj, w6, S7, vs', acc', rfl, e6, c6, hin⟩
            obtain ⟨go1, stop1, yld1⟩ := ok1 w6 S7 e6 c6.s
            by_cases hlt1 : j < items1.length
            · refine .inr ⟨go1 j hlt1, fun H' => j + 1 ≤ items1.length ∧ ∃ w6 S7 vs' acc', w6.H = H' ∧ Wk w5 w6 ∧ Lcs G w1 D w6 S7 vs' acc' ∧ compM b1 ft1 fe (wipeD env1 vs1) (items1.drop (j + 1)) acc' S7 = some (.ok acc2 S6), fun H' hN => ⟨items1.length - (j + 1), by omega, rfl, hN.1, hN.2⟩, fun x1 H8 hy1 => ?_⟩
              have hd1 : items1[j]? = some items1[j] := List.getElem?_eq_getElem hlt1
              obtain ⟨w8, rfl, e8, s8, rx1⟩ := yld1 j _ x1 H8 hd1 hy1
              rw [List.drop_eq_getElem_cons hlt1] at hin
              obtain ⟨env2, hb1, hcases1⟩ := compM_cons hin
              refine ⟨w8, S7, wipeD env1 vs1, items1[j], env2, rfl, s8, ((en5.wkNo e6).mono e8).wipe _ (fun _ _ => True.intro), rx1, hb1, fun σ3 en3 hw1 => ⟨?_, ?_⟩⟩
              · rw [hw1 _ hsl1]
                exact wipe_wipe σ' _ _ fun _ z => z
              · have c8 := c6.go e8 s8
                have e58 := e6.trans e8.wk
                rcases hcases1 with ⟨S9, hf1, hr1⟩ | ⟨S9, y, S10, hf1, hfe, hl, hr1⟩
                · refine ⟨w8, env2, S7, _, rfl, s8, en3, hf1, fun bv w9 e9 s9 hbv => ?_⟩
                  cases hbv
                  exact ⟨hlt1, w9, S9, vs', acc', rfl, e58.trans e9.wk, c8.go e9 s9, hr1⟩
                · refine ⟨w8, env2, S7, _, rfl, s8, en3, hf1, fun bv w9 e9 s9 hbv => ?_⟩
                  cases hbv
                  have c9 := c8.go e9 s9
                  refine ⟨w9, env2, S9, _, rfl, s9, en3.mono e9, hfe, fun v w10 e10 s10 rv => ?_⟩
                  have c10 := c9.go e10 s10
                  have ca := c10.app hD rv
                  exact ⟨vs', c10.h, by rw [c10.r.length]; exact big_lt hl, hlt1, _, S10, _, _, rfl, (((e58.trans e9.wk).trans e10.wk).trans (Wk.putD (.inl c10.m))), ca, hr1⟩
            · have e0 : j = items1.length := by omega
              subst e0
              rw [List.drop_length] at hin
              cases hin
              exact .inl ⟨stop1, hlt, w6, _, vs', _, rfl, c6, hr⟩
      · have e0 : i = items.length := by omega
        subst e0
        rw [List.drop_length] at hcm
        cases hcm
        exact .inl ⟨stop, c.out s1 hD hk p1⟩
theorem d_lc2V {vs : List Nat} (m : Bool) (hc : X.calm = true) (hN : X.N.Nodup) (hi : DI X Iv.no W tg iter fi) (ok : BlkOk X.N X.env.scope scope own)
    (hg : ∀ (s : Shared) (H : Hp) (C : Addr) (cl : List (Str × Addr)) (fp : List Addr), DG (X.blk s H scope (compEnvC scope cl C X.env) fp) Iv.no tg sl b)
    (ht : ∀ (s : Shared) (H : Hp) (C : Addr) (cl : List (Str × Addr)) (fp : List Addr), DTs (X.blk s H scope (compEnvC scope cl C X.env) fp) Iv.no W0 ifs ft)
    (hi1 : ∀ (s : Shared) (H : Hp) (C : Addr) (cl : List (Str × Addr)) (fp : List Addr), DIW (X.blk s H scope (compEnvC scope cl C X.env) fp) Iv.no W0 tg1 iter1 fi1)
    (hg1 : ∀ (s : Shared) (H : Hp) (C : Addr) (cl : List (Str × Addr)) (fp : List Addr), DG (X.blk s H scope (compEnvC scope cl C X.env) fp) Iv.no tg1 sl1 b1)
    (ht1 : ∀ (s : Shared) (H : Hp) (C : Addr) (cl : List (Str × Addr)) (fp : List Addr), DTs (X.blk s H scope (compEnvC scope cl C X.env) fp) Iv.no W0 ifs1 ft1)
    (he : ∀ (s : Shared) (H : Hp) (C : Addr) (cl : List (Str × Addr)) (fp : List Addr), DE (X.blk s H scope (compEnvC scope cl C X.env) fp) Iv.no W0 elt fe)
    (hv : own.map (·.2) = vs := by rfl) (hv1 : ∀ i ∈ vs1, i ∈ own.map (·.2) := by decide) (hsl : ∀ i ∈ sl, i ∈ own.map (·.2) := by decide) (hsl1 : ∀ i ∈ sl1, i ∈ vs1 := by decide) (hs : ∀ x, foldedSetIterable iter X.env x = pure x := by intro _; rfl) (hs1 : ∀ env x, foldedSetIterable iter1 env x = pure x := by intro _ _; rfl) :
    DE X Iv.no W (.ListComp elt [⟨tg, iter, ifs, 0⟩, ⟨tg1, iter1, ifs1, 0⟩] scope pos) (fLc2 m fi vs b ft fi1 vs1 b1 ft1 fe) := by
  subst hv
  exact PE.imp (pe_lc2 (g := gD (gp X) Iv.no sl b) (tt := tDT (gp X) Iv.no W0 ft) (wi1 := tIW (gp X) Iv.no W0 fi1) (g1 := gD (gp X) Iv.no sl1 b1) (tt1 := tDT (gp X) Iv.no W0 ft1) (te := tD (gp X) Iv.no W0 fe) hc hN hi ok hv1 hg ht hi1 hg1 ht1 he hs hs1) (lc2_body m hsl hsl1)
theorem s_setLc2V {i : Nat} {y : Str} {py spos : Pos} {vs : List Nat} (m : Bool) (hc : X.calm = true) (hN : X.N.Nodup) (hsw : swapsWith (.ListComp elt [⟨tg, iter, ifs, 0⟩, ⟨tg1, iter1, ifs1, 0⟩] scope pos) (some (.Name y py)) spos.line X.env = pure true) (hi : DI X Iv.no W tg iter fi) (ok : BlkOk X.N X.env.scope scope own)
    (hg : ∀ (s : Shared) (H : Hp) (C : Addr) (cl : List (Str × Addr)) (fp : List Addr), DG (X.blk s H scope (compEnvC scope cl C X.env) fp) Iv.no tg sl b)
    (ht : ∀ (s : Shared) (H : Hp) (C : Addr) (cl : List (Str × Addr)) (fp : List Addr), DTs (X.blk s H scope (compEnvC scope cl C X.env) fp) Iv.no W0 ifs ft)
    (hi1 : ∀ (s : Shared) (H : Hp) (C : Addr) (cl : List (Str × Addr)) (fp : List Addr), DIW (X.blk s H scope (compEnvC scope cl C X.env) fp) Iv.no W0 tg1 iter1 fi1)
    (hg1 : ∀ (s : Shared) (H : Hp) (C : Addr) (cl : List (Str × Addr)) (fp : List Addr), DG (X.blk s H scope (compEnvC scope cl C X.env) fp) Iv.no tg1 sl1 b1)
    (ht1 : ∀ (s : Shared) (H : Hp) (C : Addr) (cl : List (Str × Addr)) (fp : List Addr), DTs (X.blk s H scope (compEnvC scope cl C X.env) fp) Iv.no W0 ifs1 ft1)
    (he : ∀ (s : Shared) (H : Hp) (C : Addr) (cl : List (Str × Addr)) (fp : List Addr), DE (X.blk s H scope (compEnvC scope cl C X.env) fp) Iv.no W0 elt fe)
    (hv : own.map (·.2) = vs := by rfl) (hv1 : ∀ i ∈ vs1, i ∈ own.map (·.2) := by decide) (hsl : ∀ i ∈ sl, i ∈ own.map (·.2) := by decide) (hsl1 : ∀ i ∈ sl1, i ∈ vs1 := by decide) (hy : X.N[i]? = some y := by rfl) (hyl : X.env.scope.names.lookup y = some .local := by rfl) (hs : ∀ x, foldedSetIterable iter X.env x = pure x := by intro _; rfl) (hs1 : ∀ env x, foldedSetIterable iter1 env x = pure x := by intro _ _; rfl) :
    DS X Iv.no W (.Assign [.Name y py] (.ListComp elt [⟨tg, iter, ifs, 0⟩, ⟨tg1, iter1, ifs1, 0⟩] scope pos) spos) (sAsg (fLc2 m fi vs b ft fi1 vs1 b1 ft1 fe) (bName i)) := by
  subst hv
  refine PS.imp (ps_setLc2 (g := gD (gp X) Iv.no sl b) (tt := tDT (gp X) Iv.no W0 ft) (wi1 := tIW (gp X) Iv.no W0 fi1) (g1 := gD (gp X) Iv.no sl1 b1) (tt1 := tDT (gp X) Iv.no W0 ft1) (te := tD (gp X) Iv.no W0 fe) hc hN hy hyl hsw hi ok hv1 hg ht hi1 hg1 ht1 he hs hs1) fun D σ H h => ?_
  obtain ⟨w, env, S, r, eH, s, en, h, p⟩ := h
  subst eH
  have q : tD (gp X) Iv.no W (fLc2 m fi (own.map (·.2)) b ft fi1 vs1 b1 ft1 fe) σ w.H (fun x H1 => gName i x σ H1 D.nx) := seqS s en h p.px fun d S1 v w1 e1 s1 en1 r1 h1 => by
    cases h1
    exact p _ w1 e1 s1 (en1.set True.intro r1)
  exact lc2_body m hsl hsl1 σ w.H _ q
end
end
/-- a constant of the module, an int -/
theorem d_globI {X : Cx} {ξ : Iv} {W : WX} {x : Str} {n : Int} {pos : Pos} (hg : Gl X x) (h : ∃ t, X.mg x = some (.int n t)) (hd : (x == ("__debug__" : Str)) = false := by decide) : DE X ξ W (.Name x pos) (fC (.int n)) := by
  obtain ⟨t, h⟩ := h
  exact d_glob hg h (v := .int n) ⟨t, rfl⟩ (fun _ => .int _) hd
end FC

set_option Elab.async false
set_option linter.all false
set_option maxRecDepth 100000
namespace FC
open PySem PySem.Spec L2
open ClX (CRead CVal pe_cval)
section
variable {X : Cx} {ξ : Iv} {W : WX} {G : Gp}
/-- C.f, a constant of the class -/
theorem d_ccon {c f : Str} {C : Addr} {mc u : Value} {v : V} {d : Dv} {p pos : Pos} (hm : X.mg c = some (.ref C)) (hr : CRead X.K C mc) (hk : CVal X.K C mc f v u) (hv : ∀ w, Rp (gp X) w v d) (hg : Gl X c := by rfl) (hdb : (c == ("__debug__" : Str)) = false := by decide)
    (hb : attributeBase (.Name c p) f X.env (eval (.Name c p) X.env) = eval (.Name c p) X.env := by rfl) : DE X ξ W (.Attribute (.Name c p) f pos) (fC d) :=
  PE.imp (pe_cval (pe_glob (v := .ref C) hg hm rfl hdb) hb) fun σ H Q ⟨w, env, S, res, eH, s, en, h, p⟩ => by
    subst eH
    cases h
    exact ⟨C, mc, v, u, rfl, hr, hk, p.here s (hv w)⟩
/-! ### keywords; instances made with keywords -/
def DK (X : Cx) (ξ : Iv) (W : WX) (kws : List Keyword) (fk : FA) : Prop := PK X kws (tDA (gp X) ξ W fk)
theorem PK.imp {kws : List Keyword} {t t' : TA} (h : PK X kws t) (i : ∀ σ H Q, t' σ H Q → t σ H Q) : PK X kws t' := ⟨fun pos pins s σ H Q I q => h.run pos pins s σ H Q I (i σ H Q q)⟩
theorem k_nil : DK X ξ W [] fNil := PK.imp pk_nil fun σ H Q ⟨w, env, S, res, eH, s, en, h, p⟩ => by
  subst eH
  cases h
  exact p.here s .nil
theorem k_cons {nm : Option Str} {e : Expr} {kpos : Pos} {kws : List Keyword} {fa : FE} {fr : FA} (ha : DE X ξ W e fa) (hr : DK X ξ W kws fr) : DK X ξ W (⟨nm, e, kpos⟩ :: kws) (fCons fa fr) :=
  PK.imp (pk_cons ha hr) fun σ H Q ⟨w, env, S, res, eH, s, en, h, p⟩ => by
    subst eH
    refine seqR s en h p.px fun x S1 v w1 e1 s1 en1 r1 h1 => seqR s1 en1 h1 (p.px.mono e1 s1) fun xs S2 vs w2 e2 s2 en2 r2 h2 => ?_
    cases h2
    exact p.ok_ (e1.trans e2) s2 (.cons (r1.mono e2) r2)
section
variable {CX : CXT} {k n : Nat} {f C : Addr} {fd : FuncData} {ps ks : List Str} {sp : Sp} {E : L2.St → XK} {g : List Value → List Value → List Value} {gV : List V → List V → List V}
def tMkKS (C : Addr) (n m : Nat) (sp : Sp) (gV : List V → List V → List V) (E : L2.St → XK) (t tk : TA) : TE := fun σ H Q => t σ H fun vs H1 => tk σ H1 fun zs H2 => vs.length = n ∧ zs.length = m ∧
  ∀ x dx, H2 x = none → H2 dx = none → dx ≠ x → sp (gV (V.ref x :: vs) zs) (upd (upd H2 dx (.own x)) x (.ins C dx [])) (fun v H3 => v = V.non ∧ Q (V.ref x) H3) (E σ)
theorem run_mkKS {pins : List (Addr × Obj)} {σ : L2.St} {H : Hp} {s : Shared} {Q : VK} {us ws : List Value} {vs zs : List V} (M : Mk X.K C f) (F : FnOk X.prog X.w X.K X.mg X.base CX k f fd ps sp) (hr : Room (k + 1) X.A) (hb : KBn X.K fd ps (n + 1) ks g gV)
    (hx : PassesAt CX X σ (E σ)) (I : Inv X pins σ H s) (rv : Vals vs us) (rz : Vals zs ws) (l1 : vs.length = n) (l2 : zs.length = ks.length)
    (h : ∀ x dx, H x = none → H dx = none → dx ≠ x → sp (gV (V.ref x :: vs) zs) (upd (upd H dx (.own x)) x (.ins C dx [])) (fun v H2 => v = V.non ∧ Q (V.ref x) H2) (E σ)) :
    wpAny (model X.prog X.w) X.A (call (Value.ref C) us (ks.zip ws)) (EP X pins σ Q) X.xe s := by
  let z := s.heap.objs.size
  have wish := h (z + 1) z (I.hok.fresh (Nat.le_succ z)) (I.hok.fresh (Nat.le_refl z)) (Nat.ne_of_lt (Nat.lt_succ_self z))
  have J := Inv.made (C := C) I
  have r1 : Vals (V.ref (z + 1) :: vs) (Value.ref (z + 1) :: us) := .cons rfl rv
  have n1 : (Value.ref (z + 1) :: us).length = n + 1 := by rw [List.length_cons, ← rv.length, l1]
  have binds := hb.to _ (Value.ref (z + 1) :: us) ws J.kIn n1 (rz.length.symm.trans l2)
  refine wpAny_call (make_map (f := f) I.kIn M.makes M.init (beq_iff_eq.mp M.fn) (codeAny_mono (F.run _ X.stack _ _ ⟨Value.ref (z + 1) :: us, ks.zip ws⟩ (g (Value.ref (z + 1) :: us) ws) _ _ (E σ) (hr.make C us (ks.zip ws)) (J.env0.make C us (ks.zip ws)) binds (hb.rel r1 rz) wish) fun r s' out => ?_))
  cases r with
  | error e => exact hx pins _ _ e s' J out
  | ok fl =>
    cases fl with
    | ret u =>
      obtain ⟨v, H', I3, ru, e, q⟩ := J.after out
      subst e
      exact ⟨ru, V.ref (z + 1), H', I3, rfl, q⟩
    | next => cases out
    | brk => cases out
    | cont => cases out
theorem pe_mkKS {x : Str} {e : Expr} {es : List Expr} {kws : List Keyword} {p pos : Pos} {t tk : TA} (M : Mk X.K C f) (F : FnOk X.prog X.w X.K X.mg X.base CX k f fd ps sp) (hr : Room (k + 1) X.A) (hm : X.mg x = some (.ref C)) (hb : KBn X.K fd ps (n + 1) ks g gV) (hx : ∀ σ, PassesAt CX X σ (E σ))
    (ha : PA X (e :: es) t) (hkw : PK X kws tk) (hg : Gl X x := by rfl) (hall : (backToKw pos (keywordEach kws X.env)).all (·.1.isSome) = true := by rfl) (hks : (backToKw pos (keywordEach kws X.env)).filterMap (·.1) = ks := by rfl) (hdb : (x == ("__debug__" : Str)) = false := by decide)
    (he : starEach (e :: es) X.env = (false, eval e X.env) :: starEach es X.env := by rfl) (hpl : ((backTo pos (starEach (e :: es) X.env)).any (·.1) || (backToKw pos (keywordEach kws X.env)).any (·.1.isNone)) = false := by rfl) :
    PE X (.Call (.Name x p) (e :: es) kws pos) (tMkKS C n ks.length sp gV E t tk) := ⟨fun pins s σ H Q I h => by
  refine wpAny_Call_Name_kw (ld_glob I hg hm (PySem.W.callWith_KW (h₀ := X.base) I.ok.mod.kin M.kp hall (thn (ha.run pos pins s σ H _ I h) fun us s1 ⟨vs, H1, I1, rv, q⟩ => ?_) hpl he) hdb)
  refine thn (hkw.run pos pins s1 σ H1 _ I1 q) fun ws s2 ⟨zs, H2, I2, rz, l1, l2, q2⟩ => ⟨I2.kIn, ?_⟩
  rw [hks]
  exact run_mkKS M F hr hb (hx σ) I2 rv rz l1 l2 q2⟩
@[simp] def fMakeK (c : Str) (n m : Nat) (gD : List Dv → List Dv → List Dv) (F : DFn) (fa fk : FA) : FE := fun env => bnd (fa env) fun ds => bnd (fk env) fun es S => if ds.length = n ∧ es.length = m then (match F (gD (.obj S.length :: ds) es) (S ++ [.ins c []]) with
  | some (.ok .non S') => some (.ok (.obj S.length) S')
  | some (.exc e fs S') => some (.exc e fs S')
  | _ => none) else none
theorem d_makeK {c : Str} {N : Nat} {gD : List Dv → List Dv → List Dv} {F : DFn} {e : Expr} {es : List Expr} {kws : List Keyword} {p pos : Pos} {fa fk : FA} (M : Mk X.K (cOf X.mg c) f) (hF : FnOk X.prog X.w X.K X.mg X.base (L2.CX X.prog X.w) k f fd ps (spD X.K X.mg N F)) (hr : Room (k + 1) X.A) (hm : X.mg c = some (.ref (cOf X.mg c))) (hb : KBn X.K fd ps (n + 1) ks g gV) (tk : Takes X W)
    (hgl : ∀ vs zs : List V, vs.length = n + 1 → zs.length = ks.length → (gV vs zs).length = N) (hgr : ∀ (w : Wd) (vs zs : List V) (ds es : List Dv), RpAll (gp X) w vs ds → RpAll (gp X) w zs es → RpAll (gp X) w (gV vs zs) (gD ds es))
    (ha : DA X ξ W (e :: es) fa) (hkw : DK X ξ W kws fk) (hg : Gl X c := by rfl) (hall : (backToKw pos (keywordEach kws X.env)).all (·.1.isSome) = true := by rfl) (hks : (backToKw pos (keywordEach kws X.env)).filterMap (·.1) = ks := by rfl) (hdb : (c == ("__debug__" : Str)) = false := by decide)
    (he : starEach (e :: es) X.env = (false, eval e X.env) :: starEach es X.env := by rfl) (hpl : ((backTo pos (starEach (e :: es) X.env)).any (·.1) || (backToKw pos (keywordEach kws X.env)).any (·.1.isNone)) = false := by rfl) :
    DE X ξ W (.Call (.Name c p) (e :: es) kws pos) (fMakeK c n ks.length gD F fa fk) :=
  PE.imp (pe_mkKS M hF hr hm hb (fun σ => passAt tk σ) ha hkw hg hall hks hdb he hpl) fun σ H Q ⟨w, env, S, res, eH, s, en, h, p⟩ => by
    subst eH
    refine seqR s en h p.px fun ds S0 vs w0 e0 s0 en0 r0 h0 => seqR s0 en0 h0 (p.px.mono e0 s0) fun es S1 zs w1 e1 s1 en1 rz h1 => ?_
    by_cases z : ds.length = n ∧ es.length = ks.length
    · rw [if_pos z] at h1
      have rv := r0.mono e1
      refine ⟨by rw [rv.length]; exact z.1, by rw [rz.length]; exact z.2, fun x dx hx hdx hne => ?_⟩
      have eA : Ext w1 (w1.put dx (.own x)) := .put hdx
      have sA : SOk (gp X) (w1.put dx (.own x)) S1 := s1.put hdx
      have hx2 : (w1.put dx (.own x)).H x = none := by
        show upd w1.H dx _ x = none
        rw [upd_ne (fun q => hne q.symm)]
        exact hx
      let w2 : Wd := (w1.put dx (.own x)).add x (.ins (cOf X.mg c) dx [])
      have eB : Ext (w1.put dx (.own x)) w2 := .add hx2
      have sB : SOk (gp X) w2 (S1 ++ [.ins c []]) := sA.add hx2 ⟨dx, [], upd_same, rfl, .nil⟩
      have ro : Rp (gp X) w2 (V.ref x) (.obj S1.length) := Rp.add_obj sA
      have pp := p.mono (((e0.thru e1 s0).thru eA s1).thru eB sA) sB
      cases hF2 : F (gD (.obj S1.length :: ds) es) (S1 ++ [.ins c []]) with
      | none => rw [hF2] at h1; cases h1
      | some r =>
        rw [hF2] at h1
        refine ⟨hgl _ _ (by rw [List.length_cons, rv.length, z.1]) (by rw [rz.length, z.2]), w2, S1 ++ [.ins c []], gD (.obj S1.length :: ds) es, r, rfl, sB, hgr w2 _ _ _ _ (.cons ro ((rv.mono eA).mono eB)) ((rz.mono eA).mono eB), hF2, ?_⟩
        cases r with
        | ok d S' =>
          cases d <;> first | (cases h1; done) | skip
          cases h1
          intro v w' e' s' rv
          cases rv
          cases ro with
          | obj ha2 => exact ⟨rfl, pp.ok_ e' s' (.obj (e'.as_of ha2))⟩
        | exc c2 fs2 S' =>
          cases h1
          exact fun dd fs' w' e s' hd hm hn hr => pp dd fs' w' e s' hd hm hn hr
    · rw [if_neg z] at h1; cases h1
end
end
end FC

set_option Elab.async false
set_option linter.all false
set_option maxRecDepth 100000
namespace FC
open PySem PySem.Spec L2
/-! ### what falls away: deep, at any place -/
mutual
def okO (n : Nat) : Dv → Bool
  | .non => true
  | .bl _ => true
  | .int _ => true
  | .str _ => true
  | .cls _ => true
  | .tup xs => okOs n xs
  | .lst xs => okOs n xs
  | .obj k => decide (k < n)
  | .ins _ fs => okOf n fs
  | .dic kvs => okOk n kvs
  | .dit kvs => okOt n kvs
def okOs (n : Nat) : List Dv → Bool
  | [] => true
  | d :: r => okO n d && okOs n r
def okOf (n : Nat) : List (Str × Dv) → Bool
  | [] => true
  | (_, d) :: r => okO n d && okOf n r
def okOk (n : Nat) : List (Key × Dv) → Bool
  | [] => true
  | (_, d) :: r => okO n d && okOk n r
def okOt (n : Nat) : List (List Key × Dv) → Bool
  | [] => true
  | (_, d) :: r => okO n d && okOt n r
end
theorem okOf_eq {n : Nat} : ∀ fs : List (Str × Dv), okOf n fs = okOs n (fs.map Prod.snd)
  | [] => rfl
  | (_, d) :: r => by show (okO n d && okOf n r) = (okO n d && okOs n (r.map Prod.snd)); rw [okOf_eq r]
theorem okOk_eq {n : Nat} : ∀ fs : List (Key × Dv), okOk n fs = okOs n (fs.map Prod.snd)
  | [] => rfl
  | (_, d) :: r => by show (okO n d && okOk n r) = (okO n d && okOs n (r.map Prod.snd)); rw [okOk_eq r]
theorem okOt_eq {n : Nat} : ∀ fs : List (List Key × Dv), okOt n fs = okOs n (fs.map Prod.snd)
  | [] => rfl
  | (_, d) :: r => by show (okO n d && okOt n r) = (okO n d && okOs n (r.map Prod.snd)); rw [okOt_eq r]
/-- names from n on may be forgotten -/
structure Dn (n : Nat) (w w' : Wd) : Prop where
  H : w'.H = w.H
  M : ∀ a, w'.M a → w.M a
  as : ∀ (k : Nat) (a : Addr), k < n → w.as[k]? = some a → w'.as[k]? = some a
mutual
theorem Rp.dn {G : Gp} {n : Nat} {w w' : Wd} (e : Dn n w w') : ∀ {v : V} {d : Dv}, Rp G w v d → okO n d = true → Rp G w' v d
  | _, _, .non, _ => .non
  | _, _, .bl b, _ => .bl b
  | _, _, .int i, _ => .int i
  | _, _, .str x, _ => .str x
  | _, _, .cls c, _ => .cls c
  | _, _, .tup h r, q => .tup (by
      rcases h with h | h
      · exact .inl ⟨by rw [e.H]; exact h.1, fun z => h.2 (e.M _ z)⟩
      · exact .inr h) (RpAll.dn e r q)
  | _, _, .lst h r, q => .lst (by
      rcases h with h | h
      · exact .inl ⟨by rw [e.H]; exact h.1, fun z => h.2 (e.M _ z)⟩
      · exact .inr h) (RpAll.dn e r q)
  | _, _, .obj h, q => .obj (e.as _ _ (of_decide_eq_true q) h)
  | _, _, .ins h m q r, z => .ins (by rw [e.H]; exact h) (fun z => m (e.M _ z)) q (RpAll.dn e r (by rw [← okOf_eq]; exact z))
  | _, _, .dic h m q r, z => .dic (by rw [e.H]; exact h) (fun z => m (e.M _ z)) q (RpAll.dn e r (by rw [← okOk_eq]; exact z))
  | _, _, .dit h m q r, z => .dit (by rw [e.H]; exact h) (fun z => m (e.M _ z)) q (RpAll.dn e r (by rw [← okOt_eq]; exact z))
theorem RpAll.dn {G : Gp} {n : Nat} {w w' : Wd} (e : Dn n w w') : ∀ {vs : List V} {ds : List Dv}, RpAll G w vs ds → okOs n ds = true → RpAll G w' vs ds
  | _, _, .nil, _ => .nil
  | _, _, .cons h r, q => .cons (Rp.dn e h (Bool.and_eq_true_iff.mp q).1) (RpAll.dn e r (Bool.and_eq_true_iff.mp q).2)
end
mutual
theorem Rp.okO {G : Gp} {w : Wd} : ∀ {v : V} {d : Dv}, Rp G w v d → okO w.as.length d = true
  | _, _, .non => rfl
  | _, _, .bl b => rfl
  | _, _, .int i => rfl
  | _, _, .str x => rfl
  | _, _, .cls c => rfl
  | _, _, .tup h r => RpAll.okO r
  | _, _, .lst h r => RpAll.okO r
  | _, _, .obj h => decide_eq_true (List.getElem?_eq_some_iff.mp h).1
  | _, _, .ins h m q r => (okOf_eq _).trans (RpAll.okO r)
  | _, _, .dic h m q r => (okOk_eq _).trans (RpAll.okO r)
  | _, _, .dit h m q r => (okOt_eq _).trans (RpAll.okO r)
theorem RpAll.okO {G : Gp} {w : Wd} : ∀ {vs : List V} {ds : List Dv}, RpAll G w vs ds → okOs w.as.length ds = true
  | _, _, .nil => rfl
  | _, _, .cons h r => Bool.and_eq_true_iff.mpr ⟨Rp.okO h, RpAll.okO r⟩
end
theorem MOk.dn {G : Gp} {n : Nat} {w w' : Wd} (e : Dn n w w') {a : Addr} {d : Dv} (h : MOk G w a d) (q : okO n d = true) : MOk G w' a d := by
  have hk : w'.H a = w.H a := by rw [e.H]
  cases d <;> first | exact h.elim | skip
  · obtain ⟨xs, h, r⟩ := h; exact ⟨xs, hk.trans h, r.dn e q⟩
  · obtain ⟨dx, fs', h, z, r⟩ := h; exact ⟨dx, fs', hk.trans h, z, r.dn e (by rw [← okOf_eq]; exact q)⟩
  · obtain ⟨kvs', h, z, r⟩ := h; exact ⟨kvs', hk.trans h, z, r.dn e (by rw [← okOk_eq]; exact q)⟩
  · obtain ⟨kvs', h, z, r⟩ := h; exact ⟨kvs', hk.trans h, z, r.dn e (by rw [← okOt_eq]; exact q)⟩
theorem MOk.okO {G : Gp} {w : Wd} {a : Addr} {d : Dv} (h : MOk G w a d) : okO w.as.length d = true := by
  cases d <;> first | exact h.elim | skip
  · obtain ⟨xs, h, r⟩ := h; exact r.okO
  · obtain ⟨dx, fs', h, z, r⟩ := h; exact (okOf_eq _).trans r.okO
  · obtain ⟨kvs', h, z, r⟩ := h; exact (okOk_eq _).trans r.okO
  · obtain ⟨kvs', h, z, r⟩ := h; exact (okOt_eq _).trans r.okO
/-- a value told without the names from n on -/
def fzs (g : Dv → Option Dv) : List Dv → Option (List Dv)
  | [] => some []
  | d :: r => match g d, fzs g r with
    | some d', some r' => some (d' :: r')
    | _, _ => none
def fzd (n : Nat) (S : Store) : Nat → Dv → Option Dv
  | 0, d => if okO n d = true then some d else none
  | f + 1, d => if okO n d = true then some d else match d with
    | .obj k => match S[k]? with
      | some (.lst xs) => (match fzs (fzd n S f) xs with | some ys => some (.lst ys) | none => none)
      | some (.ins c fs) => (match fzs (fzd n S f) (fs.map Prod.snd) with | some ys => some (.ins c ((fs.map Prod.fst).zip ys)) | none => none)
      | some (.dic fs) => (match fzs (fzd n S f) (fs.map Prod.snd) with | some ys => some (.dic ((fs.map Prod.fst).zip ys)) | none => none)
      | some (.dit fs) => (match fzs (fzd n S f) (fs.map Prod.snd) with | some ys => some (.dit ((fs.map Prod.fst).zip ys)) | none => none)
      | _ => none
    | .tup xs => (match fzs (fzd n S f) xs with | some ys => some (.tup ys) | none => none)
    | .lst xs => (match fzs (fzd n S f) xs with | some ys => some (.lst ys) | none => none)
    | .ins c fs => (match fzs (fzd n S f) (fs.map Prod.snd) with | some ys => some (.ins c ((fs.map Prod.fst).zip ys)) | none => none)
    | _ => none
/-- the older names' objects stand as they were, or hold no younger ones -/
def StOk (S S' : Store) : Prop := S.length ≤ S'.length ∧ ∀ i d, i < S.length → S'[i]? = some d → S[i]? = some d ∨ okO S.length d = true
abbrev Wd.cut (w : Wd) (as : List Addr) : Wd := ⟨w.H, as, w.M0⟩
section
variable {G : Gp} {w w' : Wd} {S S' : Store}
theorem cut_ok' (e : Ext w w') (s : SOk G w S) (s' : SOk G w' S') (h : StOk S S') : Ext w (w'.cut w.as) ∧ SOk G (w'.cut w.as) (S'.take S.length) ∧ Dn S.length w' (w'.cut w.as) := by
  obtain ⟨bs, hb⟩ := e.as
  have dr : Dn S.length w' (w'.cut w.as) := ⟨rfl, fun a h => by
    rcases h with h | h
    · exact .inl h
    · exact .inr (by rw [hb]; exact List.mem_append_left _ h), fun k a hk hx => by
    show w.as[k]? = some a
    rw [hb, List.getElem?_append_left (by rw [s.len]; exact hk)] at hx
    exact hx⟩
  refine ⟨⟨⟨[], by simp⟩, e.m0, fun _ _ _ h => h, fun a o h n z => e.nM a o h n (dr.M a z), e.keep⟩, ⟨s.nd, ?_, s'.dom, fun a ha => s'.dj a (by rw [hb]; exact List.mem_append_left _ ha), fun i a d h1 h2 => ?_⟩, dr⟩
  · show w.as.length = (S'.take S.length).length
    rw [List.length_take, s.len]
    have := h.1
    omega
  · have hi : i < (S'.take S.length).length := (List.getElem?_eq_some_iff.mp h2).1
    have hi2 : i < S.length := by rw [List.length_take] at hi; omega
    rw [List.getElem?_take_of_lt hi2] at h2
    have h1' : w.as[i]? = some a := h1
    have nd : okO S.length d = true := by
      rcases h.2 i d hi2 h2 with z | z
      · have := (s.cont i a d h1' z).okO
        rw [s.len] at this
        exact this
      · exact z
    refine (s'.cont i a d ?_ h2).dn dr nd
    rw [hb, List.getElem?_append_left (by rw [s.len]; exact hi2)]
    exact h1
theorem fz_new (e : Ext w w') (s : SOk G w S) (s' : SOk G w' S') {k : Nat} {a : Addr} (ha : w'.as[k]? = some a) (hk : S.length ≤ k) : ¬ (w'.cut w.as).M a := by
  obtain ⟨bs, hb⟩ := e.as
  have hkl : w.as.length ≤ k := by rw [s.len]; omega
  have hkw : k < w'.as.length := (List.getElem?_eq_some_iff.mp ha).1
  have hae : w'.as[k] = a := (List.getElem?_eq_some_iff.mp ha).2
  rintro (z | z)
  · exact s'.dj a (List.mem_of_getElem? ha) z
  · obtain ⟨j, hj, ej⟩ := List.getElem_of_mem z
    have hj' : j < w.as.length := hj
    have hj2 : j < w'.as.length := by rw [hb, List.length_append]; omega
    have e1 : w'.as[j] = w'.as[k] := by
      rw [hae, ← ej]
      simp only [hb]
      exact List.getElem_append_left hj'
    have := (List.getElem_inj s'.nd).mp e1
    omega
theorem fzs_some {g : Dv → Option Dv} : ∀ {ds ys : List Dv}, fzs g ds = some ys → ds.length = ys.length
  | [], ys, h => by cases h; rfl
  | d :: r, ys, h => by
    unfold fzs at h
    split at h
    · rename_i d' r' h1 h2
      cases h
      rw [List.length_cons, List.length_cons, fzs_some h2]
    · cases h
theorem fzs_ok {w1 : Wd} {g : Dv → Option Dv} (hg : ∀ {v : V} {d d' : Dv}, Rp G w' v d → g d = some d' → Rp G w1 v d') : ∀ {vs : List V} {ds ys : List Dv}, RpAll G w' vs ds → fzs g ds = some ys → RpAll G w1 vs ys
  | _, _, _, .nil, h => by cases h; exact .nil
  | _, _, _, .cons hv r, h => by
    unfold fzs at h
    split at h
    · rename_i d' r' h1 h2
      cases h
      exact .cons (hg hv h1) (fzs_ok hg r h2)
    · cases h
theorem zip_fst {α : Type} : ∀ {xs : List α} {ys : List Dv}, xs.length = ys.length → (xs.zip ys).map Prod.fst = xs ∧ (xs.zip ys).map Prod.snd = ys
  | [], [], _ => ⟨rfl, rfl⟩
  | x :: xs, y :: ys, h => by
    obtain ⟨h1, h2⟩ := zip_fst (xs := xs) (ys := ys) (by simpa using h)
    exact ⟨by simp [h1], by simp [h2]⟩
  | [], _ :: _, h => by simp at h
  | _ :: _, [], h => by simp at h
theorem fzd_ok (e : Ext w w') (s : SOk G w S) (s' : SOk G w' S') (h : StOk S S') : ∀ (f : Nat) {v : V} {d d' : Dv}, Rp G w' v d → fzd S.length S' f d = some d' → Rp G (w'.cut w.as) v d'
  | 0, v, d, d', r, hd => by
    unfold fzd at hd
    by_cases z : okO S.length d = true
    · rw [if_pos z] at hd; cases hd
      exact r.dn (cut_ok' e s s' h).2.2 z
    · rw [if_neg z] at hd; cases hd
  | f + 1, v, d, d', r, hd => by
    obtain ⟨_, _, dr⟩ := cut_ok' e s s' h
    unfold fzd at hd
    by_cases z : okO S.length d = true
    · rw [if_pos z] at hd; cases hd
      exact r.dn dr z
    · rw [if_neg z] at hd
      have ih := fun {v : V} {d d' : Dv} => fzd_ok e s s' h f (v := v) (d := d) (d' := d')
      cases r with
      | non => cases hd
      | bl _ => cases hd
      | int _ => cases hd
      | str _ => cases hd
      | cls _ => cases hd
      | dic _ _ _ _ => cases hd
      | dit _ _ _ _ => cases hd
      | tup hx rx =>
        dsimp only at hd
        split at hd
        · rename_i ys hy
          cases hd
          exact .tup (by
            rcases hx with hx | hx
            · exact .inl ⟨by rw [dr.H]; exact hx.1, fun z => hx.2 (dr.M _ z)⟩
            · exact .inr hx) (fzs_ok ih rx hy)
        · cases hd
      | lst hx rx =>
        dsimp only at hd
        split at hd
        · rename_i ys hy
          cases hd
          exact .lst (by
            rcases hx with hx | hx
            · exact .inl ⟨by rw [dr.H]; exact hx.1, fun z => hx.2 (dr.M _ z)⟩
            · exact .inr hx) (fzs_ok ih rx hy)
        · cases hd
      | ins h1 m q rx =>
        dsimp only at hd
        split at hd
        · rename_i ys hy
          cases hd
          have hl := fzs_some hy
          obtain ⟨z1, z2⟩ := zip_fst (xs := List.map Prod.fst _) (ys := ys) (by simpa using hl)
          exact .ins h1 (fun z => m (dr.M _ z)) (by rw [z1]; exact q) (by rw [z2]; exact fzs_ok ih rx hy)
        · cases hd
      | @obj a k ha =>
        dsimp only at hd
        have hk : S.length ≤ k := by
          unfold okO at z
          have := of_decide_eq_false (Bool.eq_false_iff.mpr z)
          omega
        have nM := fz_new e s s' ha hk
        split at hd
        · rename_i xs hS
          split at hd
          · rename_i ys hy
            cases hd
            obtain ⟨us, h1, h2⟩ := s'.cont k a _ ha hS
            exact .lst (.inl ⟨.inl h1, nM⟩) (fzs_ok ih h2 hy)
          · cases hd
        · rename_i c fs hS
          split at hd
          · rename_i ys hy
            cases hd
            obtain ⟨dx, fs', h1, q, h2⟩ := s'.cont k a _ ha hS
            have hl := fzs_some hy
            obtain ⟨z1, z2⟩ := zip_fst (xs := List.map Prod.fst fs) (ys := ys) (by simpa using hl)
            exact .ins h1 nM (by rw [z1]; exact q) (by rw [z2]; exact fzs_ok ih h2 hy)
          · cases hd
        · rename_i fs hS
          split at hd
          · rename_i ys hy
            cases hd
            obtain ⟨fs', h1, q, h2⟩ := s'.cont k a _ ha hS
            have hl := fzs_some hy
            obtain ⟨z1, z2⟩ := zip_fst (xs := List.map Prod.fst fs) (ys := ys) (by simpa using hl)
            exact .dic (.inl h1) nM (by rw [z1]; exact q) (by rw [z2]; exact fzs_ok ih h2 hy)
          · cases hd
        · rename_i fs hS
          split at hd
          · rename_i ys hy
            cases hd
            obtain ⟨fs', h1, q, h2⟩ := s'.cont k a _ ha hS
            have hl := fzs_some hy
            obtain ⟨z1, z2⟩ := zip_fst (xs := List.map Prod.fst fs) (ys := ys) (by simpa using hl)
            exact .dit (.inl h1) nM (by rw [z1]; exact q) (by rw [z2]; exact fzs_ok ih h2 hy)
          · cases hd
        · cases hd
end
/-- the fields of an error -/
def fzf (n : Nat) (S : Store) (fs : List (Str × Dv)) : Option (List (Str × Dv)) := match fzs (fzd n S 6) (fs.map Prod.snd) with
  | some ys => some ((fs.map Prod.fst).zip ys)
  | none => none
theorem fzf_ok {G : Gp} {w w' : Wd} {S S' : Store} (e : Ext w w') (s : SOk G w S) (s' : SOk G w' S') (h : StOk S S') {fs fs2 : List (Str × Dv)} {fs' : List (Str × V)} (hn : fs'.map Prod.fst = fs.map Prod.fst) (hr : RpAll G w' (fs'.map Prod.snd) (fs.map Prod.snd)) (hf : fzf S.length S' fs = some fs2) :
    fs'.map Prod.fst = fs2.map Prod.fst ∧ RpAll G (w'.cut w.as) (fs'.map Prod.snd) (fs2.map Prod.snd) := by
  unfold fzf at hf
  split at hf
  · rename_i ys hy
    cases hf
    have hl := fzs_some hy
    obtain ⟨z1, z2⟩ := zip_fst (xs := List.map Prod.fst fs) (ys := ys) (by simpa using hl)
    exact ⟨by rw [z1]; exact hn, by rw [z2]; exact fzs_ok (fzd_ok e s s' h 6) hr hy⟩
  · cases hf
open Classical in
/-- a result told without what was made on the way -/
noncomputable def gcR (S : Store) (r : Option (Rs Dv)) : Option (Rs Dv) := match r with
  | some (.ok d S') => if StOk S S' then (match fzd S.length S' 6 d with | some d' => some (.ok d' (S'.take S.length)) | none => none) else none
  | some (.exc c fs S') => if StOk S S' then (match fzf S.length S' fs with | some fs' => some (.exc c fs' (S'.take S.length)) | none => none) else none
  | none => none
noncomputable def fGc (fa : FE) : FE := fun env S => gcR S (fa env S)
noncomputable def gcD (F : DFn) : DFn := fun ds S => gcR S (F ds S)
section
variable {G : Gp} {w : Wd} {S : Store} {W : WX} {σ : L2.St}
theorem gcR_ok (s : SOk G w S) {r : Option (Rs Dv)} {res : Rs Dv} {Q : VK} (h : gcR S r = some res) (p : PR G W (Rp G) w σ res Q) : ∃ r1, r = some r1 ∧ PR G W (Rp G) w σ r1 Q := by
  unfold gcR at h
  split at h
  · rename_i d S'
    refine ⟨_, rfl, ?_⟩
    by_cases z : StOk S S'
    · rw [if_pos z] at h
      split at h
      · rename_i d' hd
        cases h
        intro v w' e s' rv
        obtain ⟨e2, s2, dr⟩ := cut_ok' e s s' z
        exact p v (w'.cut w.as) e2 s2 (fzd_ok e s s' z 6 rv hd)
      · cases h
    · rw [if_neg z] at h; cases h
  · rename_i c fs S'
    refine ⟨_, rfl, ?_⟩
    by_cases z : StOk S S'
    · rw [if_pos z] at h
      split at h
      · rename_i fs2 hd
        cases h
        intro dd fs' w' e s' hx hm hn hr
        obtain ⟨e2, s2, dr⟩ := cut_ok' e s s' z
        obtain ⟨k1, k2⟩ := fzf_ok e s s' z hn hr hd
        exact p dd fs' (w'.cut w.as) e2 s2 hx (fun q => hm (dr.M _ q)) k1 k2
      · cases h
    · rw [if_neg z] at h; cases h
  · cases h
end
section
variable {X : Cx} {ξ : Iv} {W : WX} {G : Gp}
theorem d_gc {e : Expr} {fa : FE} (h : DE X ξ W e fa) : DE X ξ W e (fGc fa) := PE.imp h fun σ H Q ⟨w, env, S, res, eH, s, en, h, p⟩ => by
  obtain ⟨r1, h1, p1⟩ := gcR_ok s h p
  exact ⟨w, env, S, r1, eH, s, en, h1, p1⟩
variable {P : Program} {w0 : World} {K : PySem.W.Frag} {mg : Str → Option Value} {base : Heap}
theorem fn_gcD {f : Addr} {fd : FuncData} {ps : List Str} {k n : Nat} {F : DFn} (h : FnOk P w0 K mg base (L2.CX P w0) k f fd ps (spD K mg n F)) : FnOk P w0 K mg base (L2.CX P w0) k f fd ps (spD K mg n (gcD F)) :=
  h.imp fun vs H Q E ⟨hl, w, S, ds, r, eH, hs, rv, hF, p⟩ => by
    obtain ⟨r1, h1, p1⟩ := gcR_ok hs hF p
    exact ⟨hl, w, S, ds, r1, eH, hs, rv, h1, p1⟩
/-! ### statements -/
def fzE (n : Nat) (S : Store) : DEnv → Option DEnv
  | [] => some []
  | none :: r => (match fzE n S r with | some r' => some (none :: r') | none => none)
  | some d :: r => (match fzd n S 6 d, fzE n S r with | some d', some r' => some (some d' :: r') | _, _ => none)
def fgt (ks : List Nat) (env : DEnv) : DEnv := match ks with
  | [] => env
  | k :: r => (fgt r env).set k none
theorem fgt_len : ∀ (ks : List Nat) (env : DEnv), (fgt ks env).length = env.length
  | [], env => rfl
  | k :: r, env => by unfold fgt; rw [List.length_set, fgt_len r env]
theorem fgt_get : ∀ {ks : List Nat} {env : DEnv} {i : Nat} {d : Dv}, (fgt ks env)[i]? = some (some d) → env[i]? = some (some d)
  | [], env, i, d, h => h
  | k :: r, env, i, d, h => by
    unfold fgt at h
    by_cases z : k = i
    · subst z
      rw [List.getElem?_set_self'] at h
      cases e : (fgt r env)[k]? with
      | none => rw [e] at h; cases h
      | some o => rw [e] at h; cases h
    · rw [List.getElem?_set_ne z] at h
      exact fgt_get h
theorem fzE_len {n : Nat} {S : Store} : ∀ {env env' : DEnv}, fzE n S env = some env' → env.length = env'.length
  | [], env', h => by cases h; rfl
  | none :: r, env', h => by
    unfold fzE at h
    split at h
    · rename_i r' hr; cases h; simp [fzE_len hr]
    · cases h
  | some d :: r, env', h => by
    unfold fzE at h
    split at h
    · rename_i d' r' h1 h2; cases h; simp [fzE_len h2]
    · cases h
theorem fzE_get {n : Nat} {S : Store} : ∀ {env env' : DEnv} {i : Nat} {d' : Dv}, fzE n S env = some env' → env'[i]? = some (some d') → ∃ d, env[i]? = some (some d) ∧ fzd n S 6 d = some d'
  | [], env', i, d, h, hi => by cases h; simp at hi
  | none :: r, env', i, d, h, hi => by
    unfold fzE at h
    split at h
    · rename_i r' hr
      cases h
      cases i with
      | zero => simp at hi
      | succ i => simpa using fzE_get hr (by simpa using hi)
    · cases h
  | some d0 :: r, env', i, d, h, hi => by
    unfold fzE at h
    split at h
    · rename_i d1 r' h1 h2
      cases h
      cases i with
      | zero =>
        simp at hi
        subst hi
        exact ⟨d0, by simp, h1⟩
      | succ i => simpa using fzE_get h2 (by simpa using hi)
    · cases h
open Classical in
noncomputable def gcS (ks : List Nat) (S : Store) (r : Option Rf) : Option Rf := match r with
  | some (.nx env' S') => if StOk S S' then (match fzE S.length S' (fgt ks env') with | some e => some (.nx e (S'.take S.length)) | none => none) else none
  | some (.bk env' S') => if StOk S S' then (match fzE S.length S' (fgt ks env') with | some e => some (.bk e (S'.take S.length)) | none => none) else none
  | some (.ct env' S') => if StOk S S' then (match fzE S.length S' (fgt ks env') with | some e => some (.ct e (S'.take S.length)) | none => none) else none
  | some (.rt d S') => if StOk S S' then (match fzd S.length S' 6 d with | some d' => some (.rt d' (S'.take S.length)) | none => none) else none
  | some (.exc c fs env' S') => if StOk S S' then (match fzf S.length S' fs, fzE S.length S' (fgt ks env') with | some fs', some e => some (.exc c fs' e (S'.take S.length)) | _, _ => none) else none
  | none => none
noncomputable def sGc (ks : List Nat) (fb : FS) : FS := fun env S => gcS ks S (fb env S)
theorem EOk.fz {w w' : Wd} {S S' : Store} {σ : L2.St} {env env' : DEnv} {ks : List Nat} (e : Ext w w') (s : SOk G w S) (s' : SOk G w' S') (z : StOk S S') (h : EOk G ξ w' σ env) (hf : fzE S.length S' (fgt ks env) = some env') (hi : ξ.P (w'.cut w.as) σ) : EOk G ξ (w'.cut w.as) σ env' := by
  refine ⟨by rw [h.len, ← fgt_len ks env, fzE_len hf], fun i d q => ?_, hi⟩
  obtain ⟨d0, h1, h2⟩ := fzE_get hf q
  obtain ⟨v, h3, h4⟩ := h.get i d0 (fgt_get h1)
  exact ⟨v, h3, fzd_ok e s s' z 6 h4 h2⟩
/-- what is known besides stays when names are forgotten -/
structure IvC (ξ : Iv) : Prop where
  cut : ∀ w w' σ, Ext w (w'.cut w.as) → Ext w w' → ξ.P w' σ → ξ.P (w'.cut w.as) σ
theorem IvC.no : IvC Iv.no := ⟨fun _ _ _ _ _ _ => True.intro⟩
theorem gcS_ok (ic : IvC ξ) {w : Wd} {S : Store} {ks : List Nat} {D : Ends} (s : SOk G w S) {r : Option Rf} {res : Rf} (h : gcS ks S r = some res) (p : PF G ξ W w res D) : ∃ r1, r = some r1 ∧ PF G ξ W w r1 D := by
  unfold gcS at h
  split at h
  · rename_i env' S'
    refine ⟨_, rfl, ?_⟩
    by_cases z : StOk S S'
    · rw [if_pos z] at h
      split at h
      · rename_i e2 hd
        cases h
        intro σ' w' e s' en
        obtain ⟨ee, s2, dr⟩ := cut_ok' e s s' z
        exact p σ' (w'.cut w.as) ee s2 (EOk.fz e s s' z en hd (ic.cut _ _ _ ee e en.inv))
      · cases h
    · rw [if_neg z] at h; cases h
  · rename_i env' S'
    refine ⟨_, rfl, ?_⟩
    by_cases z : StOk S S'
    · rw [if_pos z] at h
      split at h
      · rename_i e2 hd
        cases h
        intro σ' w' e s' en
        obtain ⟨ee, s2, dr⟩ := cut_ok' e s s' z
        exact p σ' (w'.cut w.as) ee s2 (EOk.fz e s s' z en hd (ic.cut _ _ _ ee e en.inv))
      · cases h
    · rw [if_neg z] at h; cases h
  · rename_i env' S'
    refine ⟨_, rfl, ?_⟩
    by_cases z : StOk S S'
    · rw [if_pos z] at h
      split at h
      · rename_i e2 hd
        cases h
        intro σ' w' e s' en
        obtain ⟨ee, s2, dr⟩ := cut_ok' e s s' z
        exact p σ' (w'.cut w.as) ee s2 (EOk.fz e s s' z en hd (ic.cut _ _ _ ee e en.inv))
      · cases h
    · rw [if_neg z] at h; cases h
  · rename_i d S'
    refine ⟨_, rfl, ?_⟩
    by_cases z : StOk S S'
    · rw [if_pos z] at h
      split at h
      · rename_i d' hd
        cases h
        intro v w' e s' rv
        obtain ⟨ee, s2, dr⟩ := cut_ok' e s s' z
        exact p v (w'.cut w.as) ee s2 (fzd_ok e s s' z 6 rv hd)
      · cases h
    · rw [if_neg z] at h; cases h
  · rename_i c fs env' S'
    refine ⟨_, rfl, ?_⟩
    by_cases z : StOk S S'
    · rw [if_pos z] at h
      split at h
      · rename_i fs2 e2 hd he
        cases h
        intro σ' dd fs' w' e s' en hx hm hn hr
        obtain ⟨ee, s2, dr⟩ := cut_ok' e s s' z
        obtain ⟨k1, k2⟩ := fzf_ok e s s' z hn hr hd
        exact p σ' dd fs' (w'.cut w.as) ee s2 (EOk.fz e s s' z en he (ic.cut _ _ _ ee e en.inv)) hx (fun q => hm (dr.M _ q)) k1 k2
      · cases h
    · rw [if_neg z] at h; cases h
  · cases h
theorem s_gc {st : Stmt} {f : FS} (ic : IvC ξ) (ks : List Nat) (h : DS X ξ W st f) : DS X ξ W st (sGc ks f) := PS.imp h fun D σ H ⟨w, env, S, res, eH, s, en, h, p⟩ => by
  obtain ⟨r1, h1, p1⟩ := gcS_ok ic s h p
  exact ⟨w, env, S, r1, eH, s, en, h1, p1⟩
theorem ss_gc {st : List Stmt} {f : FS} (ic : IvC ξ) (ks : List Nat) (h : DSs X ξ W st f) : DSs X ξ W st (sGc ks f) := PSs.imp h fun D σ H ⟨w, env, S, res, eH, s, en, h, p⟩ => by
  obtain ⟨r1, h1, p1⟩ := gcS_ok ic s h p
  exact ⟨w, env, S, r1, eH, s, en, h1, p1⟩
end
end FC

set_option Elab.async false
set_option linter.all false
set_option maxRecDepth 100000
namespace FC
open PySem PySem.Spec L2
open PySem.Sem (wp wp_mono wp_bind')
theorem wp_execs_append {M : Model} {Γ : _root_.PySem.Ctx} {env : PySem.Env} {l2 : List Stmt} {post : Flow → Pos → Shared → Prop} {exc : Value → Pos → Shared → Prop} : ∀ (l1 : List Stmt) (p : Pos) (s : Shared),
    wp M Γ (execs l1 env) (fun f p' s' => match f with | .next => wp M Γ (execs l2 env) post exc p' s' | f => post f p' s') exc p s → wp M Γ (execs (l1 ++ l2) env) post exc p s
  | [], p, s, h => h
  | st :: rest, p, s, h => by
    show wp M Γ (execs (st :: (rest ++ l2)) env) post exc p s
    rw [execs_cons, wp_bind'] at h ⊢
    refine wp_mono M Γ _ (fun f p' s' h' => ?_) (fun _ _ _ h' => h') _ _ h
    cases f with
    | next => exact wp_execs_append rest p' s' h'
    | ret v => exact h'
    | brk => exact h'
    | cont => exact h'
theorem pss_append {X : Cx} {l1 l2 : List Stmt} {t u : TS} (h1 : PSs X l1 t) (h2 : PSs X l2 u) : PSs X (l1 ++ l2) (tSeq t u) := by
  refine ⟨fun pins s σ H D I h => fun Γ p hΓ => wp_execs_append l1 p s ?_⟩
  refine wp_mono _ Γ _ (fun f p' s' h' => ?_) (fun _ _ _ h' => h') _ _ (h1.run pins s σ H { D with nx := u D } I h Γ p hΓ)
  cases f with
  | next =>
    obtain ⟨σ', H', I', q⟩ := h'
    exact h2.run pins s' σ' H' D I' q Γ p' hΓ
  | ret v => exact h'
  | brk => exact h'
  | cont => exact h'
section
variable {X : Cx} {ξ : Iv} {W : WX} {G : Gp}
theorem ss_app {l1 l2 : List Stmt} {f g : FS} (h1 : DSs X ξ W l1 f) (h2 : DSs X ξ W l2 g) : DSs X ξ W (l1 ++ l2) (sSeq f g) :=
  PSs.imp (pss_append h1 h2) fun D σ H ⟨w, env, S, r, eH, s, en, h, p⟩ => by
    subst eH
    unfold sSeq at h
    cases q : f env S with
    | none => rw [q] at h; cases h
    | some r1 =>
      rw [q] at h
      refine ⟨w, env, S, r1, rfl, s, en, q, ?_⟩
      cases r1 with
      | nx env1 S1 => exact fun σ1 w1 e1 s1 en1 => ⟨w1, env1, S1, r, rfl, s1, en1, h, p.mono e1⟩
      | rt d S1 => cases h; exact p
      | bk env1 S1 => cases h; exact p
      | ct env1 S1 => cases h; exact p
      | exc c fs env1 S1 => cases h; exact p
end
end FC
namespace FC
open PySem PySem.Spec L2
theorem ss_split {X : Cx} {ξ : Iv} {W : WX} {l : List Stmt} {f g : FS} (k : Nat) (h1 : DSs X ξ W (l.take k) f) (h2 : DSs X ξ W (l.drop k) g) : DSs X ξ W l (sSeq f g) := by
  have h := ss_app h1 h2
  rwa [List.take_append_drop] at h
end FC

set_option Elab.async false
set_option linter.all false
set_option maxRecDepth 100000
set_option maxHeartbeats 4000000
namespace FC
open PySem PySem.Spec L2 PyProof.Rows
open ClX (CRead CVal CMet)
/-! ### tuple * int -/
theorem tuple_mul1 (l : Addr) (items : Array Value) (n : Nat) (dd : Option Addr) (sl : Array (Option Value)) (u : Tok) :
    Meets (Builtin.«tuple.__mul__» ⟨[.ref l, .int 1 u], []⟩) (fun _ R s => s.heap.get? l = some { cls := .type "tuple", dict := dd, data := .seq items n, slots := sl } ∧
      R (.ok (.ret (Value.ref l))) s) :=
  .of_wp fun prog w A R s h => by
    obtain ⟨hp, g, d, tk, os⟩ := s
    obtain ⟨hl, h⟩ := h
    have f1 := AutoSeq1.idx_int
    wp_walk using wpAny_loadPart' hl
    exact ⟨_, rfl, h⟩
def rRep1 (K : PySem.W.Frag) : R2 := fun x y H Q => ∃ l xs, x = .ref l ∧ y = .int 1 ∧ SqT K H l xs ∧ Q (.ref l) H
section
variable {X : Cx} {ξ : Iv} {W : WX} {G : Gp}
theorem op_rep1 : OpR X (binaryOp .Mult) (rRep1 X.K) := by
  intro pins s σ H x y v u Q I rx ry h
  obtain ⟨l, xs, rfl, rfl, hT, q⟩ := h
  cases rx
  obtain ⟨t, rfl⟩ := ry
  obtain ⟨its, r, ⟨⟨cls, dd, data, sl⟩, ho, hc, n, hd⟩, hs⟩ := I.tuple hT
  simp only at hc hd
  subst hc hd
  refine wpAny_binaryOp_repeat_ref (T := "tuple") (U := "int") (by decide) ⟨_, ho, rfl⟩ (fun s' => typeIs_int s' 1 t) noFill_tuple_mul F.fills_int_mul F.slot_int_rmul repeat_tuple F.slot_int_index.lookup
    (call_meets F.slot_int_rmul (typeIs_int s 1 t) F.entry_int_rmul (F.args_int_rmul_2 _ _) (int_rmul_tuple 1 t l its.toArray n dd sl)
      ⟨ho, rfl, ⟨_, ho, rfl⟩, call_meets F.slot_tuple_mul ⟨_, ho, rfl⟩ F.entry_tuple_mul (F.args_tuple_mul_2 _ _) (tuple_mul1 l its.toArray n dd sl t) ⟨ho, ?_⟩⟩)
  exact ⟨.ref l, H, I.tok _, rfl, q⟩
/-- * of ints; of a tuple and an int from 1 on -/
def oMulT : DOp := fun x y => match x, y with
  | .int i, .int j => if CM i j then ret (.int (i * j)) else stuck
  | .tup xs, .int k => if k = 1 then ret (.tup xs) else if xs ≠ [] ∧ 2 ≤ k ∧ k ≤ 1000 ∧ xs.length ≤ 1000 then ret (.tup (List.replicate k.toNat xs).flatten) else stuck
  | _, _ => stuck
theorem RpAll.flat {w : Wd} {vs : List V} {ds : List Dv} (r : RpAll G w vs ds) : ∀ n : Nat, RpAll G w (List.replicate n vs).flatten (List.replicate n ds).flatten
  | 0 => .nil
  | n + 1 => r.append (RpAll.flat r n)
theorem od_mulT : OpD G (fun x y H Q => rI (fun i j => i.natAbs.log2 + j.natAbs.log2 < 1000000) (fun i j => .int (i * j)) x y H Q ∨ (rRep1 G.K x y H Q ∨ rRepT G.K x y H Q)) oMulT := by
  intro W w σ S x y dx dy res Q s rx ry h p
  cases rx <;> first | (cases h; done) | skip
  · cases ry <;> first | (cases h; done) | skip
    rename_i i j
    have h' : (if CM i j then ret (.int (i * j)) else stuck) S = some res := h
    by_cases z : CM i j
    · rw [if_pos z] at h'; cases h'
      exact .inl ⟨i, j, rfl, rfl, z, p.here s (.int _)⟩
    · rw [if_neg z] at h'; cases h'
  · cases ry <;> first | (cases h; done) | skip
    rename_i a xs ds ha ra k
    have h' : (if k = 1 then ret (.tup ds) else if ds ≠ [] ∧ 2 ≤ k ∧ k ≤ 1000 ∧ ds.length ≤ 1000 then ret (.tup (List.replicate k.toNat ds).flatten) else stuck) S = some res := h
    by_cases z : k = 1
    · rw [if_pos z] at h'; cases h'
      subst z
      exact .inr (.inl ⟨a, xs, rfl, rfl, ha.to, p.here s (.tup ha ra)⟩)
    · rw [if_neg z] at h'
      by_cases q : ds ≠ [] ∧ 2 ≤ k ∧ k ≤ 1000 ∧ ds.length ≤ 1000
      · rw [if_pos q] at h'; cases h'
        refine .inr (.inr ⟨a, k, xs, rfl, rfl, ha.to, fun e => q.1 ?_, q.2.1, q.2.2.1, by rw [ra.length]; exact q.2.2.2, fun l hl => p.ok_ (.put hl) (s.put hl) (Rp.new_tup s hl (ra.flat _))⟩)
        subst e
        cases ra
        rfl
      · rw [if_neg q] at h'; cases h'
theorem d_mulT {a b : Expr} {fa fb : FE} {pos : Pos} (ha : DE X ξ W a fa) (hb : DE X ξ W b fb) : DE X ξ W (.BinOp a .Mult b pos) (fOp oMulT fa fb) := d_op (OpR.or op_mulW (OpR.or op_rep1 op_repT)) od_mulT ha hb
/-! ### list + list -/
def rCatL (K : PySem.W.Frag) : R2 := fun x y H Q => ∃ l b xs zs, x = .ref l ∧ y = .ref b ∧ SqL K H l xs ∧ SqL K H b zs ∧ xs.length + zs.length ≤ sizeLine ∧ ∀ p, H p = none → Q (.ref p) (upd H p (.lst (xs ++ zs)))
theorem op_catL : OpR X (binaryOp .Add) (rCatL X.K) := by
  intro pins s σ H x y v u Q I rx ry h
  obtain ⟨l, b, xs, zs, rfl, rfl, hH, hB, hz, q⟩ := h
  cases rx
  cases ry
  obtain ⟨its, r, ⟨⟨cls, dd, data, sl⟩, n, ho, hc, _, hd⟩, _⟩ := I.list hH
  obtain ⟨its2, r2, ⟨⟨cls2, dd2, data2, sl2⟩, n2, ho2, hc2, _, hd2⟩, _⟩ := I.list hB
  simp only at hc hd hc2 hd2
  subst hc hd hc2 hd2
  have l1 := r.length
  have l2 := r2.length
  have e : its.toArray ++ its2.toArray = (its ++ its2).toArray := by simp
  refine PySem.concat_meets ⟨_, ho, rfl⟩ ⟨_, ho2, rfl⟩ PySem.noFill_list_add PySem.seq_list_add PySem.F.slot_list_add PySem.F.entry_list_add (PySem.F.args_list_add_2 _ _) (PyProof.Rows.list_addW l b its.toArray its2.toArray n n2 dd dd2 sl sl2 (by rw [List.size_toArray, List.size_toArray]; omega)) ⟨ho, ho2, ?_⟩
  rw [e]
  exact ⟨.ref _, _, I.lnew (t' := s.toks) (r.append r2) (by rw [List.length_append]; omega), rfl, q _ I.fresh⟩
/-- + of ints, tuples, lists -/
def notTup : Dv → Bool
  | .tup _ => false
  | _ => true
def oAddX (m : Bool) : DOp := fun x y S => match x with
  | .int i => (match y with | .int j => some (.ok (.int (i + j)) S) | _ => none)
  | .tup xs => (match y with | .tup ys => if xs.length + ys.length ≤ big then some (.ok (.tup (xs ++ ys)) S) else none | _ => none)
  | x => match seqOf x S, seqOf y S with
    | some xs, some ys => if notTup y = true ∧ xs.length + ys.length ≤ big then newL m (xs ++ ys) S else none
    | _, _ => none
theorem seqL_ok {w : Wd} {S : Store} {v : V} {d : Dv} {ds : List Dv} (s : SOk G w S) (r : Rp G w v d) (h : seqOf d S = some ds) (ht : ∀ xs, d ≠ .tup xs) : ∃ a xs, v = .ref a ∧ SqL G.K w.H a xs ∧ RpAll G w xs ds := by
  cases r <;> first | (cases h; done) | skip
  · exact absurd rfl (ht _)
  · cases h
    rename_i ha ra
    exact ⟨_, _, rfl, ha.to, ra⟩
  · rename_i a n ha
    dsimp only [seqOf] at h
    split at h
    · rename_i xs e
      cases h
      obtain ⟨ys, h1, h2⟩ := s.cont n a _ ha e
      exact ⟨a, ys, rfl, SqL.of h1, h2⟩
    · cases h
theorem od_addX (m : Bool) : OpD G (fun x y H Q => rAddD G.K x y H Q ∨ rCatL G.K x y H Q) (oAddX m) := by
  intro W w σ S x y dx dy res Q s rx ry h p
  have gen : (∀ xs, dx ≠ .tup xs) → (match seqOf dx S, seqOf dy S with
    | some xs, some ys => if notTup dy = true ∧ xs.length + ys.length ≤ big then newL m (xs ++ ys) S else none
    | _, _ => none) = some res → rCatL G.K x y w.H Q := fun hn h => by
    split at h
    · rename_i xs ys e1 e2
      by_cases z : notTup dy = true ∧ xs.length + ys.length ≤ big
      · rw [if_pos z] at h
        obtain ⟨a, us, rfl, ha, ra⟩ := seqL_ok s rx e1 hn
        obtain ⟨b, ws, rfl, hb, rb⟩ := seqL_ok s ry e2 (fun q e => by rw [e] at z; exact absurd z.1 (by simp [notTup]))
        exact ⟨a, b, us, ws, rfl, rfl, ha, hb, by rw [ra.length, rb.length]; exact big_le z.2, new_lst s (ra.append rb) h p⟩
      · rw [if_neg z] at h; cases h
    · cases h
  cases dx with
  | int i =>
    cases dy <;> first | (cases h; done) | skip
    exact .inl (od_add W w σ S x y _ _ res Q s rx ry h p)
  | tup xs =>
    cases dy <;> first | (cases h; done) | skip
    rename_i ys
    exact .inl (od_add W w σ S x y _ _ res Q s rx ry (by
      show lim _ (ret _) S = some res
      unfold lim
      have h' : (if xs.length + ys.length ≤ big then some (Rs.ok (Dv.tup (xs ++ ys)) S) else none) = some res := h
      by_cases z : xs.length + ys.length ≤ big
      · rw [if_pos z] at h' ⊢; exact h'
      · rw [if_neg z] at h'; cases h') p)
  | non => exact .inr (gen (fun _ e => nomatch e) h)
  | bl _ => exact .inr (gen (fun _ e => nomatch e) h)
  | str _ => exact .inr (gen (fun _ e => nomatch e) h)
  | lst _ => exact .inr (gen (fun _ e => nomatch e) h)
  | obj _ => exact .inr (gen (fun _ e => nomatch e) h)
  | ins _ _ => exact .inr (gen (fun _ e => nomatch e) h)
  | dic _ => exact .inr (gen (fun _ e => nomatch e) h)
  | dit _ => exact .inr (gen (fun _ e => nomatch e) h)
  | cls _ => exact .inr (gen (fun _ e => nomatch e) h)
theorem d_addX (m : Bool) {a b : Expr} {fa fb : FE} {pos : Pos} (ha : DE X ξ W a fa) (hb : DE X ξ W b fb) : DE X ξ W (.BinOp a .Add b pos) (fOp (oAddX m) fa fb) := d_op (OpR.or op_addD op_catL) (od_addX m) ha hb
/-! ### or, and by truth -/
@[simp] def fOrT (fa fb : FE) : FE := fun env => bnd (fa env) fun x => bnd (tru x) fun c => if c = true then ret x else fb env
@[simp] def fAndT (fa fb : FE) : FE := fun env => bnd (fa env) fun x => bnd (tru x) fun c => if c = true then fb env else ret x
theorem tru_bnd {w : Wd} {S : Store} {x : V} {d : Dv} {α : Type} {k : Bool → Mm α} {r : Rs α} (s : SOk G w S) (rx : Rp G w x d) (h : bnd (tru d) k S = some r) : ∃ b, TruV G.K x w.H b ∧ k b S = some r := by
  unfold bnd at h
  cases q : tru d S with
  | none => rw [q] at h; cases h
  | some r1 =>
    rw [q] at h
    cases r1 with
    | exc c fs S' => exact (tru_exc q).elim
    | ok b S' =>
      obtain ⟨rfl, t⟩ := tru_ok' s rx q
      exact ⟨b, t, h⟩
theorem d_orT {a b : Expr} {rest : List Expr} {fa fb : FE} {pos : Pos} (ha : DE X ξ W a fa) (hb : DE X ξ W (.BoolOp .Or (b :: rest) pos) fb) : DE X ξ W (.BoolOp .Or (a :: b :: rest) pos) (fOrT fa fb) :=
  PE.imp (pe_orT ha hb) fun σ H Q ⟨w, env, S, res, eH, s, en, h, p⟩ => by
    subst eH
    refine seqR s en h p.px fun x S1 v w1 e1 s1 en1 r1 h1 => ?_
    obtain ⟨k, t, h2⟩ := tru_bnd s1 r1 h1
    refine ⟨k, t, ?_⟩
    cases k with
    | false => exact ⟨w1, env, S1, res, rfl, s1, en1, h2, p.mono e1 s1⟩
    | true => cases h2; exact p.ok_ e1 s1 r1
theorem d_andT {a b : Expr} {rest : List Expr} {fa fb : FE} {pos : Pos} (ha : DE X ξ W a fa) (hb : DE X ξ W (.BoolOp .And (b :: rest) pos) fb) : DE X ξ W (.BoolOp .And (a :: b :: rest) pos) (fAndT fa fb) :=
  PE.imp (pe_andT ha hb) fun σ H Q ⟨w, env, S, res, eH, s, en, h, p⟩ => by
    subst eH
    refine seqR s en h p.px fun x S1 v w1 e1 s1 en1 r1 h1 => ?_
    obtain ⟨k, t, h2⟩ := tru_bnd s1 r1 h1
    refine ⟨k, t, ?_⟩
    cases k with
    | true => exact ⟨w1, env, S1, res, rfl, s1, en1, h2, p.mono e1 s1⟩
    | false => cases h2; exact p.ok_ e1 s1 r1
/-! ### calls as code -/
section
variable {CX : CXT} {k n : Nat} {f g C q : Addr} {fd : FuncData} {ps ks : List Str} {sp : Sp} {dvs : List V} {ds : List Value} {E : L2.St → XK} {mc : Value} {m : Str}
theorem run_fnC {pins : List (Addr × Obj)} {σ : L2.St} {H : Hp} {s : Shared} {Q : VK} {us : List Value} {vs : List V} (F : FnOk X.prog X.w X.K X.mg X.base CX k f fd ps sp) (hr : Room k X.A) (hb : Binds X.K fd ps ds) (hd : Vals dvs ds) (hx : PassesAt CX X σ (E σ))
    (I : Inv X pins σ H s) (r : Vals vs us) (h : sp (vs ++ dvs) H Q (E σ)) :
    codeAny (model X.prog X.w) X.A (.call (.ref f) ⟨us, []⟩) (fun r s' => match r with | .ok (.ret v) => EP X pins σ Q v s' | .ok _ => False | .error e => X.xe e s') s := by
  have r2 : Vals (vs ++ dvs) (us ++ ds) := r.append hd
  have hl : (us ++ ds).length = ps.length := by rw [← r2.length]; exact F.len _ _ _ _ h
  refine codeAny_mono (F.run X.A X.stack s H ⟨us, []⟩ (us ++ ds) (vs ++ dvs) Q (E σ) hr I.env0 (hb s us I.kIn hl) r2 h) fun r s' hq => ?_
  cases r with
  | error e => exact hx pins H s e s' I hq
  | ok fl =>
    cases fl with
    | ret u => exact I.after hq
    | next => exact False.elim hq
    | brk => exact False.elim hq
    | cont => exact False.elim hq
/-- C.m(e, ..), m a classmethod -/
def tCMethS (C : Addr) (sp : Sp) (dvs : List V) (E : L2.St → XK) (ta : TE) (t : TA) : TE := fun σ H Q => ta σ H fun x H1 => x = .ref C ∧ t σ H1 fun vs H2 => sp (.ref C :: vs ++ dvs) H2 Q (E σ)
theorem pe_cmethS {o e : Expr} {es : List Expr} {apos pos : Pos} {ta : TE} {t : TA} {pl : Sem Bool} {p : Addr} (he : PE X o ta) (r : CRead X.K C mc) (c : CMet X.K C mc m p g) (F : FnOk X.prog X.w X.K X.mg X.base CX k g fd ps sp) (hr : Room k X.A) (hb : Binds X.K fd ps ds) (hd : Vals dvs ds) (hx : ∀ σ, PassesAt CX X σ (E σ)) (ha : PA X (e :: es) t)
    (hst : starEach (e :: es) X.env = (false, eval e X.env) :: starEach es X.env := by rfl) (hpl : (backTo pos (starEach es X.env)).any (·.1) = false := by rfl)
    (ht : eval (.Call (.Attribute o m apos) (e :: es) [] pos) X.env = (do
      let ov ← eval o X.env
      standAt apos.atName
      let (f, first) ← holding [ov] (getMethod ov m pl)
      callWith pos f first (backTo pos (starEach (e :: es) X.env)) (backToKw pos (keywordEach [] X.env))) := by rfl) :
    PE X (.Call (.Attribute o m apos) (e :: es) [] pos) (tCMethS C sp dvs E ta t) := by
  refine ⟨fun pins s σ H Q I h => ?_⟩
  refine PySem.W.methodCall_KW (pl := pl) (thn (he.run pins s σ H _ I h) fun u s1 ⟨x, H1, I1, rx, ex, q⟩ => ?_) ht
  subst ex
  obtain rfl : u = Value.ref C := rx
  refine ClX.getmethcm_ok I1 r c fun s2 I2 => ?_
  refine ClX.callwith_cm I2 (ClX.base_none I1 (Nat.le_refl _)) c.fi (thn (ha.run pos _ s2 σ H1 _ I2 q) fun us s3 ⟨vs, H2, I3, rv, q2⟩ => ⟨⟨ClX.pin_at I3, I3.kIn⟩, ?_⟩) hst hpl
  have z := wpAny_call (PySem.W.method_call (ClX.pin_at I3) (run_fnC (us := .ref C :: us) (vs := .ref C :: vs) F hr hb hd (hx σ) I3 (.cons rfl rv) q2))
  exact thn z fun _ _ y => ClX.unpinE y
/-- C.m(e, ..), m a staticmethod -/
structure SMet (K : PySem.W.Frag) (C : Addr) (mc : Value) (m : Str) (p g : Addr) : Prop where
  at_ : PySem.W.findCls K (.ref C) mc m = some (.get (.builtin "staticmethod.__get__") (.ref p) .none (.ref C))
  rc : ∃ rest, PySem.W.recIn K p "staticmethod" = some (.ref g :: rest)
  kp : PySem.W.keepIn K (.ref g) = true
def tSMethS (C : Addr) (sp : Sp) (dvs : List V) (E : L2.St → XK) (ta : TE) (t : TA) : TE := fun σ H Q => ta σ H fun x H1 => x = .ref C ∧ t σ H1 fun vs H2 => sp (vs ++ dvs) H2 Q (E σ)
theorem getsm_ok {pins : List (Addr × Obj)} {σ : L2.St} {H : Hp} {s : Shared} {p : Addr} {pl : Sem Bool} {A : Around} {E : Value → Shared → Prop} {Q : Value × List Value → Shared → Prop} (I : Inv X pins σ H s) (r : CRead X.K C mc) (k : SMet X.K C mc m p g)
    (h : ∀ s', Inv X pins σ H s' → Q (.ref g, []) s') : wpAny (model X.prog X.w) A (getMethod (.ref C) m pl) Q E s := by
  obtain ⟨rest, hp⟩ := k.rc
  refine PySem.W.method_cls I.kIn r.ga (PySem.W.cls_bind I.kIn r.rd k.at_ ?_)
  refine wpAny_call (PySem.W.sm_get (s := { s with toks := s.toks + 1 }) I.kIn hp (PySem.W.handed_on rfl ?_))
  exact h _ (I.tok _)
theorem pe_smethS {o e : Expr} {es : List Expr} {apos pos : Pos} {ta : TE} {t : TA} {pl : Sem Bool} {p : Addr} (he : PE X o ta) (r : CRead X.K C mc) (c : SMet X.K C mc m p g) (F : FnOk X.prog X.w X.K X.mg X.base CX k g fd ps sp) (hr : Room k X.A) (hb : Binds X.K fd ps ds) (hd : Vals dvs ds) (hx : ∀ σ, PassesAt CX X σ (E σ)) (ha : PA X (e :: es) t)
    (hst : starEach (e :: es) X.env = (false, eval e X.env) :: starEach es X.env := by rfl) (hpl : (backTo pos (starEach es X.env)).any (·.1) = false := by rfl)
    (ht : eval (.Call (.Attribute o m apos) (e :: es) [] pos) X.env = (do
      let ov ← eval o X.env
      standAt apos.atName
      let (f, first) ← holding [ov] (getMethod ov m pl)
      callWith pos f first (backTo pos (starEach (e :: es) X.env)) (backToKw pos (keywordEach [] X.env))) := by rfl) :
    PE X (.Call (.Attribute o m apos) (e :: es) [] pos) (tSMethS C sp dvs E ta t) := by
  refine ⟨fun pins s σ H Q I h => ?_⟩
  refine PySem.W.methodCall_KW (pl := pl) (thn (he.run pins s σ H _ I h) fun u s1 ⟨x, H1, I1, rx, ex, q⟩ => ?_) ht
  subst ex
  obtain rfl : u = Value.ref C := rx
  refine getsm_ok I1 r c fun s2 I2 => ?_
  refine PySem.W.callWith_K (h₀ := X.base) I.ok.mod.kin c.kp (thn (ha.run pos _ s2 σ H1 _ I2 q) fun us s3 ⟨vs, H2, I3, rv, q2⟩ => ⟨I3.kIn, ?_⟩) hst hpl
  exact wpAny_call (run_fnC F hr hb hd (hx σ) I3 rv q2)
end
end
end FC

set_option Elab.async false
set_option linter.all false
set_option maxRecDepth 100000
set_option maxHeartbeats 4000000
namespace FC
open PySem PySem.Spec L2 PyProof.Rows
open ClX (CRead CVal CMet)
section
variable {X : Cx} {ξ : Iv} {W : WX} {G : Gp} {k n N : Nat} {f g C q : Addr} {fd : FuncData} {ps ks : List Str} {dvs : List V} {dds : List Dv} {ds : List Value} {mc : Value} {m c : Str} {F : DFn} {p0 : Addr}
/-- the default values, as data -/
def DfOk (G : Gp) (dvs : List V) (dds : List Dv) : Prop := ∀ w, RpAll G w dvs dds
theorem DfOk.nil : DfOk G [] [] := fun _ => .nil
theorem cx_no {P : Program} {w : World} {outer : List Env} {H : Hp} {s : Shared} {e : Value} {s' : Shared} (h : L2.CX P w outer H s (fun _ _ _ => False) e s') : False := by
  obtain ⟨_, _, _, _, _, _, _, _, _, _, _, _, z⟩ := h
  exact z
/-- a call's answer handed on -/
theorem sp_call {w : Wd} {σ : L2.St} {S : Store} {vs : List V} {es : List Dv} {res : Rs Dv} {Q : VK} (hl : vs.length = N) (s : SOk (gp X) w S) (r : RpAll (gp X) w vs es) (h : F es S = some res) (p : PR (gp X) W (Rp (gp X)) w σ res Q) : spD X.K X.mg N F vs w.H Q (WE W σ) := by
  refine ⟨hl, w, S, es, res, rfl, s, r, h, ?_⟩
  cases res with
  | ok d S' => exact p
  | exc c2 fs2 S' => exact fun dd fs3 w' e s' hd hm hn hr => p dd fs3 w' e s' hd hm hn hr
/-! ### C.m(..) -/
@[simp] def fCm (c : Str) (n : Nat) (dds : List Dv) (F : DFn) (fa : FA) : FE := fun env => bnd (fa env) fun ds => if ds.length = n then F (.cls c :: ds ++ dds) else stuck
theorem d_cmeth {pl : Sem Bool} {e : Expr} {es : List Expr} {px apos pos : Pos} {fa : FA} (hmg : X.mg c = some (.ref (cOf X.mg c))) (r : CRead X.K (cOf X.mg c) mc) (cm : CMet X.K (cOf X.mg c) mc m p0 g) (hF : FnOk X.prog X.w X.K X.mg X.base (L2.CX X.prog X.w) k g fd ps (spD X.K X.mg N F)) (hr : Room k X.A) (hb : Binds X.K fd ps ds) (hd : Vals dvs ds) (hdd : DfOk (gp X) dvs dds) (hN : N = n + 1 + dvs.length) (tk : Takes X W)
    (ha : DA X ξ W (e :: es) fa) (hg : Gl X c := by rfl) (hdb : (c == ("__debug__" : Str)) = false := by decide) (hst : starEach (e :: es) X.env = (false, eval e X.env) :: starEach es X.env := by rfl) (hpl : (backTo pos (starEach es X.env)).any (·.1) = false := by rfl)
    (ht : eval (.Call (.Attribute (.Name c px) m apos) (e :: es) [] pos) X.env = (do
      let ov ← eval (.Name c px) X.env
      standAt apos.atName
      let (f, first) ← holding [ov] (getMethod ov m pl)
      callWith pos f first (backTo pos (starEach (e :: es) X.env)) (backToKw pos (keywordEach [] X.env))) := by rfl) :
    DE X ξ W (.Call (.Attribute (.Name c px) m apos) (e :: es) [] pos) (fCm c n dds F fa) :=
  PE.imp (pe_cmethS (pe_glob (v := .ref (cOf X.mg c)) hg hmg rfl hdb) r cm hF hr hb hd (fun σ => passAt tk σ) ha hst hpl ht) fun σ H Q ⟨w, env, S, res, eH, s, en, h, p⟩ => by
    subst eH
    refine ⟨rfl, seqR s en h p.px fun es S1 vs w1 e1 s1 en1 r1 h1 => ?_⟩
    by_cases y : es.length = n
    · rw [if_pos y] at h1
      exact sp_call (by rw [List.length_append, List.length_cons, r1.length, y, hN]) s1 ((RpAll.cons (.cls c) r1).append (hdd w1)) h1 (p.mono e1 s1)
    · rw [if_neg y] at h1; cases h1
@[simp] def fSm (n : Nat) (dds : List Dv) (F : DFn) (fa : FA) : FE := fun env => bnd (fa env) fun ds => if ds.length = n then F (ds ++ dds) else stuck
theorem d_smeth {pl : Sem Bool} {e : Expr} {es : List Expr} {px apos pos : Pos} {fa : FA} (hmg : X.mg c = some (.ref (cOf X.mg c))) (r : CRead X.K (cOf X.mg c) mc) (cm : SMet X.K (cOf X.mg c) mc m p0 g) (hF : FnOk X.prog X.w X.K X.mg X.base (L2.CX X.prog X.w) k g fd ps (spD X.K X.mg N F)) (hr : Room k X.A) (hb : Binds X.K fd ps ds) (hd : Vals dvs ds) (hdd : DfOk (gp X) dvs dds) (hN : N = n + dvs.length) (tk : Takes X W)
    (ha : DA X ξ W (e :: es) fa) (hg : Gl X c := by rfl) (hdb : (c == ("__debug__" : Str)) = false := by decide) (hst : starEach (e :: es) X.env = (false, eval e X.env) :: starEach es X.env := by rfl) (hpl : (backTo pos (starEach es X.env)).any (·.1) = false := by rfl)
    (ht : eval (.Call (.Attribute (.Name c px) m apos) (e :: es) [] pos) X.env = (do
      let ov ← eval (.Name c px) X.env
      standAt apos.atName
      let (f, first) ← holding [ov] (getMethod ov m pl)
      callWith pos f first (backTo pos (starEach (e :: es) X.env)) (backToKw pos (keywordEach [] X.env))) := by rfl) :
    DE X ξ W (.Call (.Attribute (.Name c px) m apos) (e :: es) [] pos) (fSm n dds F fa) :=
  PE.imp (pe_smethS (pe_glob (v := .ref (cOf X.mg c)) hg hmg rfl hdb) r cm hF hr hb hd (fun σ => passAt tk σ) ha hst hpl ht) fun σ H Q ⟨w, env, S, res, eH, s, en, h, p⟩ => by
    subst eH
    refine ⟨rfl, seqR s en h p.px fun es S1 vs w1 e1 s1 en1 r1 h1 => ?_⟩
    by_cases y : es.length = n
    · rw [if_pos y] at h1
      exact sp_call (by rw [List.length_append, r1.length, y, hN]) s1 (r1.append (hdd w1)) h1 (p.mono e1 s1)
    · rw [if_neg y] at h1; cases h1
/-! ### C(..) with default values -/
section
variable {CX : CXT} {sp : Sp} {E : L2.St → XK}
def tMkD (C : Addr) (sp : Sp) (dvs : List V) (E : L2.St → XK) (t : TA) : TE := fun σ H Q => t σ H fun vs H1 =>
  ∀ x dx, H1 x = none → H1 dx = none → dx ≠ x → sp (V.ref x :: (vs ++ dvs)) (upd (upd H1 dx (.own x)) x (.ins C dx [])) (fun v H2 => v = V.non ∧ Q (V.ref x) H2) (E σ)
theorem run_mkD {pins : List (Addr × Obj)} {σ : L2.St} {H : Hp} {s : Shared} {Q : VK} {us : List Value} {vs : List V} (M : Mk X.K C f) (F : FnOk X.prog X.w X.K X.mg X.base CX k f fd ps sp) (hr : Room (k + 1) X.A) (hb : Binds X.K fd ps ds) (hd : Vals dvs ds)
    (hx : PassesAt CX X σ (E σ)) (I : Inv X pins σ H s) (rv : Vals vs us)
    (h : ∀ x dx, H x = none → H dx = none → dx ≠ x → sp (V.ref x :: (vs ++ dvs)) (upd (upd H dx (.own x)) x (.ins C dx [])) (fun v H2 => v = V.non ∧ Q (V.ref x) H2) (E σ)) :
    wpAny (model X.prog X.w) X.A (call (Value.ref C) us) (EP X pins σ Q) X.xe s := by
  let z := s.heap.objs.size
  have wish := h (z + 1) z (I.hok.fresh (Nat.le_succ z)) (I.hok.fresh (Nat.le_refl z)) (Nat.ne_of_lt (Nat.lt_succ_self z))
  have J := Inv.made (C := C) I
  have rall : Vals (V.ref (z + 1) :: (vs ++ dvs)) (Value.ref (z + 1) :: (us ++ ds)) := .cons rfl (rv.append hd)
  have len : (Value.ref (z + 1) :: us ++ ds).length = ps.length := by
    show (Value.ref (z + 1) :: (us ++ ds)).length = _
    rw [← rall.length]
    exact F.len _ _ _ _ wish
  have binds := hb _ (Value.ref (z + 1) :: us) J.kIn len
  refine wpAny_call (make_map (f := f) I.kIn M.makes M.init (beq_iff_eq.mp M.fn) (codeAny_mono (F.run _ X.stack _ _ ⟨Value.ref (z + 1) :: us, []⟩ (Value.ref (z + 1) :: (us ++ ds)) _ _ (E σ) (hr.make C us []) (J.env0.make C us []) binds rall wish) fun r s' out => ?_))
  cases r with
  | error e => exact hx pins _ _ e s' J out
  | ok fl =>
    cases fl with
    | ret u =>
      obtain ⟨v, H', I3, ru, e, q⟩ := J.after out
      subst e
      exact ⟨ru, V.ref (z + 1), H', I3, rfl, q⟩
    | next => cases out
    | brk => cases out
    | cont => cases out
/-- the callee by any expression: a class's name, a slot that holds the class -/
theorem pe_mkD {fe e : Expr} {es : List Expr} {pos : Pos} {t : TA} {tf : TE} (hf : PE X fe tf) (M : Mk X.K C f) (F : FnOk X.prog X.w X.K X.mg X.base CX k f fd ps sp) (hr : Room (k + 1) X.A) (hb : Binds X.K fd ps ds) (hd : Vals dvs ds) (hx : ∀ σ, PassesAt CX X σ (E σ))
    (ha : PA X (e :: es) t) (ht : eval (.Call fe (e :: es) [] pos) X.env = (do callWith pos (← eval fe X.env) [] (backTo pos (starEach (e :: es) X.env)) (backToKw pos (keywordEach [] X.env))) := by rfl)
    (he : starEach (e :: es) X.env = (false, eval e X.env) :: starEach es X.env := by rfl) (hpl : (backTo pos (starEach es X.env)).any (·.1) = false := by rfl) :
    PE X (.Call fe (e :: es) [] pos) (fun σ H Q => tf σ H fun y H1 => y = .ref C ∧ tMkD C sp dvs E t σ H1 Q) := ⟨fun pins s σ H Q I h => by
  refine Call_ (thn (hf.run pins s σ H _ I h) fun u s1 ⟨y, H1, I1, ry, ey, q⟩ => ?_) ht
  subst ey
  obtain rfl : u = Value.ref C := ry
  exact PySem.W.callWith_K (h₀ := X.base) I.ok.mod.kin M.kp (thn (ha.run pos pins s1 σ H1 _ I1 q) fun us s2 ⟨vs, H2, I2, rv, q2⟩ => ⟨I2.kIn, run_mkD M F hr hb hd (hx σ) I2 rv q2⟩) he hpl⟩
theorem pe_mkKL {fe e : Expr} {es : List Expr} {kws : List Keyword} {pos : Pos} {t tk : TA} {tf : TE} {gg : List Value → List Value → List Value} {gV : List V → List V → List V} (hf : PE X fe tf) (M : Mk X.K C f) (F : FnOk X.prog X.w X.K X.mg X.base CX k f fd ps sp) (hr : Room (k + 1) X.A) (hb : KBn X.K fd ps (n + 1) ks gg gV) (hx : ∀ σ, PassesAt CX X σ (E σ))
    (ha : PA X (e :: es) t) (hkw : PK X kws tk) (hall : (backToKw pos (keywordEach kws X.env)).all (·.1.isSome) = true := by rfl) (hks : (backToKw pos (keywordEach kws X.env)).filterMap (·.1) = ks := by rfl)
    (ht : eval (.Call fe (e :: es) kws pos) X.env = (do callWith pos (← eval fe X.env) [] (backTo pos (starEach (e :: es) X.env)) (backToKw pos (keywordEach kws X.env))) := by rfl)
    (he : starEach (e :: es) X.env = (false, eval e X.env) :: starEach es X.env := by rfl) (hpl : ((backTo pos (starEach (e :: es) X.env)).any (·.1) || (backToKw pos (keywordEach kws X.env)).any (·.1.isNone)) = false := by rfl) :
    PE X (.Call fe (e :: es) kws pos) (fun σ H Q => tf σ H fun y H1 => y = .ref C ∧ tMkKS C n ks.length sp gV E t tk σ H1 Q) := ⟨fun pins s σ H Q I h => by
  rw [ht]
  refine wpAny_bind (thn (hf.run pins s σ H _ I h) fun u s0 ⟨y, H0, I0, ry, ey, q0⟩ => ?_)
  subst ey
  obtain rfl : u = Value.ref C := ry
  refine PySem.W.callWith_KW (h₀ := X.base) I.ok.mod.kin M.kp hall (thn (ha.run pos pins s0 σ H0 _ I0 q0) fun us s1 ⟨vs, H1, I1, rv, q⟩ => ?_) hpl he
  refine thn (hkw.run pos pins s1 σ H1 _ I1 q) fun ws s2 ⟨zs, H2, I2, rz, l1, l2, q2⟩ => ⟨I2.kIn, ?_⟩
  rw [hks]
  exact run_mkKS M F hr hb (hx σ) I2 rv rz l1 l2 q2⟩
end
/-- what a new instance leads to -/
def mkR (F : DFn) (c : Str) (g : Dv → List Dv) (S : Store) : Option (Rs Dv) := match F (g (.obj S.length)) (S ++ [.ins c []]) with
  | some (.ok .non S') => some (.ok (.obj S.length) S')
  | some (.exc e fs S') => some (.exc e fs S')
  | _ => none
theorem mk_sp {w : Wd} {σ : L2.St} {S : Store} {vs : V → List V} {es : Dv → List Dv} {res : Rs Dv} {Q : VK} (s : SOk (gp X) w S) (hl : ∀ x, (vs x).length = N) (hv : ∀ w' x d, Ext w w' → Rp (gp X) w' x d → RpAll (gp X) w' (vs x) (es d)) (h : mkR F c es S = some res) (p : PR (gp X) W (Rp (gp X)) w σ res Q) :
    ∀ x dx, w.H x = none → w.H dx = none → dx ≠ x → spD X.K X.mg N F (vs (V.ref x)) (upd (upd w.H dx (.own x)) x (.ins (cOf X.mg c) dx [])) (fun v H2 => v = V.non ∧ Q (V.ref x) H2) (WE W σ) := fun x dx hx hdx hne => by
  have eA : Ext w (w.put dx (.own x)) := .put hdx
  have sA : SOk (gp X) (w.put dx (.own x)) S := s.put hdx
  have hx2 : (w.put dx (.own x)).H x = none := by
    show upd w.H dx _ x = none
    rw [upd_ne (fun q => hne q.symm)]
    exact hx
  let w2 : Wd := (w.put dx (.own x)).add x (.ins (cOf X.mg c) dx [])
  have eB : Ext (w.put dx (.own x)) w2 := .add hx2
  have sB : SOk (gp X) w2 (S ++ [.ins c []]) := sA.add hx2 ⟨dx, [], upd_same, rfl, .nil⟩
  have ro : Rp (gp X) w2 (V.ref x) (.obj S.length) := Rp.add_obj sA
  have e12 := eA.thru eB sA
  have pp := p.mono e12 sB
  unfold mkR at h
  cases hF2 : F (es (.obj S.length)) (S ++ [.ins c []]) with
  | none => rw [hF2] at h; cases h
  | some r =>
    rw [hF2] at h
    refine ⟨hl _, w2, S ++ [.ins c []], es (.obj S.length), r, rfl, sB, hv w2 _ _ e12 ro, hF2, ?_⟩
    cases r with
    | ok d S' =>
      cases d <;> first | (cases h; done) | skip
      cases h
      intro v w' e' s' rv
      cases rv
      cases ro with
      | obj ha2 => exact ⟨rfl, pp.ok_ e' s' (.obj (e'.as_of ha2))⟩
    | exc c2 fs2 S' =>
      cases h
      exact fun dd fs' w' e s' hd hm hn hr => pp dd fs' w' e s' hd hm hn hr
/-- is it the class c? -/
def isCls (c : Str) : Dv → Bool
  | .cls c' => decide (c' = c)
  | _ => false
@[simp] def fMk (c : Str) (n : Nat) (dds : List Dv) (F : DFn) (fa : FA) : FE := fun env => bnd (fa env) fun ds S => if ds.length = n then mkR F c (fun o => o :: (ds ++ dds)) S else none
theorem mkD_body {fa : FA} (hdd : DfOk (gp X) dvs dds) (hN : N = n + 1 + dvs.length) : ∀ σ H Q, tD (gp X) ξ W (fMk c n dds F fa) σ H Q → tMkD (cOf X.mg c) (spD X.K X.mg N F) dvs (WE W) (tDA (gp X) ξ W fa) σ H Q := fun σ H Q ⟨w, env, S, res, eH, s, en, h, p⟩ => by
  subst eH
  refine seqR s en h p.px fun es S1 vs w1 e1 s1 en1 r1 h1 => ?_
  by_cases y : es.length = n
  · rw [if_pos y] at h1
    exact mk_sp (vs := fun x => x :: (vs ++ dvs)) (es := fun o => o :: (es ++ dds)) s1 (fun x => by rw [List.length_cons, List.length_append, r1.length, y, hN]; omega) (fun w' x d e r => .cons r ((r1.mono e).append (hdd w'))) h1 (p.mono e1 s1)
  · rw [if_neg y] at h1; cases h1
theorem d_mk {e : Expr} {es : List Expr} {px pos : Pos} {fa : FA} (hmg : X.mg c = some (.ref (cOf X.mg c))) (M : Mk X.K (cOf X.mg c) f) (hF : FnOk X.prog X.w X.K X.mg X.base (L2.CX X.prog X.w) k f fd ps (spD X.K X.mg N F)) (hr : Room (k + 1) X.A) (hb : Binds X.K fd ps ds) (hd : Vals dvs ds) (hdd : DfOk (gp X) dvs dds) (hN : N = n + 1 + dvs.length) (tk : Takes X W)
    (ha : DA X ξ W (e :: es) fa) (hg : Gl X c := by rfl) (hdb : (c == ("__debug__" : Str)) = false := by decide) (ht : eval (.Call (.Name c px) (e :: es) [] pos) X.env = (do callWith pos (← eval (.Name c px) X.env) [] (backTo pos (starEach (e :: es) X.env)) (backToKw pos (keywordEach [] X.env))) := by rfl)
    (he : starEach (e :: es) X.env = (false, eval e X.env) :: starEach es X.env := by rfl) (hpl : (backTo pos (starEach es X.env)).any (·.1) = false := by rfl) :
    DE X ξ W (.Call (.Name c px) (e :: es) [] pos) (fMk c n dds F fa) :=
  PE.imp (pe_mkD (pe_glob (v := .ref (cOf X.mg c)) hg hmg rfl hdb) M hF hr hb hd (fun σ => passAt tk σ) ha ht he hpl) fun σ H Q h => ⟨rfl, mkD_body hdd hN σ H Q h⟩
/-- cls(..) -/
@[simp] def fMkL (i : Nat) (c : Str) (n : Nat) (dds : List Dv) (F : DFn) (fa : FA) : FE := fun env => bnd (fVar i env) fun x => if isCls c x = true then fMk c n dds F fa env else stuck
theorem isCls_ok {w : Wd} {v : V} {d : Dv} (r : Rp G w v d) (h : isCls c d = true) : v = .ref (G.cA c) := by
  cases r <;> first | (cases h; done) | skip
  rename_i c'
  have : c' = c := of_decide_eq_true h
  subst this
  rfl
theorem d_mkL {i : Nat} {e : Expr} {es : List Expr} {fe : Expr} {pos : Pos} {fa : FA} (hv : DE X ξ W fe (fVar i)) (M : Mk X.K (cOf X.mg c) f) (hF : FnOk X.prog X.w X.K X.mg X.base (L2.CX X.prog X.w) k f fd ps (spD X.K X.mg N F)) (hr : Room (k + 1) X.A) (hb : Binds X.K fd ps ds) (hd : Vals dvs ds) (hdd : DfOk (gp X) dvs dds) (hN : N = n + 1 + dvs.length) (tk : Takes X W)
    (ha : DA X ξ W (e :: es) fa) (ht : eval (.Call fe (e :: es) [] pos) X.env = (do callWith pos (← eval fe X.env) [] (backTo pos (starEach (e :: es) X.env)) (backToKw pos (keywordEach [] X.env))) := by rfl)
    (he : starEach (e :: es) X.env = (false, eval e X.env) :: starEach es X.env := by rfl) (hpl : (backTo pos (starEach es X.env)).any (·.1) = false := by rfl) :
    DE X ξ W (.Call fe (e :: es) [] pos) (fMkL i c n dds F fa) :=
  PE.imp (pe_mkD hv M hF hr hb hd (fun σ => passAt tk σ) ha ht he hpl) fun σ H Q ⟨w, env, S, res, eH, s, en, h, p⟩ => by
    subst eH
    refine seqR s en h p.px fun x S1 v w1 e1 s1 en1 r1 h1 => ?_
    by_cases z : isCls c x = true
    · rw [if_pos z] at h1
      exact ⟨isCls_ok r1 z, mkD_body hdd hN σ w1.H Q ⟨w1, env, S1, res, rfl, s1, en1, h1, p.mono e1 s1⟩⟩
    · rw [if_neg z] at h1; cases h1
@[simp] def fMkK (c : Str) (n m : Nat) (gD : List Dv → List Dv → List Dv) (F : DFn) (fa fk : FA) : FE := fun env => bnd (fa env) fun ds => bnd (fk env) fun es S => if ds.length = n ∧ es.length = m then mkR F c (fun o => gD (o :: ds) es) S else none
theorem mkK_body {gV : List V → List V → List V} {gD : List Dv → List Dv → List Dv} {fa fk : FA} {mm : Nat} (hgl : ∀ vs zs : List V, vs.length = n + 1 → zs.length = mm → (gV vs zs).length = N) (hgr : ∀ (w : Wd) (vs zs : List V) (ds es : List Dv), RpAll (gp X) w vs ds → RpAll (gp X) w zs es → RpAll (gp X) w (gV vs zs) (gD ds es)) :
    ∀ σ H Q, tD (gp X) ξ W (fMkK c n mm gD F fa fk) σ H Q → tMkKS (cOf X.mg c) n mm (spD X.K X.mg N F) gV (WE W) (tDA (gp X) ξ W fa) (tDA (gp X) ξ W fk) σ H Q := fun σ H Q ⟨w, env, S, res, eH, s, en, h, p⟩ => by
  subst eH
  refine seqR s en h p.px fun ds S0 vs w0 e0 s0 en0 r0 h0 => seqR s0 en0 h0 (p.px.mono e0 s0) fun es S1 zs w1 e1 s1 en1 rz h1 => ?_
  by_cases z : ds.length = n ∧ es.length = mm
  · rw [if_pos z] at h1
    have rv := r0.mono e1
    refine ⟨by rw [rv.length]; exact z.1, by rw [rz.length]; exact z.2, ?_⟩
    exact mk_sp (vs := fun x => gV (x :: vs) zs) (es := fun o => gD (o :: ds) es) s1 (fun x => hgl _ _ (by rw [List.length_cons, rv.length, z.1]) (by rw [rz.length, z.2])) (fun w' x d e r => hgr w' _ _ _ _ (.cons r (rv.mono e)) (rz.mono e)) h1 (p.mono (e0.thru e1 s0) s1)
  · rw [if_neg z] at h1; cases h1
section
variable {gg : List Value → List Value → List Value} {gV : List V → List V → List V} {gD : List Dv → List Dv → List Dv}
theorem d_mkK {e : Expr} {es : List Expr} {kws : List Keyword} {px pos : Pos} {fa fk : FA} (hmg : X.mg c = some (.ref (cOf X.mg c))) (M : Mk X.K (cOf X.mg c) f) (hF : FnOk X.prog X.w X.K X.mg X.base (L2.CX X.prog X.w) k f fd ps (spD X.K X.mg N F)) (hr : Room (k + 1) X.A) (hb : KBn X.K fd ps (n + 1) ks gg gV) (tk : Takes X W)
    (hgl : ∀ vs zs : List V, vs.length = n + 1 → zs.length = ks.length → (gV vs zs).length = N) (hgr : ∀ (w : Wd) (vs zs : List V) (ds es : List Dv), RpAll (gp X) w vs ds → RpAll (gp X) w zs es → RpAll (gp X) w (gV vs zs) (gD ds es))
    (ha : DA X ξ W (e :: es) fa) (hkw : DK X ξ W kws fk) (hg : Gl X c := by rfl) (hdb : (c == ("__debug__" : Str)) = false := by decide) (hall : (backToKw pos (keywordEach kws X.env)).all (·.1.isSome) = true := by rfl) (hks : (backToKw pos (keywordEach kws X.env)).filterMap (·.1) = ks := by rfl)
    (ht : eval (.Call (.Name c px) (e :: es) kws pos) X.env = (do callWith pos (← eval (.Name c px) X.env) [] (backTo pos (starEach (e :: es) X.env)) (backToKw pos (keywordEach kws X.env))) := by rfl)
    (he : starEach (e :: es) X.env = (false, eval e X.env) :: starEach es X.env := by rfl) (hpl : ((backTo pos (starEach (e :: es) X.env)).any (·.1) || (backToKw pos (keywordEach kws X.env)).any (·.1.isNone)) = false := by rfl) :
    DE X ξ W (.Call (.Name c px) (e :: es) kws pos) (fMkK c n ks.length gD F fa fk) :=
  PE.imp (pe_mkKL (pe_glob (v := .ref (cOf X.mg c)) hg hmg rfl hdb) M hF hr hb (fun σ => passAt tk σ) ha hkw hall hks ht he hpl) fun σ H Q h => ⟨rfl, mkK_body hgl hgr σ H Q h⟩
@[simp] def fMkKL (i : Nat) (c : Str) (n m : Nat) (gD : List Dv → List Dv → List Dv) (F : DFn) (fa fk : FA) : FE := fun env => bnd (fVar i env) fun x => if isCls c x = true then fMkK c n m gD F fa fk env else stuck
theorem d_mkKL {i : Nat} {fe e : Expr} {es : List Expr} {kws : List Keyword} {pos : Pos} {fa fk : FA} (hv : DE X ξ W fe (fVar i)) (M : Mk X.K (cOf X.mg c) f) (hF : FnOk X.prog X.w X.K X.mg X.base (L2.CX X.prog X.w) k f fd ps (spD X.K X.mg N F)) (hr : Room (k + 1) X.A) (hb : KBn X.K fd ps (n + 1) ks gg gV) (tk : Takes X W)
    (hgl : ∀ vs zs : List V, vs.length = n + 1 → zs.length = ks.length → (gV vs zs).length = N) (hgr : ∀ (w : Wd) (vs zs : List V) (ds es : List Dv), RpAll (gp X) w vs ds → RpAll (gp X) w zs es → RpAll (gp X) w (gV vs zs) (gD ds es))
    (ha : DA X ξ W (e :: es) fa) (hkw : DK X ξ W kws fk) (hall : (backToKw pos (keywordEach kws X.env)).all (·.1.isSome) = true := by rfl) (hks : (backToKw pos (keywordEach kws X.env)).filterMap (·.1) = ks := by rfl)
    (ht : eval (.Call fe (e :: es) kws pos) X.env = (do callWith pos (← eval fe X.env) [] (backTo pos (starEach (e :: es) X.env)) (backToKw pos (keywordEach kws X.env))) := by rfl)
    (he : starEach (e :: es) X.env = (false, eval e X.env) :: starEach es X.env := by rfl) (hpl : ((backTo pos (starEach (e :: es) X.env)).any (·.1) || (backToKw pos (keywordEach kws X.env)).any (·.1.isNone)) = false := by rfl) :
    DE X ξ W (.Call fe (e :: es) kws pos) (fMkKL i c n ks.length gD F fa fk) :=
  PE.imp (pe_mkKL hv M hF hr hb (fun σ => passAt tk σ) ha hkw hall hks ht he hpl) fun σ H Q ⟨w, env, S, res, eH, s, en, h, p⟩ => by
    subst eH
    refine seqR s en h p.px fun x S1 v w1 e1 s1 en1 r1 h1 => ?_
    by_cases z : isCls c x = true
    · rw [if_pos z] at h1
      exact ⟨isCls_ok r1 z, mkK_body hgl hgr σ w1.H Q ⟨w1, env, S1, res, rfl, s1, en1, h1, p.mono e1 s1⟩⟩
    · rw [if_neg z] at h1; cases h1
end
end
end FC

set_option Elab.async false
set_option linter.all false
set_option maxRecDepth 100000
set_option maxHeartbeats 4000000
namespace FC
open PySem PySem.Spec L2 PyProof.Rows
open ClX (CRead CVal CMet)
section
variable {X : Cx} {ξ : Iv} {W : WX} {G : Gp} {k n N : Nat} {f g C q : Addr} {fd : FuncData} {ps ks : List Str} {dvs : List V} {dds : List Dv} {ds : List Value} {mc : Value} {m c : Str} {F : DFn} {p0 : Addr}
/-! ### properties -/
@[simp] def fProp (c : Str) (F : DFn) (fo : FE) : FE := fun env => bnd (fo env) fun o S => match insOf o S with
  | some (c', _) => if c' = c then (match F [o] S with
    | some (.ok d S') => some (.ok d S')
    | _ => none) else none
  | none => none
theorem d_prop {f : Str} {e : Expr} {fo : FE} {pos : Pos} {pa : Addr} (ho : DE X ξ W e fo) (hC : Cls X.K (cOf X.mg c)) (hp : PropOf X.K (cOf X.mg c) f pa g) (hF : FnOk X.prog X.w X.K X.mg X.base (L2.CX X.prog X.w) k g fd ps (spD X.K X.mg 1 F)) (hr : Room (k + 1) X.A) (hb : Binds X.K fd ps [])
    (hab : attributeBase e f X.env (eval e X.env) = eval e X.env := by rfl) : DE X ξ W (.Attribute e f pos) (fProp c F fo) :=
  PE.imp (pe_prop (E := fun _ _ _ => False) ho hC hp hF hr hb .nil (fun _ _ _ _ _ _ _ h => (cx_no h).elim) hab) fun σ H Q ⟨w, env, S, res, eH, s, en, h, p⟩ => by
    subst eH
    refine seqR s en h p.px fun o S1 v w1 e1 s1 en1 r1 h1 => ?_
    cases hi : insOf o S1 with
    | none => rw [hi] at h1; cases h1
    | some q =>
      obtain ⟨c', fs⟩ := q
      rw [hi] at h1
      by_cases z : c' = c
      · subst z
        simp only [if_pos] at h1
        obtain ⟨a, dx, fs', rfl, hH, hn, hr2⟩ := insOf_ok s1 r1 hi
        cases hF2 : F [o] S1 with
        | none => rw [hF2] at h1; cases h1
        | some r =>
          rw [hF2] at h1
          cases r with
          | exc _ _ _ => cases h1
          | ok d S' =>
            cases h1
            exact ⟨a, dx, fs', rfl, hH, rfl, w1, S1, [o], _, rfl, s1, .cons r1 .nil, hF2, fun u w' e' s' ru => p u w' (e1.trans e') s' ru⟩
      · simp only [if_neg z] at h1; cases h1
/-! ### == by the class's own -/
def rOwn (K : PySem.W.Frag) (mg : Str → Option Value) (C : Addr) (F : DFn) : R2 := fun x y H Q => ∃ a b dx dy fs gs, x = .ref a ∧ y = .ref b ∧ H a = some (.ins C dx fs) ∧ H b = some (.ins C dy gs) ∧
  spD K mg 2 F [.ref a, .ref b] H (fun v H' => ∃ t, v = .bl t ∧ Q v H') (fun _ _ _ => False)
theorem op_own (hF : FnOk X.prog X.w X.K X.mg X.base (L2.CX X.prog X.w) n f fd ps (spD X.K X.mg 2 F)) (hr : Room n X.A) (hs : PySem.W.findIn X.K (.ref C) "__eq__" = some (some (.ref f))) (hf : PySem.W.isFn X.K (.ref f) = true) (hb : Binds X.K fd ps []) : OpR X (compareOp .Eq) (rOwn X.K X.mg C F) := by
  intro pins s σ H x y v u Q I rx ry h
  obtain ⟨a, b, dx, dy, fs, gs, rfl, rfl, ha, hb', hsp⟩ := h
  cases rx
  cases ry
  show wpAny (model X.prog X.w) X.A (richCompare .Eq (.ref a) (.ref b)) (EP X pins σ Q) X.xe s
  obtain ⟨mA, J, _⟩ := ins_get I.hok ha
  obtain ⟨mB, J', _⟩ := ins_get I.hok hb'
  obtain ⟨od, J, _⟩ := J.look
  obtain ⟨od', J', _⟩ := J'.look
  obtain ⟨m, hFr⟩ := I.fr
  refine PySem.W.cmp_K (op := .Eq) (tb := .ref C) hr.units0 hFr I.ok.mod.kin J J'.type (by simp [PySem.W.notFirst]) hs hf ?_
  have hl := hF.len _ _ _ _ hsp
  have r2 : Vals [V.ref a, V.ref b] [Value.ref a, Value.ref b] := .cons rfl (.cons rfl .nil)
  refine wpAny_call (codeAny_mono (hF.run X.A X.stack s H ⟨[.ref a, .ref b], []⟩ [.ref a, .ref b] [.ref a, .ref b] _ (fun _ _ _ => False) hr I.env0 (by
    have := hb s [.ref a, .ref b] I.kIn (by simpa using hl)
    simpa using this) r2 hsp) fun r s' hq => ?_)
  cases r with
  | error e => exact (cx_no hq).elim
  | ok fl =>
    cases fl with
    | ret w =>
      obtain ⟨z, H', I', rz, t, ez, q⟩ := I.after hq
      subst ez
      cases rz
      exact ⟨.bl t, H', I', rfl, q⟩
    | next => exact False.elim hq
    | brk => exact False.elim hq
    | cont => exact False.elim hq
def oOwn (c : Str) (F : DFn) : DOp := fun x y S => match insOf x S, insOf y S with
  | some (c1, _), some (c2, _) => if c1 = c ∧ c2 = c then (match F [x, y] S with
    | some (.ok (.bl t) S') => some (.ok (.bl t) S')
    | _ => none) else none
  | _, _ => none
theorem od_own : OpD (gp X) (rOwn X.K X.mg (cOf X.mg c) F) (oOwn c F) := by
  intro W w σ S x y dx dy res Q s rx ry h p
  unfold oOwn at h
  split at h
  · rename_i c1 f1 c2 f2 e1 e2
    by_cases z : c1 = c ∧ c2 = c
    · rw [if_pos z] at h
      obtain ⟨z1, z2⟩ := z
      subst z1
      subst z2
      obtain ⟨a, dx1, fs', rfl, hH, _, _⟩ := insOf_ok s rx e1
      obtain ⟨b, dx2, gs', rfl, hH2, _, _⟩ := insOf_ok s ry e2
      split at h
      · rename_i t S' hF2
        cases h
        refine ⟨a, b, _, _, _, _, rfl, rfl, hH, hH2, rfl, w, S, [dx, dy], _, rfl, s, .cons rx (.cons ry .nil), hF2, fun u w' e' s' ru => ?_⟩
        cases ru
        exact ⟨t, rfl, p.ok_ e' s' (.bl t)⟩
      · cases h
    · rw [if_neg z] at h; cases h
  · cases h
/-! ### isinstance of instances -/
structure InsC' (K : PySem.W.Frag) (C : Addr) : Prop where
  cl : Cls K C
  ha : PySem.W.findIn K (.ref C) "__class__" = some (some (.builtin "object.__class__"))
  hn : PySem.W.specialIn K (.builtin "object.__class__") "__get__" = some (some (.builtin "getset_descriptor.__get__"))
  ht : PySem.W.takesIn K (.builtin "object.__class__") = some true
  hm : PySem.W.mroIn K C (.type "object") = some true
/-- isinstance(e, D), e an instance -/
@[simp] def fIsc (l : List (Str × Bool)) (fa : FE) : FE := fun env => bnd (fa env) fun x S => match insOf x S with
  | some (c', _) => (match l.lookup c' with
    | some b => some (.ok (.bl b) S)
    | none => none)
  | none => none
theorem d_isc {l : List (Str × Bool)} {e : Expr} {fa : FE} {cx : Str} {Cx' : Addr} {p p2 pos : Pos} (hl : ∀ c' b, l.lookup c' = some b → InsC' X.K (cOf X.mg c') ∧ PySem.W.kitOne X.K (.ref (cOf X.mg c')) (.ref Cx') = some b) (ha : DE X ξ W e fa) (hm : X.mg "isinstance" = none) (hv : bootBuiltins "isinstance" = some (.builtin "isinstance")) (hmb : X.mg cx = some (.ref Cx'))
    (hg : Gl X "isinstance" := by rfl) (hgb : Gl X cx := by rfl) (hdb : (cx == ("__debug__" : Str)) = false := by decide)
    (he : starEach [e, .Name cx p2] X.env = (false, eval e X.env) :: starEach [.Name cx p2] X.env := by rfl) (he2 : starEach [.Name cx p2] X.env = (false, eval (.Name cx p2) X.env) :: starEach [] X.env := by rfl) (hpl : (backTo pos (starEach [.Name cx p2] X.env)).any (·.1) = false := by rfl) :
    DE X ξ W (.Call (.Name "isinstance" p) [e, .Name cx p2] [] pos) (fIsc l fa) :=
  PE.imp (pe_callB call_isi hg hm hv (pa_cons ha (pa_cons (pe_glob (v := .ref Cx') hgb hmb rfl hdb) pa_nil he2) he) (by decide) (by decide) he hpl) fun σ H Q ⟨w, env, S, r, eH, s, en, h, q⟩ => by
    subst eH
    refine seqR s en h q.px fun x S1 v w1 e1 s1 en1 r1 h1 => ?_
    cases hi : insOf x S1 with
    | none => rw [hi] at h1; cases h1
    | some z =>
      obtain ⟨c', fs⟩ := z
      rw [hi] at h1
      cases hb : l.lookup c' with
      | none => simp only [hb] at h1; cases h1
      | some b =>
        simp only [hb] at h1
        cases h1
        obtain ⟨ic, hk⟩ := hl c' b hb
        obtain ⟨a, dx, fs', rfl, hH, hn, hr⟩ := insOf_ok s1 r1 hi
        exact ⟨.ref a, .ref Cx', .ref (cOf X.mg c'), .ref Cx', b, rfl, .own Cx', .base (.ins hH ic.cl ic.ha ic.hn ic.ht ic.hm), hk, q.ok_ e1 s1 (.bl b)⟩
/-! ### an instance called -/
section
variable {CX : CXT} {sp : Sp} {E : L2.St → XK}
def tCallOS (C : Addr) (sp : Sp) (dvs : List V) (E : L2.St → XK) (tf : TE) (t : TA) : TE := fun σ H Q => tf σ H fun y H1 => ∃ a, y = V.ref a ∧ t σ H1 fun vs H2 => (∃ dx fs, H2 a = some (.ins C dx fs)) ∧ sp (V.ref a :: vs ++ dvs) H2 Q (E σ)
theorem pe_callOS {fe e : Expr} {es : List Expr} {pos : Pos} {tf : TE} {t : TA} (hf : PE X fe tf) (c : StX.CallO X.K C g) (F : FnOk X.prog X.w X.K X.mg X.base CX k g fd ps sp) (hr : Room k X.A) (hb : Binds X.K fd ps ds) (hd : Vals dvs ds) (hx : ∀ σ, PassesAt CX X σ (E σ)) (ha : PA X (e :: es) t)
    (ht : eval (.Call fe (e :: es) [] pos) X.env = (do callWith pos (← eval fe X.env) [] (backTo pos (starEach (e :: es) X.env)) (backToKw pos (keywordEach [] X.env))) := by rfl)
    (he : starEach (e :: es) X.env = (false, eval e X.env) :: starEach es X.env := by rfl) (hpl : (backTo pos (starEach es X.env)).any (·.1) = false := by rfl) : PE X (.Call fe (e :: es) [] pos) (tCallOS C sp dvs E tf t) := by
  refine ⟨fun pins s σ H Q I h => ?_⟩
  refine Call_ (thn (hf.run pins s σ H _ I h) fun u s1 ⟨y, H1, I1, ry, a, ey, q⟩ => ?_) ht
  subst ey
  obtain rfl : u = Value.ref a := ry
  refine StX.callO_with (thn (ha.run pos pins s1 σ H1 _ I1 q) fun us s2 ⟨vs, H2, I2, r, hi, q2⟩ => ?_) he hpl
  obtain ⟨ox, od, J, hdp⟩ := StX.insC_at (C := C) I2 (.inr hi)
  exact ⟨⟨C, ox, od, J, hdp⟩, wpAny_call (PySem.W.kco_code I2.kIn J hdp c.at_ c.fn c.fi (run_fnC (us := .ref a :: us) (vs := .ref a :: vs) F hr hb hd (hx σ) I2 (.cons rfl r) q2))⟩
end
@[simp] def fCo (c : Str) (n : Nat) (F : DFn) (fo : FE) (fa : FA) : FE := fun env => bnd (fo env) fun o S => match insOf o S with
  | some _ => bnd (fa env) (fun ds S => match insOf o S with
    | some (c', _) => if c' = c ∧ ds.length = n then F (o :: ds) S else none
    | none => none) S
  | none => none
theorem d_callO {fe e : Expr} {es : List Expr} {pos : Pos} {fo : FE} {fa : FA} (co : StX.CallO X.K (cOf X.mg c) g) (hF : FnOk X.prog X.w X.K X.mg X.base (L2.CX X.prog X.w) k g fd ps (spD X.K X.mg (n + 1) F)) (hr : Room k X.A) (hb : Binds X.K fd ps []) (tk : Takes X W) (ho : DE X ξ W fe fo) (ha : DA X ξ W (e :: es) fa)
    (ht : eval (.Call fe (e :: es) [] pos) X.env = (do callWith pos (← eval fe X.env) [] (backTo pos (starEach (e :: es) X.env)) (backToKw pos (keywordEach [] X.env))) := by rfl)
    (he : starEach (e :: es) X.env = (false, eval e X.env) :: starEach es X.env := by rfl) (hpl : (backTo pos (starEach es X.env)).any (·.1) = false := by rfl) : DE X ξ W (.Call fe (e :: es) [] pos) (fCo c n F fo fa) :=
  PE.imp (pe_callOS ho co hF hr hb .nil (fun σ => passAt tk σ) ha ht he hpl) fun σ H Q ⟨w, env, S, res, eH, s, en, h, p⟩ => by
    subst eH
    refine seqR s en h p.px fun o S1 v w1 e1 s1 en1 r1 h1 => ?_
    cases hi : insOf o S1 with
    | none => rw [hi] at h1; cases h1
    | some z =>
      obtain ⟨c', fs⟩ := z
      rw [hi] at h1
      obtain ⟨a, dx, fs', rfl, hH, hn, hr1⟩ := insOf_ok s1 r1 hi
      refine ⟨a, rfl, seqR s1 en1 h1 (p.px.mono e1 s1) fun ds S2 vs w2 e2 s2 en2 r2 h2 => ?_⟩
      cases hi2 : insOf o S2 with
      | none => rw [hi2] at h2; cases h2
      | some z2 =>
        obtain ⟨c2, fs2⟩ := z2
        rw [hi2] at h2
        by_cases y : c2 = c ∧ ds.length = n
        · simp only [if_pos y] at h2
          obtain ⟨y1, y2⟩ := y
          subst y1
          obtain ⟨a2, dx2, fs2', ea, hH2, _, _⟩ := insOf_ok s2 (r1.mono e2) hi2
          cases ea
          refine ⟨⟨dx2, fs2', hH2⟩, ?_⟩
          rw [List.append_nil]
          exact sp_call (by rw [List.length_cons, r2.length, y2]) s2 (.cons (r1.mono e2) r2) h2 (p.mono (e1.trans e2) s2)
        · simp only [if_neg y] at h2; cases h2
end
end FC

set_option Elab.async false
set_option linter.all false
set_option maxRecDepth 100000
namespace FC
open PySem PySem.Spec L2
/-! ### a def whose answer is a new object that is changed later -/
theorem fzd_gen {G : Gp} {w' w1 : Wd} {S' S2 : Store} {n : Nat} (s' : SOk G w' S') (dr : Dn n w' w1) (hS : ∀ (k : Nat) (a : Addr) (d : Dv), n ≤ k → w'.as[k]? = some a → S2[k]? = some d → d = .non ∨ (S'[k]? = some d ∧ ¬ w1.M a)) : ∀ (f : Nat) {v : V} {d d' : Dv}, Rp G w' v d → fzd n S2 f d = some d' → Rp G w1 v d'
  | 0, v, d, d', r, hd => by
    unfold fzd at hd
    by_cases z : okO n d = true
    · rw [if_pos z] at hd; cases hd
      exact r.dn dr z
    · rw [if_neg z] at hd; cases hd
  | f + 1, v, d, d', r, hd => by
    unfold fzd at hd
    by_cases z : okO n d = true
    · rw [if_pos z] at hd; cases hd
      exact r.dn dr z
    · rw [if_neg z] at hd
      have ih := fun {v : V} {d d' : Dv} => fzd_gen s' dr hS f (v := v) (d := d) (d' := d')
      cases r with
      | non => cases hd
      | bl _ => cases hd
      | int _ => cases hd
      | str _ => cases hd
      | cls _ => cases hd
      | dic _ _ _ _ => cases hd
      | dit _ _ _ _ => cases hd
      | tup hx rx =>
        dsimp only at hd
        split at hd
        · rename_i ys hy
          cases hd
          exact .tup (by
            rcases hx with hx | hx
            · exact .inl ⟨by rw [dr.H]; exact hx.1, fun z => hx.2 (dr.M _ z)⟩
            · exact .inr hx) (fzs_ok ih rx hy)
        · cases hd
      | lst hx rx =>
        dsimp only at hd
        split at hd
        · rename_i ys hy
          cases hd
          exact .lst (by
            rcases hx with hx | hx
            · exact .inl ⟨by rw [dr.H]; exact hx.1, fun z => hx.2 (dr.M _ z)⟩
            · exact .inr hx) (fzs_ok ih rx hy)
        · cases hd
      | ins h1 m q rx =>
        dsimp only at hd
        split at hd
        · rename_i ys hy
          cases hd
          have hl := fzs_some hy
          obtain ⟨z1, z2⟩ := zip_fst (xs := List.map Prod.fst _) (ys := ys) (by simpa using hl)
          exact .ins (by rw [dr.H]; exact h1) (fun z => m (dr.M _ z)) (by rw [z1]; exact q) (by rw [z2]; exact fzs_ok ih rx hy)
        · cases hd
      | @obj a k ha =>
        dsimp only at hd
        have hk : n ≤ k := by
          unfold okO at z
          have := of_decide_eq_false (Bool.eq_false_iff.mpr z)
          omega
        split at hd
        · rename_i xs hS2
          obtain hq | ⟨hq, nM⟩ := hS k a _ hk ha hS2
          · cases hq
          split at hd
          · rename_i ys hy
            cases hd
            obtain ⟨us, h1, h2⟩ := s'.cont k a _ ha hq
            exact .lst (.inl ⟨.inl (by rw [dr.H]; exact h1), nM⟩) (fzs_ok ih h2 hy)
          · cases hd
        · rename_i c fs hS2
          obtain hq | ⟨hq, nM⟩ := hS k a _ hk ha hS2
          · cases hq
          split at hd
          · rename_i ys hy
            cases hd
            obtain ⟨dx, fs', h1, q, h2⟩ := s'.cont k a _ ha hq
            have hl := fzs_some hy
            obtain ⟨z1, z2⟩ := zip_fst (xs := List.map Prod.fst fs) (ys := ys) (by simpa using hl)
            exact .ins (by rw [dr.H]; exact h1) nM (by rw [z1]; exact q) (by rw [z2]; exact fzs_ok ih h2 hy)
          · cases hd
        · rename_i fs hS2
          obtain hq | ⟨hq, nM⟩ := hS k a _ hk ha hS2
          · cases hq
          split at hd
          · rename_i ys hy
            cases hd
            obtain ⟨fs', h1, q, h2⟩ := s'.cont k a _ ha hq
            have hl := fzs_some hy
            obtain ⟨z1, z2⟩ := zip_fst (xs := List.map Prod.fst fs) (ys := ys) (by simpa using hl)
            exact .dic (by rw [dr.H]; exact .inl h1) nM (by rw [z1]; exact q) (by rw [z2]; exact fzs_ok ih h2 hy)
          · cases hd
        · rename_i fs hS2
          obtain hq | ⟨hq, nM⟩ := hS k a _ hk ha hS2
          · cases hq
          split at hd
          · rename_i ys hy
            cases hd
            obtain ⟨fs', h1, q, h2⟩ := s'.cont k a _ ha hq
            have hl := fzs_some hy
            obtain ⟨z1, z2⟩ := zip_fst (xs := List.map Prod.fst fs) (ys := ys) (by simpa using hl)
            exact .dit (by rw [dr.H]; exact .inl h1) nM (by rw [z1]; exact q) (by rw [z2]; exact fzs_ok ih h2 hy)
          · cases hd
        · cases hd
/-- an object's own content, told without the names from n on -/
def fzo (n : Nat) (S : Store) : Dv → Option Dv
  | .lst xs => (match fzs (fzd n S 6) xs with | some ys => some (.lst ys) | none => none)
  | .ins c fs => (match fzs (fzd n S 6) (fs.map Prod.snd) with | some ys => some (.ins c ((fs.map Prod.fst).zip ys)) | none => none)
  | .dic fs => (match fzs (fzd n S 6) (fs.map Prod.snd) with | some ys => some (.dic ((fs.map Prod.fst).zip ys)) | none => none)
  | .dit fs => (match fzs (fzd n S 6) (fs.map Prod.snd) with | some ys => some (.dit ((fs.map Prod.fst).zip ys)) | none => none)
  | _ => none
open Classical in
/-- a def's answer: an object that it made, by the first free name -/
noncomputable def gcMR (S : Store) (r : Option (Rs Dv)) : Option (Rs Dv) := match r with
  | some (.ok (.obj k) S') => if StOk S S' ∧ S.length ≤ k then (match S'[k]? with
    | some d => (match fzo S.length (S'.set k .non) d with | some d' => some (.ok (.obj S.length) (S'.take S.length ++ [d'])) | none => none)
    | none => none) else none
  | some (.exc c fs S') => gcR S (some (.exc c fs S'))
  | _ => none
noncomputable def gcM (F : DFn) : DFn := fun ds S => gcMR S (F ds S)
noncomputable def fGcM (fa : FE) : FE := fun env S => gcMR S (fa env S)
section
variable {G : Gp} {w w' : Wd} {S S' : Store}
theorem cutM (e : Ext w w') (s : SOk G w S) (s' : SOk G w' S') (h : StOk S S') {k : Nat} {a : Addr} (ha : w'.as[k]? = some a) (hk : S.length ≤ k) {d d' : Dv} (hd : S'[k]? = some d) (hf : fzo S.length (S'.set k .non) d = some d') :
    Ext w (w'.cut (w.as ++ [a])) ∧ SOk G (w'.cut (w.as ++ [a])) (S'.take S.length ++ [d']) ∧ (w'.cut (w.as ++ [a])).as[S.length]? = some a := by
  obtain ⟨bs, hb⟩ := e.as
  have nM0 := fz_new e s s' ha hk
  have haw : a ∉ w.as := fun z => nM0 (.inr z)
  have haM0 : a ∉ w'.M0 := fun z => nM0 (.inl z)
  have ham : a ∈ w'.as := List.mem_of_getElem? ha
  have dr : Dn S.length w' (w'.cut (w.as ++ [a])) := ⟨rfl, fun b h => by
    rcases h with h | h
    · exact .inl h
    · rcases List.mem_append.mp h with h | h
      · exact .inr (by rw [hb]; exact List.mem_append_left _ h)
      · rw [show b = a by simpa using h]; exact .inr ham, fun j b hj hx => by
    show (w.as ++ [a])[j]? = some b
    rw [hb, List.getElem?_append_left (by rw [s.len]; exact hj)] at hx
    rw [List.getElem?_append_left (by rw [s.len]; exact hj)]
    exact hx⟩
  have hS : ∀ (j : Nat) (b : Addr) (x : Dv), S.length ≤ j → w'.as[j]? = some b → (S'.set k .non)[j]? = some x → x = .non ∨ (S'[j]? = some x ∧ ¬ (w'.cut (w.as ++ [a])).M b) := fun j b x hj hx h2 => by
    by_cases z : k = j
    · subst z
      left
      rw [List.getElem?_set_self'] at h2
      cases q : S'[k]? with
      | none => rw [q] at h2; cases h2
      | some y => rw [q] at h2; cases h2; rfl
    · right
      rw [List.getElem?_set_ne z] at h2
      refine ⟨h2, fun m => ?_⟩
      have nb := fz_new e s s' hx hj
      rcases m with m | m
      · exact nb (.inl m)
      · rcases List.mem_append.mp m with m | m
        · exact nb (.inr m)
        · have eb : b = a := by simpa using m
          subst eb
          have h3 := (List.getElem?_eq_some_iff.mp ha)
          have h4 := (List.getElem?_eq_some_iff.mp hx)
          obtain ⟨l3, h3⟩ := h3
          obtain ⟨l4, h4⟩ := h4
          exact z ((List.getElem_inj s'.nd).mp (h3.trans h4.symm))
  have fz := fun {f : Nat} {v : V} {x x' : Dv} => fzd_gen s' dr hS f (v := v) (d := x) (d' := x')
  have hlen : (S'.take S.length).length = S.length := by rw [List.length_take]; have := h.1; omega
  refine ⟨⟨⟨[a], rfl⟩, e.m0, fun b o hbo hn z => ?_, fun b o hbo n z => e.nM b o hbo n (dr.M b z), e.keep⟩, ⟨?_, ?_, s'.dom, fun b hb' z => ?_, fun i b x h1 h2 => ?_⟩, ?_⟩
  · rcases List.mem_append.mp z with z | z
    · exact hn z
    · rw [show b = a by simpa using z] at hbo hn
      exact e.na a o hbo hn ham
  · show (w.as ++ [a]).Nodup
    rw [List.nodup_append]
    refine ⟨s.nd, by simp, fun b hb c hc => ?_⟩
    rw [show c = a by simpa using hc]
    rintro rfl
    exact haw hb
  · show (w.as ++ [a]).length = (S'.take S.length ++ [d']).length
    rw [List.length_append, List.length_append, hlen, s.len]
    rfl
  · rcases List.mem_append.mp hb' with q | q
    · exact s'.dj b (by rw [hb]; exact List.mem_append_left _ q) z
    · rw [show b = a by simpa using q] at z
      exact haM0 z
  · have h1' : (w.as ++ [a])[i]? = some b := h1
    by_cases hi : i < S.length
    · rw [List.getElem?_append_left (by rw [s.len]; exact hi)] at h1'
      rw [List.getElem?_append_left (by rw [hlen]; exact hi), List.getElem?_take_of_lt hi] at h2
      have nd : okO S.length x = true := by
        rcases h.2 i x hi h2 with z | z
        · have := (s.cont i b x h1' z).okO
          rw [s.len] at this
          exact this
        · exact z
      refine (s'.cont i b x ?_ h2).dn dr nd
      rw [hb, List.getElem?_append_left (by rw [s.len]; exact hi)]
      exact h1'
    · rw [List.getElem?_append_right (by rw [s.len]; omega)] at h1'
      rw [List.getElem?_append_right (by rw [hlen]; omega)] at h2
      rw [s.len] at h1'
      rw [hlen] at h2
      cases hq : i - S.length with
      | succ j => rw [hq] at h1'; simp at h1'
      | zero =>
        rw [hq] at h1' h2
        simp at h1' h2
        subst h1'; subst h2
        have m := s'.cont k a d ha hd
        cases d <;> first | exact m.elim | skip
        · obtain ⟨us, h1, h2⟩ := m
          unfold fzo at hf
          dsimp only at hf
          split at hf
          · rename_i ys hy
            cases hf
            exact ⟨us, h1, fzs_ok fz h2 hy⟩
          · cases hf
        · obtain ⟨dx, fs', h1, q, h2⟩ := m
          unfold fzo at hf
          dsimp only at hf
          split at hf
          · rename_i ys hy
            cases hf
            have hl := fzs_some hy
            obtain ⟨z1, z2⟩ := zip_fst (xs := List.map Prod.fst _) (ys := ys) (by simpa using hl)
            exact ⟨dx, fs', h1, by rw [z1]; exact q, by rw [z2]; exact fzs_ok fz h2 hy⟩
          · cases hf
        · obtain ⟨fs', h1, q, h2⟩ := m
          unfold fzo at hf
          dsimp only at hf
          split at hf
          · rename_i ys hy
            cases hf
            have hl := fzs_some hy
            obtain ⟨z1, z2⟩ := zip_fst (xs := List.map Prod.fst _) (ys := ys) (by simpa using hl)
            exact ⟨fs', h1, by rw [z1]; exact q, by rw [z2]; exact fzs_ok fz h2 hy⟩
          · cases hf
        · obtain ⟨fs', h1, q, h2⟩ := m
          unfold fzo at hf
          dsimp only at hf
          split at hf
          · rename_i ys hy
            cases hf
            have hl := fzs_some hy
            obtain ⟨z1, z2⟩ := zip_fst (xs := List.map Prod.fst _) (ys := ys) (by simpa using hl)
            exact ⟨fs', h1, by rw [z1]; exact q, by rw [z2]; exact fzs_ok fz h2 hy⟩
          · cases hf
  · show (w.as ++ [a])[S.length]? = some a
    rw [← s.len, List.getElem?_append_right (Nat.le_refl _), Nat.sub_self]
    rfl
theorem gcMR_ok {W : WX} {σ : L2.St} (s : SOk G w S) {r : Option (Rs Dv)} {res : Rs Dv} {Q : VK} (h : gcMR S r = some res) (p : PR G W (Rp G) w σ res Q) : ∃ r1, r = some r1 ∧ PR G W (Rp G) w σ r1 Q := by
  unfold gcMR at h
  split at h
  · rename_i k S'
    refine ⟨_, rfl, ?_⟩
    by_cases z : StOk S S' ∧ S.length ≤ k
    · rw [if_pos z] at h
      split at h
      · rename_i d hd
        split at h
        · rename_i d' hf
          cases h
          intro v w' e s' rv
          cases rv with
          | @obj a _ ha =>
            obtain ⟨e2, s2, ha2⟩ := cutM e s s' z.1 ha z.2 hd hf
            exact p (.ref a) (w'.cut (w.as ++ [a])) e2 s2 (.obj ha2)
        · cases h
      · cases h
    · rw [if_neg z] at h; cases h
  · rename_i c fs S'
    exact gcR_ok s h p
  · cases h
end
section
variable {X : Cx} {ξ : Iv} {W : WX} {G : Gp}
theorem d_gcM {e : Expr} {fa : FE} (h : DE X ξ W e fa) : DE X ξ W e (fGcM fa) := PE.imp h fun σ H Q ⟨w, env, S, res, eH, s, en, h, p⟩ => by
  obtain ⟨r1, h1, p1⟩ := gcMR_ok s h p
  exact ⟨w, env, S, r1, eH, s, en, h1, p1⟩
variable {P : Program} {w0 : World} {K : PySem.W.Frag} {mg : Str → Option Value} {base : Heap}
theorem fn_gcM {f : Addr} {fd : FuncData} {ps : List Str} {k n : Nat} {F : DFn} (h : FnOk P w0 K mg base (L2.CX P w0) k f fd ps (spD K mg n F)) : FnOk P w0 K mg base (L2.CX P w0) k f fd ps (spD K mg n (gcM F)) :=
  h.imp fun vs H Q E ⟨hl, w, S, ds, r, eH, hs, rv, hF, p⟩ => by
    obtain ⟨r1, h1, p1⟩ := gcMR_ok hs hF p
    exact ⟨hl, w, S, ds, r1, eH, hs, rv, h1, p1⟩
/-! ### slots forgotten alone -/
@[simp] def clS (ks : List Nat) : Option Rf → Option Rf
  | some (.nx env S) => some (.nx (fgt ks env) S)
  | some (.bk env S) => some (.bk (fgt ks env) S)
  | some (.ct env S) => some (.ct (fgt ks env) S)
  | r => r
@[simp] def sCl (ks : List Nat) (fb : FS) : FS := fun env S => clS ks (fb env S)
theorem EOk.fg {w : Wd} {σ : L2.St} {env : DEnv} {ks : List Nat} (h : EOk G ξ w σ env) : EOk G ξ w σ (fgt ks env) := ⟨by rw [h.len, fgt_len], fun i d q => h.get i d (fgt_get q), h.inv⟩
theorem clS_ok {w : Wd} {ks : List Nat} {D : Ends} {r : Option Rf} {res : Rf} (h : clS ks r = some res) (p : PF G ξ W w res D) : ∃ r1, r = some r1 ∧ PF G ξ W w r1 D := by
  unfold clS at h
  split at h
  · cases h; exact ⟨_, rfl, fun σ' w' e s' en => p σ' w' e s' en.fg⟩
  · cases h; exact ⟨_, rfl, fun σ' w' e s' en => p σ' w' e s' en.fg⟩
  · cases h; exact ⟨_, rfl, fun σ' w' e s' en => p σ' w' e s' en.fg⟩
  · exact ⟨_, h, p⟩
theorem s_cl {st : Stmt} {f : FS} (ks : List Nat) (h : DS X ξ W st f) : DS X ξ W st (sCl ks f) := PS.imp h fun D σ H ⟨w, env, S, res, eH, s, en, h, p⟩ => by
  obtain ⟨r1, h1, p1⟩ := clS_ok h p
  exact ⟨w, env, S, r1, eH, s, en, h1, p1⟩
theorem ss_cl {st : List Stmt} {f : FS} (ks : List Nat) (h : DSs X ξ W st f) : DSs X ξ W st (sCl ks f) := PSs.imp h fun D σ H ⟨w, env, S, res, eH, s, en, h, p⟩ => by
  obtain ⟨r1, h1, p1⟩ := clS_ok h p
  exact ⟨w, env, S, r1, eH, s, en, h1, p1⟩
end
end FC

set_option Elab.async false
set_option linter.all false
set_option maxRecDepth 100000
namespace FC
open PySem PySem.Spec L2
section
variable {X : Cx} {ξ : Iv} {W : WX} {G : Gp}
@[simp] def sPre (ks : List Nat) (fb : FS) : FS := fun env S => fb (fgt ks env) S
theorem s_pre {st : Stmt} {f : FS} (ks : List Nat) (h : DS X ξ W st f) : DS X ξ W st (sPre ks f) := PS.imp h fun D σ H ⟨w, env, S, res, eH, s, en, h, p⟩ => ⟨w, _, S, res, eH, s, en.fg, h, p⟩
theorem lk_all {β : Type} {P : Str → β → Prop} : ∀ {l : List (Str × β)}, (∀ q ∈ l, P q.1 q.2) → ∀ c b, l.lookup c = some b → P c b
  | [], _, c, b, h => by cases h
  | (n, v) :: r, hl, c, b, h => by
    rw [List.lookup_cons] at h
    cases q : (c == n) with
    | true =>
      rw [q] at h
      cases h
      have e : c = n := by simpa using q
      subst e
      exact hl _ List.mem_cons_self
    | false =>
      rw [q] at h
      exact lk_all (l := r) (fun p hp => hl p (List.mem_cons_of_mem _ hp)) c b h
@[simp] def oBool1 : DCl := fun ds S => match ds with
  | [.int i] => some (.ok (.bl (i != 0)) S)
  | [.bl b] => some (.ok (.bl b) S)
  | _ => none
theorem cd_bool1 : CallD G (fun xs H Q => (∃ i, xs = [V.int i] ∧ Q (.bl (i != 0)) H) ∨ ∃ k, xs = [V.bl k] ∧ Q (.bl k) H) oBool1 := by
  intro W w σ S xs ds res Q s r h p
  unfold oBool1 at h
  split at h
  · cases h
    obtain ⟨v, rfl, h1⟩ := rp1 r
    cases h1
    exact .inl ⟨_, rfl, p.here s (.bl _)⟩
  · cases h
    obtain ⟨v, rfl, h1⟩ := rp1 r
    cases h1
    exact .inr ⟨_, rfl, p.here s (.bl _)⟩
  · cases h
end
end FC

set_option Elab.async false
set_option linter.all false
set_option maxRecDepth 100000
namespace FC
open PySem PySem.Spec L2
section
variable {X : Cx} {ξ : Iv} {W : WX} {G : Gp}
/-! ### walks over a list that may change, while it does not -/
def ItOkO (G : Gp) (w : Wd) (J : It) (p : Nat × List Dv) : Prop := ∀ w2 S2, Ext w w2 → SOk G w2 S2 → S2[p.1]? = some (.lst p.2) →
  (∀ i, i < p.2.length → J.go i w2.H) ∧ J.stop p.2.length w2.H ∧
    ∀ i d x H', p.2[i]? = some d → J.yld i w2.H x H' → ∃ w3, w3.H = H' ∧ Ext w2 w3 ∧ SOk G w3 S2 ∧ Rp G w3 x d
abbrev FIO := DEnv → Mm (Nat × List Dv)
def tIO (G : Gp) (ξ : Iv) (W : WX) (f : FIO) : TI := tG G ξ W (fun w J p => ItOkO G w J p) f
def DIO (X : Cx) (ξ : Iv) (W : WX) (tg iter : Expr) (f : FIO) : Prop := PI X tg iter (tIO (gp X) ξ W f)
@[simp] def fItO (fa : FE) : FIO := fun env => bnd (fa env) fun d S => match d with
  | .obj n => (match S[n]? with
    | some (.lst xs) => some (.ok (n, xs) S)
    | _ => none)
  | _ => none
theorem i_obj {tg e : Expr} {fa : FE} (ha : DE X ξ W e fa) : DIO X ξ W tg e (fItO fa) := PI.imp (pi_list ha) fun σ H R ⟨w, env, S, res, eH, s, en, h, p⟩ => by
  subst eH
  refine seqR s en h p.px fun d S1 v w1 e1 s1 en1 rv h1 => ?_
  cases rv <;> first | (cases h1; done) | skip
  rename_i a n ha
  dsimp only at h1
  split at h1
  · rename_i xs hS
    cases h1
    obtain ⟨us, h2, h3⟩ := s1.cont n a _ ha hS
    refine ⟨a, rfl, ⟨us, SqL.of h2⟩, p.ok_ e1 s1 fun w2 S2 e2 s2 hg => ?_⟩
    obtain ⟨us2, h4, h5⟩ := s2.cont n a _ (e2.as_of ha) hg
    have hq : SqL (gp X).K w2.H a us2 := SqL.of h4
    refine ⟨fun i hi => ?_, ⟨us2, hq, by rw [h5.length]; exact Nat.le_refl _⟩, fun i d x H' hd hy => ?_⟩
    · have hx : i < us2.length := by rw [h5.length]; exact hi
      exact ⟨us2, us2[i], hq, List.getElem?_eq_getElem hx⟩
    · obtain ⟨rfl, hx⟩ := hy
      obtain ⟨v, h6, h7⟩ := h5.get hd
      rw [hx us2 hq] at h6
      cases h6
      exact ⟨w2, rfl, Ext.refl _, s2, h7⟩
  · cases h1
open Classical in
/-- a step while the list stands -/
noncomputable def stands {α : Type} (n : Nat) (all : List Dv) (m : Mm α) : Mm α := fun S => if S[n]? = some (.lst all) then m S else none
theorem stands_some {α : Type} {n : Nat} {all : List Dv} {m : Mm α} {S : Store} {r : Rs α} (h : stands n all m S = some r) : S[n]? = some (.lst all) ∧ m S = some r := by
  unfold stands at h
  by_cases z : S[n]? = some (.lst all)
  · rw [if_pos z] at h; exact ⟨z, h⟩
  · rw [if_neg z] at h; cases h
noncomputable def compM2O (n : Nat) (all : List Dv) (b : Bd) (ft : FT) (fi1 : FI) (vs1 : List Nat) (b1 : Bd) (ft1 : FT) (fe : FE) (env0 : DEnv) : List Dv → List Dv → Mm (List Dv)
  | [], acc => stands n all (ret acc)
  | d :: r, acc => stands n all fun S => match b d env0 with
    | none => none
    | some env1 => match ft env1 S with
      | some (.ok false S1) => compM2O n all b ft fi1 vs1 b1 ft1 fe env0 r acc S1
      | some (.ok true S1) => match fi1 env1 S1 with
        | some (.ok items1 S2) => match compM b1 ft1 fe (wipeD env1 vs1) items1 acc S2 with
          | some (.ok acc2 S3) => compM2O n all b ft fi1 vs1 b1 ft1 fe env0 r acc2 S3
          | _ => none
        | _ => none
      | _ => none
noncomputable def fLc2O (m : Bool) (fi : FIO) (own : List Nat) (b : Bd) (ft : FT) (fi1 : FI) (vs1 : List Nat) (b1 : Bd) (ft1 : FT) (fe : FE) : FE := fun env => bnd (fi env) fun p => bnd (compM2O p.1 p.2 b ft fi1 vs1 b1 ft1 fe (wipeD env own) p.2 []) (newL m)
section
variable {n0 : Nat} {all : List Dv} {b : Bd} {ft : FT} {fi1 : FI} {vs1 : List Nat} {b1 : Bd} {ft1 : FT} {fe : FE} {env0 : DEnv}
theorem compM2O_g {l acc : List Dv} {S : Store} {res : Rs (List Dv)} (h : compM2O n0 all b ft fi1 vs1 b1 ft1 fe env0 l acc S = some res) : S[n0]? = some (.lst all) := by
  cases l with
  | nil => unfold compM2O at h; exact (stands_some h).1
  | cons d r => unfold compM2O at h; exact (stands_some h).1
theorem compM2O_nil {acc ys : List Dv} {S S' : Store} (h : compM2O n0 all b ft fi1 vs1 b1 ft1 fe env0 [] acc S = some (.ok ys S')) : (acc, S) = (ys, S') := by
  unfold compM2O at h
  have := (stands_some h).2
  cases this
  rfl
theorem compM2O_cons {d : Dv} {r acc : List Dv} {S : Store} {res : Rs (List Dv)} (h : compM2O n0 all b ft fi1 vs1 b1 ft1 fe env0 (d :: r) acc S = some res) :
    ∃ env1, b d env0 = some env1 ∧ ((∃ S1, ft env1 S = some (.ok false S1) ∧ compM2O n0 all b ft fi1 vs1 b1 ft1 fe env0 r acc S1 = some res) ∨
      ∃ S1 items1 S2 acc2 S3, ft env1 S = some (.ok true S1) ∧ fi1 env1 S1 = some (.ok items1 S2) ∧ compM b1 ft1 fe (wipeD env1 vs1) items1 acc S2 = some (.ok acc2 S3) ∧ compM2O n0 all b ft fi1 vs1 b1 ft1 fe env0 r acc2 S3 = some res) := by
  unfold compM2O at h
  have h := (stands_some h).2
  split at h
  · cases h
  · rename_i env1 e1
    refine ⟨env1, e1, ?_⟩
    split at h
    · rename_i S1 e2
      exact .inl ⟨S1, e2, h⟩
    · rename_i S1 e2
      split at h
      · rename_i items1 S2 e3
        split at h
        · rename_i acc2 S3 e4
          exact .inr ⟨S1, items1, S2, acc2, S3, e2, e3, e4, h⟩
        · cases h
      · cases h
    · cases h
theorem compM2O_ok : ∀ {l acc : List Dv} {S : Store} {res : Rs (List Dv)}, compM2O n0 all b ft fi1 vs1 b1 ft1 fe env0 l acc S = some res → ∃ ys S2, res = .ok ys S2
  | [], acc, S, res, h => by unfold compM2O at h; have h := (stands_some h).2; cases h; exact ⟨acc, S, rfl⟩
  | d :: r, acc, S, res, h => by
    obtain ⟨env1, _, ⟨S1, _, h2⟩ | ⟨S1, items1, S2, acc2, S3, _, _, _, h2⟩⟩ := compM2O_cons h
    · exact compM2O_ok h2
    · exact compM2O_ok h2
end
section
variable {tg iter tg1 iter1 elt : Expr} {ifs ifs1 : List Expr} {scope : Scope} {own : List (Str × Nat)} {pos : Pos} {fi : FIO} {fi1 : FI} {sl sl1 vs1 : List Nat} {b b1 : Bd} {ft ft1 : FT} {fe : FE}
theorem lc2O_body (m : Bool) (hsl : ∀ i ∈ sl, i ∈ own.map (·.2)) (hsl1 : ∀ i ∈ sl1, i ∈ vs1) : ∀ σ H Q, tD G Iv.no W (fLc2O m fi (own.map (·.2)) b ft fi1 vs1 b1 ft1 fe) σ H Q →
    tLc2 (tIO G Iv.no W fi) (gD G Iv.no sl b) (tDT G Iv.no W0 ft) (tIW G Iv.no W0 fi1) (gD G Iv.no sl1 b1) (tDT G Iv.no W0 ft1) (tD G Iv.no W0 fe) (own.map (·.2)) vs1 σ H Q := fun σ H Q ⟨w, env, S, res, eH, s, en, h, p⟩ => by
  subst eH
  refine seqR s en h p.px fun it S1 J w1 e1 s1 en1 ok h1 => fun D hD => ?_
  obtain ⟨n0, items⟩ := it
  have p1 := p.mono e1 s1
  unfold bnd at h1
  cases hc : compM2O n0 items b ft fi1 vs1 b1 ft1 fe (wipeD env (own.map (·.2))) items [] S1 with
  | none => rw [hc] at h1; cases h1
  | some r1 =>
    rw [hc] at h1
    obtain ⟨ys, Sf, rfl⟩ := compM2O_ok hc
    have hk : newL m ys Sf = some res := h1
    refine ⟨fun i k H => k = items.length - i ∧ i ≤ items.length ∧ ∃ w2 S2 vs acc, w2.H = H ∧ Lcs G w1 D w2 S2 vs acc ∧ compM2O n0 items b ft fi1 vs1 b1 ft1 fe (wipeD env (own.map (·.2))) (items.drop i) acc S2 = some (.ok ys Sf), ⟨items.length, rfl, Nat.zero_le _, ?_⟩, ?_⟩
    · refine ⟨⟨upd w1.H D (.lst []), w1.as, D :: w1.M0⟩, S1, [], [], rfl, ?_, hc⟩
      have ex : Ext w1 ⟨upd w1.H D (.lst []), w1.as, D :: w1.M0⟩ := ⟨⟨[], by simp⟩, fun a ha => List.mem_cons_of_mem _ ha, fun _ _ _ n => n, fun a o ho n z => by
        rcases z with z | z
        · rcases List.mem_cons.mp z with z | z
          · exact ne_of_none ho hD z
          · exact n (.inl z)
        · exact n (.inr z), fun a o _ ho => by
        refine .inl ?_
        show upd w1.H D _ a = some o
        rw [upd_ne (ne_of_none ho hD)]
        exact ho⟩
      refine ⟨ex, ⟨s1.nd, s1.len, fun a ha => ?_, fun a ha z => ?_, fun i a d q1 q2 => ?_⟩, List.mem_cons_self, fun z => s1.fresh hD (.inr z), upd_same, .nil⟩
      · rcases List.mem_cons.mp ha with z | z
        · subst z; exact ⟨_, upd_same, True.intro⟩
        · obtain ⟨o, ho, nt⟩ := s1.dom a z
          exact ⟨o, by show upd w1.H D _ a = some o; rw [upd_ne (ne_of_none ho hD)]; exact ho, nt⟩
      · rcases List.mem_cons.mp z with z | z
        · subst z; exact s1.fresh hD (.inr ha)
        · exact s1.dj a ha z
      · have q := s1.cont i a d q1 q2
        obtain ⟨o, ho⟩ := q.there
        exact q.mono ex (upd_ne (ne_of_none ho hD))
    · rintro i k H' ⟨rfl, hi, w2, S2, vs, acc, rfl, c, hcm⟩
      obtain ⟨go, stop, yld⟩ := ok w2 S2 c.e c.s (compM2O_g hcm)
      by_cases hlt : i < items.length
      · refine .inr ⟨go i hlt, fun H' => i + 1 ≤ items.length ∧ ∃ w2 S2 vs acc, w2.H = H' ∧ Lcs G w1 D w2 S2 vs acc ∧ compM2O n0 items b ft fi1 vs1 b1 ft1 fe (wipeD env (own.map (·.2))) (items.drop (i + 1)) acc S2 = some (.ok ys Sf), fun H' hN => ⟨items.length - (i + 1), by omega, rfl, hN.1, hN.2⟩, fun x H' hy => ?_⟩
        have hd : items[i]? = some items[i] := List.getElem?_eq_getElem hlt
        obtain ⟨w3, rfl, e3, s3, rx⟩ := yld i _ x H' hd hy
        rw [List.drop_eq_getElem_cons hlt] at hcm
        obtain ⟨env1, hb, hcases⟩ := compM2O_cons hcm
        refine ⟨w3, S2, wipeD env (own.map (·.2)), items[i], env1, rfl, s3, ((en1.mono c.e).mono e3).wipe _ (fun _ _ => True.intro), rx, hb, fun σ' en' hw => ⟨?_, ?_⟩⟩
        · rw [hw _ hsl]
          exact wipe_wipe σ _ _ fun _ z => z
        · have c3 := c.go e3 s3
          rcases hcases with ⟨S4, hft, hr⟩ | ⟨S4, items1, S5, acc2, S6, hft, hfi, hcm1, hr⟩
          · refine ⟨w3, env1, S2, _, rfl, s3, en', hft, fun bv w4 e4 s4 hbv => ?_⟩
            cases hbv
            exact ⟨hlt, w4, S4, vs, acc, rfl, c3.go e4 s4, hr⟩
          · refine ⟨w3, env1, S2, _, rfl, s3, en', hft, fun bv w4 e4 s4 hbv => ?_⟩
            cases hbv
            have c4 := c3.go e4 s4
            refine ⟨w4, env1, S4, _, rfl, s4, en'.mono e4, hfi, fun J1 w5 e5 s5 ok1 => ?_⟩
            have c5 := c4.go e5 s5
            have en5 := (en'.mono e4).mono e5
            refine ⟨fun j k H => k = items1.length - j ∧ j ≤ items1.length ∧ ∃ w6 S7 vs' acc', w6.H = H ∧ Wk w5 w6 ∧ Lcs G w1 D w6 S7 vs' acc' ∧ compM b1 ft1 fe (wipeD env1 vs1) (items1.drop j) acc' S7 = some (.ok acc2 S6), ⟨items1.length, rfl, Nat.zero_le _, w5, S5, vs, acc, rfl, Wk.refl _, c5, hcm1⟩, ?_⟩
            rintro j k H7 ⟨rfl, hj, w6, S7, vs', acc', rfl, e6, c6, hin⟩
            obtain ⟨go1, stop1, yld1⟩ := ok1 w6 S7 e6 c6.s
            by_cases hlt1 : j < items1.length
            · refine .inr ⟨go1 j hlt1, fun H' => j + 1 ≤ items1.length ∧ ∃ w6 S7 vs' acc', w6.H = H' ∧ Wk w5 w6 ∧ Lcs G w1 D w6 S7 vs' acc' ∧ compM b1 ft1 fe (wipeD env1 vs1) (items1.drop (j + 1)) acc' S7 = some (.ok acc2 S6), fun H' hN => ⟨items1.length - (j + 1), by omega, rfl, hN.1, hN.2⟩, fun x1 H8 hy1 => ?_⟩
              have hd1 : items1[j]? = some items1[j] := List.getElem?_eq_getElem hlt1
              obtain ⟨w8, rfl, e8, s8, rx1⟩ := yld1 j _ x1 H8 hd1 hy1
              rw [List.drop_eq_getElem_cons hlt1] at hin
              obtain ⟨env2, hb1, hcases1⟩ := compM_cons hin
              refine ⟨w8, S7, wipeD env1 vs1, items1[j], env2, rfl, s8, ((en5.wkNo e6).mono e8).wipe _ (fun _ _ => True.intro), rx1, hb1, fun σ3 en3 hw1 => ⟨?_, ?_⟩⟩
              · rw [hw1 _ hsl1]
                exact wipe_wipe σ' _ _ fun _ z => z
              · have c8 := c6.go e8 s8
                have e58 := e6.trans e8.wk
                rcases hcases1 with ⟨S9, hf1, hr1⟩ | ⟨S9, y, S10, hf1, hfe, hl, hr1⟩
                · refine ⟨w8, env2, S7, _, rfl, s8, en3, hf1, fun bv w9 e9 s9 hbv => ?_⟩
                  cases hbv
                  exact ⟨hlt1, w9, S9, vs', acc', rfl, e58.trans e9.wk, c8.go e9 s9, hr1⟩
                · refine ⟨w8, env2, S7, _, rfl, s8, en3, hf1, fun bv w9 e9 s9 hbv => ?_⟩
                  cases hbv
                  have c9 := c8.go e9 s9
                  refine ⟨w9, env2, S9, _, rfl, s9, en3.mono e9, hfe, fun v w10 e10 s10 rv => ?_⟩
                  have c10 := c9.go e10 s10
                  have ca := c10.app hD rv
                  exact ⟨vs', c10.h, by rw [c10.r.length]; exact big_lt hl, hlt1, _, S10, _, _, rfl, (((e58.trans e9.wk).trans e10.wk).trans (Wk.putD (.inl c10.m))), ca, hr1⟩
            · have e0 : j = items1.length := by omega
              subst e0
              rw [List.drop_length] at hin
              cases hin
              exact .inl ⟨stop1, hlt, w6, _, vs', _, rfl, c6, hr⟩
      · have e0 : i = items.length := by omega
        subst e0
        rw [List.drop_length] at hcm
        cases compM2O_nil hcm
        exact .inl ⟨stop, c.out s1 hD hk p1⟩
theorem d_lc2O {vs : List Nat} (m : Bool) (hc : X.calm = true) (hN : X.N.Nodup) (hi : DIO X Iv.no W tg iter fi) (ok : BlkOk X.N X.env.scope scope own)
    (hg : ∀ (s : Shared) (H : Hp) (C : Addr) (cl : List (Str × Addr)) (fp : List Addr), DG (X.blk s H scope (compEnvC scope cl C X.env) fp) Iv.no tg sl b)
    (ht : ∀ (s : Shared) (H : Hp) (C : Addr) (cl : List (Str × Addr)) (fp : List Addr), DTs (X.blk s H scope (compEnvC scope cl C X.env) fp) Iv.no W0 ifs ft)
    (hi1 : ∀ (s : Shared) (H : Hp) (C : Addr) (cl : List (Str × Addr)) (fp : List Addr), DIW (X.blk s H scope (compEnvC scope cl C X.env) fp) Iv.no W0 tg1 iter1 fi1)
    (hg1 : ∀ (s : Shared) (H : Hp) (C : Addr) (cl : List (Str × Addr)) (fp : List Addr), DG (X.blk s H scope (compEnvC scope cl C X.env) fp) Iv.no tg1 sl1 b1)
    (ht1 : ∀ (s : Shared) (H : Hp) (C : Addr) (cl : List (Str × Addr)) (fp : List Addr), DTs (X.blk s H scope (compEnvC scope cl C X.env) fp) Iv.no W0 ifs1 ft1)
    (he : ∀ (s : Shared) (H : Hp) (C : Addr) (cl : List (Str × Addr)) (fp : List Addr), DE (X.blk s H scope (compEnvC scope cl C X.env) fp) Iv.no W0 elt fe)
    (hv : own.map (·.2) = vs := by rfl) (hv1 : ∀ i ∈ vs1, i ∈ own.map (·.2) := by decide) (hsl : ∀ i ∈ sl, i ∈ own.map (·.2) := by decide) (hsl1 : ∀ i ∈ sl1, i ∈ vs1 := by decide) (hs : ∀ x, foldedSetIterable iter X.env x = pure x := by intro _; rfl) (hs1 : ∀ env x, foldedSetIterable iter1 env x = pure x := by intro _ _; rfl) :
    DE X Iv.no W (.ListComp elt [⟨tg, iter, ifs, 0⟩, ⟨tg1, iter1, ifs1, 0⟩] scope pos) (fLc2O m fi vs b ft fi1 vs1 b1 ft1 fe) := by
  subst hv
  exact PE.imp (pe_lc2 (g := gD (gp X) Iv.no sl b) (tt := tDT (gp X) Iv.no W0 ft) (wi1 := tIW (gp X) Iv.no W0 fi1) (g1 := gD (gp X) Iv.no sl1 b1) (tt1 := tDT (gp X) Iv.no W0 ft1) (te := tD (gp X) Iv.no W0 fe) hc hN hi ok hv1 hg ht hi1 hg1 ht1 he hs hs1) (lc2O_body m hsl hsl1)
theorem s_setLc2O {i : Nat} {y : Str} {py spos : Pos} {vs : List Nat} (m : Bool) (hc : X.calm = true) (hN : X.N.Nodup) (hsw : swapsWith (.ListComp elt [⟨tg, iter, ifs, 0⟩, ⟨tg1, iter1, ifs1, 0⟩] scope pos) (some (.Name y py)) spos.line X.env = pure true) (hi : DIO X Iv.no W tg iter fi) (ok : BlkOk X.N X.env.scope scope own)
    (hg : ∀ (s : Shared) (H : Hp) (C : Addr) (cl : List (Str × Addr)) (fp : List Addr), DG (X.blk s H scope (compEnvC scope cl C X.env) fp) Iv.no tg sl b)
    (ht : ∀ (s : Shared) (H : Hp) (C : Addr) (cl : List (Str × Addr)) (fp : List Addr), DTs (X.blk s H scope (compEnvC scope cl C X.env) fp) Iv.no W0 ifs ft)
    (hi1 : ∀ (s : Shared) (H : Hp) (C : Addr) (cl : List (Str × Addr)) (fp : List Addr), DIW (X.blk s H scope (compEnvC scope cl C X.env) fp) Iv.no W0 tg1 iter1 fi1)
    (hg1 : ∀ (s : Shared) (H : Hp) (C : Addr) (cl : List (Str × Addr)) (fp : List Addr), DG (X.blk s H scope (compEnvC scope cl C X.env) fp) Iv.no tg1 sl1 b1)
    (ht1 : ∀ (s : Shared) (H : Hp) (C : Addr) (cl : List (Str × Addr)) (fp : List Addr), DTs (X.blk s H scope (compEnvC scope cl C X.env) fp) Iv.no W0 ifs1 ft1)
    (he : ∀ (s : Shared) (H : Hp) (C : Addr) (cl : List (Str × Addr)) (fp : List Addr), DE (X.blk s H scope (compEnvC scope cl C X.env) fp) Iv.no W0 elt fe)
    (hv : own.map (·.2) = vs := by rfl) (hv1 : ∀ i ∈ vs1, i ∈ own.map (·.2) := by decide) (hsl : ∀ i ∈ sl, i ∈ own.map (·.2) := by decide) (hsl1 : ∀ i ∈ sl1, i ∈ vs1 := by decide) (hy : X.N[i]? = some y := by rfl) (hyl : X.env.scope.names.lookup y = some .local := by rfl) (hs : ∀ x, foldedSetIterable iter X.env x = pure x := by intro _; rfl) (hs1 : ∀ env x, foldedSetIterable iter1 env x = pure x := by intro _ _; rfl) :
    DS X Iv.no W (.Assign [.Name y py] (.ListComp elt [⟨tg, iter, ifs, 0⟩, ⟨tg1, iter1, ifs1, 0⟩] scope pos) spos) (sAsg (fLc2O m fi vs b ft fi1 vs1 b1 ft1 fe) (bName i)) := by
  subst hv
  refine PS.imp (ps_setLc2 (g := gD (gp X) Iv.no sl b) (tt := tDT (gp X) Iv.no W0 ft) (wi1 := tIW (gp X) Iv.no W0 fi1) (g1 := gD (gp X) Iv.no sl1 b1) (tt1 := tDT (gp X) Iv.no W0 ft1) (te := tD (gp X) Iv.no W0 fe) hc hN hy hyl hsw hi ok hv1 hg ht hi1 hg1 ht1 he hs hs1) fun D σ H h => ?_
  obtain ⟨w, env, S, r, eH, s, en, h, p⟩ := h
  subst eH
  have q : tD (gp X) Iv.no W (fLc2O m fi (own.map (·.2)) b ft fi1 vs1 b1 ft1 fe) σ w.H (fun x H1 => gName i x σ H1 D.nx) := seqS s en h p.px fun d S1 v w1 e1 s1 en1 r1 h1 => by
    cases h1
    exact p _ w1 e1 s1 (en1.set True.intro r1)
  exact lc2O_body m hsl hsl1 σ w.H _ q
end
end
end FC

set_option Elab.async false
set_option linter.all false
set_option maxRecDepth 100000
set_option maxHeartbeats 4000000
theorem L2.Room.units1 {k : Nat} {A : PySem.Around} (r : L2.Room k A) : A.units + 65 < PySem.cLine := by have := r.un; omega
namespace FC
open PySem PySem.Spec L2
/-! ### a, b = x, y -/
def sPar (i j : Nat) (fa : FA) : FS := sBnd fa fun ds env S => match ds with
  | [a, b] => some (.nx ((env.set i (some a)).set j (some b)) S)
  | _ => none
section
variable {X : Cx} {ξ : Iv} {W : WX}
theorem s_par {i j : Nat} {x y : Str} {a b : Expr} {fa : FA} {px py pt pos : Pos} {kt k2 pt2} (hc : X.calm = true) (hN : X.N.Nodup) (ha : DA X ξ W [a, b] fa) (hi : X.N[i]? = some x := by rfl) (hj : X.N[j]? = some y := by rfl) (hij : i ≠ j := by decide)
    (hx : X.env.scope.names.lookup x = some .local := by rfl) (hy : X.env.scope.names.lookup y = some .local := by rfl)
    (hw : swappedStores [.Tuple [.Name x px, .Name y py] kt pt] (.Tuple [a, b] k2 pt2) X.env = pure (some [x, y]) := by rfl)
    (hs : swapsWithSole [.Tuple [.Name x px, .Name y py] kt pt] (.Tuple [a, b] k2 pt2) pos.line X.env = pure false := by rfl) (oi : ξ.ok i := by first | trivial | decide) (oj : ξ.ok j := by first | trivial | decide) :
    DS X ξ W (.Assign [.Tuple [.Name x px, .Name y py] kt pt] (.Tuple [a, b] k2 pt2) pos) (sPar i j fa) := PS.imp (ps_par hc hN hi hj hij hx hy ha hw hs) fun D σ H h => by
  obtain ⟨w, env, S, r, eH, s, en, h, p⟩ := h
  subst eH
  refine seqS s en h p.px fun ds S1 vs w1 e1 s1 en1 r1 h1 => ?_
  cases r1 with
  | nil => cases h1
  | cons ra rr =>
    cases rr with
    | nil => cases h1
    | cons rb rr =>
      cases rr with
      | cons _ _ => cases h1
      | nil =>
        cases h1
        exact ⟨_, _, rfl, p _ w1 e1 s1 ((en1.set oi ra).set oj rb)⟩
end
/-! ### < of data -/
def rLtD (K : PySem.W.Frag) : R2 := fun x y H Q => ∃ d e, Dp K H x d ∧ Dp K H y e ∧ PySem.W.alike d e = true ∧ d ≠ .none ∧ d.depth ≤ 64 ∧ Q (.bl (PySem.W.dataLt d e)) H
theorem op_ltD {X : Cx} (hu : X.A.units + 64 < cLine) : OpR X (compareOp .Lt) (rLtD X.K) := by
  intro pins s σ H x y v u Q I rx ry h
  obtain ⟨d, e, hd, he, sd, sn, sl, q⟩ := h
  obtain ⟨as, r1⟩ := Dp.reads I d x v hd rx
  obtain ⟨bs, r2⟩ := Dp.reads I e y u he ry
  exact PySem.W.rcLt_alike d e X.A s v u as bs r1 r2 sd sn (by have := Nat.min_le_left d.depth e.depth; omega) _ _ _ _ ⟨.bl _, H, I, rfl, q⟩
def oLtX : DOp := fun x y S => match toPy x, toPy y with
  | some p, some q => if PySem.W.alike p q = true ∧ p.depth ≤ 64 then (match p with | .none => none | _ => some (.ok (.bl (PySem.W.dataLt p q)) S)) else none
  | _, _ => none
theorem od_ltX {G : Gp} : OpD G (rLtD G.K) oLtX := by
  intro W w σ S x y dx dy res Q s rx ry h p
  unfold oLtX at h
  cases e1 : toPy dx with
  | none => rw [e1] at h; cases h
  | some p1 =>
    cases e2 : toPy dy with
    | none => rw [e1, e2] at h; cases h
    | some q1 =>
      rw [e1, e2] at h
      simp only at h
      by_cases z : PySem.W.alike p1 q1 = true ∧ p1.depth ≤ 64
      · rw [if_pos z] at h
        have hn : p1 ≠ .none := by
          intro e
          subst e
          cases h
        have hr : some (Rs.ok (Dv.bl (PySem.W.dataLt p1 q1)) S) = some res := by
          cases p1 <;> first | exact absurd rfl hn | exact h
        cases hr
        exact ⟨p1, q1, dp_of dx x p1 rx e1, dp_of dy y q1 ry e2, z.1, hn, z.2, p.here s (.bl _)⟩
      · rw [if_neg z] at h
        cases h
section
variable {X : Cx} {ξ : Iv} {W : WX} {a b : Expr} {fa fb : FE} {pos : Pos}
theorem d_ltX (hu : X.A.units + 64 < cLine) (ha : DE X ξ W a fa) (hb : DE X ξ W b fb) : DE X ξ W (.Compare a [.Lt] [b] pos) (fOp oLtX fa fb) := d_cmp (op_ltD hu) od_ltX ha hb (nomark _)
theorem t_ltX (hu : X.A.units + 64 < cLine) (ha : DE X ξ W a fa) (hb : DE X ξ W b fb) : DT X ξ W (.Compare a [.Lt] [b] pos) (fTest (fOp oLtX fa fb)) := t_cmp (op_ltD hu) od_ltX ha hb (nomark _)
end
/-! ### list.index, `in` of data -/
def idxX (es ds : List Dv) : Mm Dv := fun S => match toPys es, ds with
  | some ps, [d] => (match toPy d with
    | some p => if SeqAt.shaped (.list ps) = true ∧ SeqAt.shaped p = true then (match ps.findIdx? (fun z => PyData.eqv z p) with
        | some j => some (.ok (.int (j : Nat)) S)
        | none => none) else none
    | none => none)
  | _, _ => none
theorem md_idxX {G : Gp} : MethR G (rIndexD G.K) idxX := by
  intro W w σ S a ys xs es ds res Q s hs hr r h p
  unfold idxX at h
  cases hi : toPys es with
  | none => rw [hi] at h; cases h
  | some ps =>
    rw [hi] at h
    match ds, r, h with
    | [d], r, h =>
      obtain ⟨v, rfl, hv⟩ := rp1 r
      simp only at h
      cases hd : toPy d with
      | none => rw [hd] at h; cases h
      | some q =>
        rw [hd] at h
        simp only at h
        by_cases z : SeqAt.shaped (.list ps) = true ∧ SeqAt.shaped q = true
        · rw [if_pos z] at h
          cases hj : ps.findIdx? (fun z => PyData.eqv z q) with
          | none => rw [hj] at h; cases h
          | some j =>
            rw [hj] at h
            cases h
            rw [List.findIdx?_eq_some_iff_getElem] at hj
            obtain ⟨h1, h2, h3⟩ := hj
            refine ⟨a, v, q, ps, j, ps[j], rfl, rfl, .lst hs (dps_of es ys ps hr hi), dp_of d v q hv hd, z.1, z.2, List.getElem?_eq_getElem h1, h2, fun m z' hm hz => ?_, p.here s (.int _)⟩
            have := h3 m hm
            obtain ⟨hm', e⟩ := List.getElem?_eq_some_iff.1 hz
            subst e
            simpa using this
        · rw [if_neg z] at h
          cases h
section
variable {X : Cx} {ξ : Iv} {W : WX} {o a : Expr} {fo : FE} {fa : FA} {apos cpos : Pos}
theorem d_indexX (hu : X.A.units + 65 < cLine) (ho : DE X ξ W o fo) (ha : DA X ξ W [a] fa)
    (hbase : attributeBase o "index" X.env (eval o X.env) = eval o X.env := by rfl)
    (hfew : ((backTo cpos (starEach [a] X.env)).all (fun x => !x.1) && (backToKw cpos (keywordEach [] X.env)).all (fun x => x.1.isSome)
      && decide ([a].length + ([] : List Keyword).length + (if ([] : List Keyword).isEmpty then 0 else 1) < 30)) = true := by rfl)
    (hline : (apos.endLine == cpos.line) = true := by rfl) (hs : starEach [a] X.env = (false, eval a X.env) :: starEach [] X.env := by rfl) (hplain : (backTo cpos (starEach [] X.env)).any (·.1) = false := by rfl) :
    DE X ξ W (.Call (.Attribute o "index" apos) [a] [] cpos) (fMR idxX fo fa) :=
  PE.imp (pe_bm PySem.F.plainAttrs_list PySem.F.slot_list_index PySem.F.type_list_index (mt_indexD hu) ho ha hbase hfew hline hs hplain) (methR_body md_idxX)
end
def oInX (neg : Bool) : DOp := fun x y S => match toPy x, y with
  | some p, .lst ys => (match toPys ys with
    | some ps => if SeqAt.shaped p = true ∧ SeqAt.shaped (.list ps) = true then some (.ok (.bl (if neg = true then !ps.any fun z => PyData.eqv z p else ps.any fun z => PyData.eqv z p)) S) else none
    | none => none)
  | _, _ => none
theorem inX_at {G : Gp} {neg : Bool} {x y : V} {dx dy : Dv} {res : Rs Dv} {S : Store} {w : Wd} (rx : Rp G w x dx) (ry : Rp G w y dy) (h : oInX neg dx dy S = some res) : ∃ p ps, Dp G.K w.H x p ∧ Dp G.K w.H y (.list ps) ∧ SeqAt.shaped p = true ∧ SeqAt.shaped (.list ps) = true ∧
    res = .ok (.bl (if neg = true then !ps.any fun z => PyData.eqv z p else ps.any fun z => PyData.eqv z p)) S := by
  unfold oInX at h
  cases e1 : toPy dx with
  | none => rw [e1] at h; cases h
  | some p1 =>
    rw [e1] at h
    cases dy with
    | lst ys =>
      simp only at h
      cases e2 : toPys ys with
      | none => rw [e2] at h; cases h
      | some ps =>
        rw [e2] at h
        simp only at h
        by_cases z : SeqAt.shaped p1 = true ∧ SeqAt.shaped (.list ps) = true
        · rw [if_pos z] at h
          cases h
          refine ⟨p1, ps, dp_of dx x p1 rx e1, dp_of (.lst ys) y (.list ps) ry ?_, z.1, z.2, rfl⟩
          unfold toPy
          rw [e2]
          rfl
        · rw [if_neg z] at h
          cases h
    | _ => cases h
theorem od_inX {G : Gp} : OpD G (rInD G.K) (oInX false) := by
  intro W w σ S x y dx dy res Q s rx ry h p
  obtain ⟨p1, ps, h1, h2, h3, h4, rfl⟩ := inX_at rx ry h
  exact ⟨p1, ps, h1, h2, h3, h4, p.here s (.bl _)⟩
theorem od_ninX {G : Gp} : OpD G (rNotInD G.K) (oInX true) := by
  intro W w σ S x y dx dy res Q s rx ry h p
  obtain ⟨p1, ps, h1, h2, h3, h4, rfl⟩ := inX_at rx ry h
  exact ⟨p1, ps, h1, h2, h3, h4, p.here s (.bl _)⟩
section
variable {X : Cx} {ξ : Iv} {W : WX} {a b : Expr} {fa fb : FE} {pos : Pos}
theorem d_inX (hu : X.A.units + 65 < cLine) (ha : DE X ξ W a fa) (hb : DE X ξ W b fb) (hm : behindInMarks .In b = false := by rfl) : DE X ξ W (.Compare a [.In] [b] pos) (fOp (oInX false) fa fb) := d_cmp (op_inD hu) od_inX ha hb hm
theorem t_inX (hu : X.A.units + 65 < cLine) (ha : DE X ξ W a fa) (hb : DE X ξ W b fb) (hm : behindInMarks .In b = false := by rfl) : DT X ξ W (.Compare a [.In] [b] pos) (fTest (fOp (oInX false) fa fb)) := t_cmp (op_inD hu) od_inX ha hb hm
theorem d_ninX (hu : X.A.units + 65 < cLine) (ha : DE X ξ W a fa) (hb : DE X ξ W b fb) (hm : behindInMarks .NotIn b = false := by rfl) : DE X ξ W (.Compare a [.NotIn] [b] pos) (fOp (oInX true) fa fb) := d_cmp (op_notInD hu) od_ninX ha hb hm
theorem t_ninX (hu : X.A.units + 65 < cLine) (ha : DE X ξ W a fa) (hb : DE X ξ W b fb) (hm : behindInMarks .NotIn b = false := by rfl) : DT X ξ W (.Compare a [.NotIn] [b] pos) (fTest (fOp (oInX true) fa fb)) := t_cmp (op_notInD hu) od_ninX ha hb hm
end
end FC

set_option Elab.async false
set_option linter.all false
set_option maxRecDepth 100000
set_option maxHeartbeats 4000000
namespace FC
open PySem PySem.Spec L2
/-! ### dicts as data: keys -/
def keyD : Dv → Option Key
  | .int i => some (.inl i)
  | .str x => some (.inr x)
  | _ => none
def keysD : List Dv → Option (List Key)
  | [] => some []
  | d :: r => match keyD d, keysD r with
    | some k, some ks => some (k :: ks)
    | _, _ => none
/-- a key that is a row: not empty -/
def rowD : Dv → Option (List Key)
  | .tup (d :: r) => keysD (d :: r)
  | _ => none
section
variable {G : Gp} {w : Wd}
theorem keyD_ok {v : V} {d : Dv} {k : Key} (r : Rp G w v d) (h : keyD d = some k) : v = kV k := by
  cases r <;> first | (cases h; done) | skip
  · cases h; rfl
  · cases h; rfl
theorem keysD_ok : ∀ {ds : List Dv} {vs : List V} {ks : List Key}, RpAll G w vs ds → keysD ds = some ks → vs = ks.map kV
  | [], vs, ks, r, h => by cases r; cases h; rfl
  | d :: ds, vs, ks, r, h => by
    cases r with
    | cons r1 r2 =>
      unfold keysD at h
      cases e1 : keyD d with
      | none => rw [e1] at h; cases h
      | some k =>
        cases e2 : keysD ds with
        | none => rw [e1, e2] at h; cases h
        | some ks' =>
          rw [e1, e2] at h
          cases h
          rw [keyD_ok r1 e1, keysD_ok r2 e2]
          rfl
theorem rowD_ok {v : V} {d : Dv} {k : List Key} (r : Rp G w v d) (h : rowD d = some k) : ∃ b, v = .ref b ∧ w.H b = some (.tup (k.map kV)) := by
  cases r <;> first | (cases h; done) | skip
  rename_i a xs ds hs ra
  cases ds with
  | nil => cases h
  | cons d ds =>
    have e := keysD_ok ra h
    rcases hs with ⟨h1, _⟩ | ⟨h1, _⟩
    · exact ⟨a, rfl, by rw [← e]; exact h1⟩
    · subst h1
      cases ra
/-! ### .. and what stands at them -/
def valD {κ : Type} [DecidableEq κ] (kvs : List (κ × Dv)) (k : κ) : Option Dv := (kvs.find? fun kv => decide (kv.1 = k)).map (·.2)
def putD2 {κ : Type} [DecidableEq κ] (kvs : List (κ × Dv)) (k : κ) (d : Dv) : List (κ × Dv) :=
  if kvs.any (fun kv => decide (kv.1 = k)) = true then kvs.map fun kv => if kv.1 = k then (kv.1, d) else kv else kvs ++ [(k, d)]
/-- two rows of pairs, key by key -/
def KvR {κ : Type} (G : Gp) (w : Wd) (ps : List (κ × V)) (qs : List (κ × Dv)) : Prop := ps.map Prod.fst = qs.map Prod.fst ∧ RpAll G w (ps.map Prod.snd) (qs.map Prod.snd)
theorem KvR.nil {κ : Type} : KvR G w ([] : List (κ × V)) [] := ⟨rfl, .nil⟩
theorem KvR.cons_inv {κ : Type} {p : κ × V} {ps : List (κ × V)} {q : κ × Dv} {qs : List (κ × Dv)} (h : KvR G w (p :: ps) (q :: qs)) : p.1 = q.1 ∧ Rp G w p.2 q.2 ∧ KvR G w ps qs := by
  obtain ⟨h1, h2⟩ := h
  simp only [List.map_cons] at h1 h2
  cases h2 with
  | cons r1 r2 => exact ⟨(List.cons.inj h1).1, r1, (List.cons.inj h1).2, r2⟩
theorem KvR.len {κ : Type} : ∀ {ps : List (κ × V)} {qs : List (κ × Dv)}, KvR G w ps qs → ps.length = qs.length := fun h => by
  have := congrArg List.length h.1
  simpa using this
theorem KvR.ind {κ : Type} {P : List (κ × V) → List (κ × Dv) → Prop} (h0 : P [] []) (h1 : ∀ k v d ps qs, Rp G w v d → KvR G w ps qs → P ps qs → P ((k, v) :: ps) ((k, d) :: qs)) : ∀ {ps : List (κ × V)} {qs : List (κ × Dv)}, KvR G w ps qs → P ps qs
  | [], [], _ => h0
  | [], _ :: _, h => by cases h.1
  | _ :: _, [], h => by cases h.1
  | (k, v) :: ps, (k', d) :: qs, h => by
    obtain ⟨e, r, t⟩ := h.cons_inv
    have e' : k = k' := e
    subst e'
    exact h1 k v d ps qs r t (KvR.ind h0 h1 t)
theorem KvR.cons {κ : Type} {k : κ} {v : V} {d : Dv} {ps : List (κ × V)} {qs : List (κ × Dv)} (r : Rp G w v d) (t : KvR G w ps qs) : KvR G w ((k, v) :: ps) ((k, d) :: qs) := ⟨by simp [t.1], .cons r t.2⟩
theorem KvR.app {κ : Type} {ps ps' : List (κ × V)} {qs qs' : List (κ × Dv)} (h : KvR G w ps qs) (h' : KvR G w ps' qs') : KvR G w (ps ++ ps') (qs ++ qs') := ⟨by simp [h.1, h'.1], by simp only [List.map_append]; exact h.2.append h'.2⟩
theorem KvR.mono {κ : Type} {w' : Wd} (e : Ext w w') {ps : List (κ × V)} {qs : List (κ × Dv)} (h : KvR G w ps qs) : KvR G w' ps qs := ⟨h.1, h.2.mono e⟩
section
variable {κ : Type} [DecidableEq κ]
theorem KvR.val {ps : List (κ × V)} {qs : List (κ × Dv)} (h : KvR G w ps qs) (k : κ) : (∃ v d, valV ps k = some v ∧ valD qs k = some d ∧ Rp G w v d) ∨ (valV ps k = none ∧ valD qs k = none) :=
  KvR.ind (P := fun ps qs => (∃ v d, valV ps k = some v ∧ valD qs k = some d ∧ Rp G w v d) ∨ (valV ps k = none ∧ valD qs k = none)) (.inr ⟨rfl, rfl⟩) (fun k' v d ps qs r t ih => by
    by_cases z : k' = k
    · refine .inl ⟨v, d, ?_, ?_, r⟩
      · simp [valV, z]
      · simp [valD, z]
    · have e1 : valV ((k', v) :: ps) k = valV ps k := by simp [valV, z]
      have e2 : valD ((k', d) :: qs) k = valD qs k := by simp [valD, z]
      rw [e1, e2]
      exact ih) h
theorem KvR.any {ps : List (κ × V)} {qs : List (κ × Dv)} (h : KvR G w ps qs) (k : κ) : (ps.any fun kv => decide (kv.1 = k)) = qs.any fun kv => decide (kv.1 = k) :=
  KvR.ind (P := fun ps qs => (ps.any fun kv => decide (kv.1 = k)) = qs.any fun kv => decide (kv.1 = k)) rfl (fun k' v d ps qs r t ih => by simp only [List.any_cons, ih]) h
theorem KvR.put {ps : List (κ × V)} {qs : List (κ × Dv)} (h : KvR G w ps qs) (k : κ) {v : V} {d : Dv} (r : Rp G w v d) : KvR G w (putK ps k v) (putD2 qs k d) := by
  unfold putK putD2
  rw [h.any k]
  by_cases z : (qs.any fun kv => decide (kv.1 = k)) = true
  · rw [if_pos z, if_pos z]
    refine KvR.ind (P := fun ps qs => KvR G w (ps.map fun kv => if kv.1 = k then (kv.1, v) else kv) (qs.map fun kv => if kv.1 = k then (kv.1, d) else kv)) .nil (fun k' v' d' ps qs r' t ih => ?_) h
    simp only [List.map_cons]
    by_cases y : k' = k
    · rw [if_pos y, if_pos y]; exact ih.cons r
    · rw [if_neg y, if_neg y]; exact ih.cons r'
  · rw [if_neg z, if_neg z]
    exact h.app (.cons r .nil)
theorem putD2_len (qs : List (κ × Dv)) (k : κ) (d : Dv) : (putD2 qs k d).length ≤ qs.length + 1 := by
  unfold putD2
  split
  · simp
  · simp
end
/-- what is a dict, and what it holds at a key -/
def dLook (o k : Dv) (S : Store) : Option (Option Dv) := match o with
  | .dic kvs => (keyD k).map (valD kvs)
  | .dit kvs => (rowD k).map (valD kvs)
  | .obj n => match S[n]? with
    | some (.dic kvs) => (keyD k).map (valD kvs)
    | some (.dit kvs) => (rowD k).map (valD kvs)
    | _ => none
  | _ => none
theorem dlk_t {a : Addr} {kvs' : List (List Key × V)} {kvs : List (List Key × Dv)} {v : V} {d : Dv} {r : Option Dv} (ha : Rd w.H a (.dT kvs')) (t : KvR G w kvs' kvs) (rk : Rp G w v d) (h : (rowD d).map (valD kvs) = some r) :
    ∃ o, DGet w.H a v o ∧ ((∃ x y, o = some x ∧ r = some y ∧ Rp G w x y) ∨ (o = none ∧ r = none)) := by
  cases e : rowD d with
  | none => rw [e] at h; cases h
  | some k =>
    rw [e] at h
    cases h
    obtain ⟨b, rfl, hb⟩ := rowD_ok rk e
    refine ⟨valV kvs' k, .inr ⟨kvs', k, b, ha, rfl, hb, rfl⟩, ?_⟩
    rcases t.val k with ⟨x, y, h1, h2, h3⟩ | ⟨h1, h2⟩
    · exact .inl ⟨x, y, h1, h2, h3⟩
    · exact .inr ⟨h1, h2⟩
theorem dlk_k {a : Addr} {kvs' : List (Key × V)} {kvs : List (Key × Dv)} {v : V} {d : Dv} {r : Option Dv} (ha : Rd w.H a (.dK kvs')) (t : KvR G w kvs' kvs) (rk : Rp G w v d) (h : (keyD d).map (valD kvs) = some r) :
    ∃ o, DGet w.H a v o ∧ ((∃ x y, o = some x ∧ r = some y ∧ Rp G w x y) ∨ (o = none ∧ r = none)) := by
  cases e : keyD d with
  | none => rw [e] at h; cases h
  | some k =>
    rw [e] at h
    cases h
    refine ⟨valV kvs' k, .inl ⟨kvs', k, ha, keyD_ok rk e, rfl⟩, ?_⟩
    rcases t.val k with ⟨x, y, h1, h2, h3⟩ | ⟨h1, h2⟩
    · exact .inl ⟨x, y, h1, h2, h3⟩
    · exact .inr ⟨h1, h2⟩
theorem dlk_ok {S : Store} {o k : Dv} {x v : V} {r : Option Dv} (s : SOk G w S) (ro : Rp G w x o) (rk : Rp G w v k) (h : dLook o k S = some r) :
    ∃ a u, x = .ref a ∧ DGet w.H a v u ∧ ((∃ y z, u = some y ∧ r = some z ∧ Rp G w y z) ∨ (u = none ∧ r = none)) := by
  cases ro <;> first | (cases h; done) | skip
  · rename_i a n ha
    unfold dLook at h
    cases e : S[n]? with
    | none => simp only [e] at h; cases h
    | some d =>
      simp only [e] at h
      have m := s.cont n a d ha e
      cases d <;> first | (cases h; done) | skip
      · obtain ⟨kvs', h1, h2, h3⟩ := m
        obtain ⟨u, g1, g2⟩ := dlk_k (.inl h1) ⟨h2, h3⟩ rk h
        exact ⟨a, u, rfl, g1, g2⟩
      · obtain ⟨kvs', h1, h2, h3⟩ := m
        obtain ⟨u, g1, g2⟩ := dlk_t (.inl h1) ⟨h2, h3⟩ rk h
        exact ⟨a, u, rfl, g1, g2⟩
  · rename_i a kvs' kvs ha _ hk hr
    obtain ⟨u, g1, g2⟩ := dlk_k ha ⟨hk, hr⟩ rk h
    exact ⟨a, u, rfl, g1, g2⟩
  · rename_i a kvs' kvs ha _ hk hr
    obtain ⟨u, g1, g2⟩ := dlk_t ha ⟨hk, hr⟩ rk h
    exact ⟨a, u, rfl, g1, g2⟩
/-- is it a dict? -/
def isDct (o : Dv) (S : Store) : Bool := match o with
  | .dic _ => true
  | .dit _ => true
  | .obj n => match S[n]? with
    | some (.dic _) => true
    | some (.dit _) => true
    | _ => false
  | _ => false
theorem isDct_ok {S : Store} {o : Dv} {x : V} (s : SOk G w S) (ro : Rp G w x o) (h : isDct o S = true) : ∃ a, x = .ref a ∧ IsD w.H a := by
  cases ro <;> first | (cases h; done) | skip
  · rename_i a n ha
    unfold isDct at h
    cases e : S[n]? with
    | none => simp only [e] at h; cases h
    | some d =>
      simp only [e] at h
      have m := s.cont n a d ha e
      cases d <;> first | (cases h; done) | skip
      · obtain ⟨kvs', h1, _⟩ := m; exact ⟨a, rfl, .inl ⟨kvs', .inl h1⟩⟩
      · obtain ⟨kvs', h1, _⟩ := m; exact ⟨a, rfl, .inr ⟨kvs', .inl h1⟩⟩
  · rename_i a kvs' kvs ha _ hk hr; exact ⟨a, rfl, .inl ⟨kvs', ha⟩⟩
  · rename_i a kvs' kvs ha _ hk hr; exact ⟨a, rfl, .inr ⟨kvs', ha⟩⟩
end
/-! ### d[k], d.get(k), d.get(k, x), k in d -/
@[simp] def oDget : DOp := fun o k S => match dLook o k S with
  | some (some d) => some (.ok d S)
  | _ => none
@[simp] def oDin (neg : Bool) : DOp := fun k o S => match dLook o k S with
  | some r => some (.ok (.bl (if neg = true then !r.isSome else r.isSome)) S)
  | none => none
@[simp] def fDget1 (fo fk : FE) : FE := fun env => bnd (fo env) fun o S => if isDct o S = true then bnd (fk env) (fun k S => match dLook o k S with
  | some r => some (.ok (r.getD .non) S)
  | none => none) S else none
@[simp] def fDget2 (fo fk fx : FE) : FE := fun env => bnd (fo env) fun o S => if isDct o S = true then bnd (fk env) (fun k => bnd (fx env) fun x S => match dLook o k S with
  | some r => some (.ok (r.getD x) S)
  | none => none) S else none
section
variable {X : Cx} {ξ : Iv} {W : WX} {o i e f : Expr} {fo fi fx : FE} {pos apos cpos : Pos}
theorem d_dget (hu : X.A.units + 64 < cLine) (ho : DE X ξ W o fo) (hi : DE X ξ W i fi) (hs : NoSl i := by intro _ _; rfl) : DE X ξ W (.Subscript o i pos) (fOp oDget fo fi) :=
  PE.imp (pe_dget (by omega) ho hi hs) fun σ H Q ⟨w, env, S, res, eH, s, en, h, p⟩ => by
    subst eH
    refine seqR s en h p.px fun x S1 v w1 e1 s1 en1 r1 h1 => seqR s1 en1 h1 (p.px.mono e1 s1) fun k S2 u w2 e2 s2 en2 r2 h2 => ?_
    unfold oDget at h2
    cases hl : dLook x k S2 with
    | none => rw [hl] at h2; cases h2
    | some r =>
      rw [hl] at h2
      cases r with
      | none => cases h2
      | some d =>
        cases h2
        obtain ⟨a, y, ha, g, hy⟩ := dlk_ok s2 (r1.mono e2) r2 hl
        rcases hy with ⟨y', z, rfl, hz, rp⟩ | ⟨_, hz⟩
        · cases hz
          exact ⟨a, y', ha, g, p.ok_ (e1.trans e2) s2 rp⟩
        · cases hz
theorem d_dget1 (hu : X.A.units + 64 < cLine) (ho : DE X ξ W o fo) (hi : DE X ξ W e fi) (m : M1 X o "get" apos e cpos := by exact ⟨by rfl, by rfl, by rfl, by rfl⟩) : DE X ξ W (.Call (.Attribute o "get" apos) [e] [] cpos) (fDget1 fo fi) :=
  PE.imp (pe_dget1 (by omega) ho hi m) fun σ H Q ⟨w, env, S, res, eH, s, en, h, p⟩ => by
    subst eH
    refine seqR s en h p.px fun x S1 v w1 e1 s1 en1 r1 h1 => ?_
    by_cases z : isDct x S1 = true
    · rw [if_pos z] at h1
      obtain ⟨a, rfl, hd⟩ := isDct_ok s1 r1 z
      refine ⟨a, rfl, hd, seqR s1 en1 h1 (p.px.mono e1 s1) fun k S2 u w2 e2 s2 en2 r2 h2 => ?_⟩
      cases hl : dLook x k S2 with
      | none => rw [hl] at h2; cases h2
      | some r =>
        rw [hl] at h2
        cases h2
        obtain ⟨a', y, ha, g, hy⟩ := dlk_ok s2 (r1.mono e2) r2 hl
        cases ha
        refine ⟨y, g, ?_⟩
        rcases hy with ⟨y', z', rfl, rfl, rp⟩ | ⟨rfl, rfl⟩
        · exact p.ok_ (e1.trans e2) s2 rp
        · exact p.ok_ (e1.trans e2) s2 .non
    · rw [if_neg z] at h1; cases h1
theorem d_dget2 (hu : X.A.units + 64 < cLine) (ho : DE X ξ W o fo) (hi : DE X ξ W e fi) (hx : DE X ξ W f fx) (m : M2 X o "get" apos e f cpos := by exact ⟨by rfl, by rfl, by rfl, by rfl⟩) : DE X ξ W (.Call (.Attribute o "get" apos) [e, f] [] cpos) (fDget2 fo fi fx) :=
  PE.imp (pe_dget2 (by omega) ho hi hx m) fun σ H Q ⟨w, env, S, res, eH, s, en, h, p⟩ => by
    subst eH
    refine seqR s en h p.px fun x S1 v w1 e1 s1 en1 r1 h1 => ?_
    by_cases z : isDct x S1 = true
    · rw [if_pos z] at h1
      obtain ⟨a, rfl, hd⟩ := isDct_ok s1 r1 z
      refine ⟨a, rfl, hd, seqR s1 en1 h1 (p.px.mono e1 s1) fun k S2 u w2 e2 s2 en2 r2 h2 => seqR s2 en2 h2 ((p.px.mono e1 s1).mono e2 s2) fun y S3 t w3 e3 s3 en3 r3 h3 => ?_⟩
      cases hl : dLook x k S3 with
      | none => rw [hl] at h3; cases h3
      | some r =>
        rw [hl] at h3
        cases h3
        obtain ⟨a', q, ha, g, hy⟩ := dlk_ok s3 ((r1.mono e2).mono e3) (r2.mono e3) hl
        cases ha
        refine ⟨q, g, ?_⟩
        rcases hy with ⟨y', z', rfl, rfl, rp⟩ | ⟨rfl, rfl⟩
        · exact p.ok_ ((e1.trans e2).trans e3) s3 rp
        · exact p.ok_ ((e1.trans e2).trans e3) s3 r3
    · rw [if_neg z] at h1; cases h1
end
end FC

set_option Elab.async false
set_option linter.all false
set_option maxRecDepth 100000
set_option maxHeartbeats 4000000
namespace FC
open PySem PySem.Spec L2
/-! ### a new dict -/
@[simp] def newD (t m : Bool) : Mm Dv := fun S => match t, m with
  | true, false => some (.ok (.dit []) S)
  | true, true => some (.ok (.obj S.length) (S ++ [.dit []]))
  | false, false => some (.ok (.dic []) S)
  | false, true => some (.ok (.obj S.length) (S ++ [.dic []]))
@[simp] def fDnew (t m : Bool) : FE := fun _ => newD t m
section
variable {X : Cx} {ξ : Iv} {W : WX} {G : Gp} {w : Wd}
theorem Rp.new_dit {S : Store} {p : Addr} (h : SOk G w S) (hp : w.H p = none) {ps : List (List Key × V)} {qs : List (List Key × Dv)} (t : KvR G w ps qs) : Rp G (w.put p (.dT ps)) (.ref p) (.dit qs) :=
  .dit (.inl upd_same) (h.fresh hp) t.1 (t.2.mono (.put hp))
theorem Rp.new_dic {S : Store} {p : Addr} (h : SOk G w S) (hp : w.H p = none) {ps : List (Key × V)} {qs : List (Key × Dv)} (t : KvR G w ps qs) : Rp G (w.put p (.dK ps)) (.ref p) (.dic qs) :=
  .dic (.inl upd_same) (h.fresh hp) t.1 (t.2.mono (.put hp))
theorem d_dnewT (m : Bool) {pos : Pos} : DE X ξ W (.Dict [] [] pos) (fDnew true m) := PE.imp pe_dnewT fun σ H Q ⟨w, env, S, res, eH, s, en, h, p⟩ => fun q hq => by
  subst eH
  cases m with
  | false => cases h; exact p.ok_ (.put hq) (s.put hq) (Rp.new_dit s hq .nil)
  | true => cases h; exact p.ok_ (w' := w.add q (.dT [])) (.add hq) (s.add hq ⟨[], upd_same, rfl, .nil⟩) (Rp.add_obj s)
theorem d_dnewK (m : Bool) {pos : Pos} : DE X ξ W (.Dict [] [] pos) (fDnew false m) := PE.imp pe_dnewK fun σ H Q ⟨w, env, S, res, eH, s, en, h, p⟩ => fun q hq => by
  subst eH
  cases m with
  | false => cases h; exact p.ok_ (.put hq) (s.put hq) (Rp.new_dic s hq .nil)
  | true => cases h; exact p.ok_ (w' := w.add q (.dK [])) (.add hq) (s.add hq ⟨[], upd_same, rfl, .nil⟩) (Rp.add_obj s)
/-! ### d[k] = v -/
@[simp] def setD (o k v : Dv) (S : Store) : Option Store := match o with
  | .obj n => match S[n]? with
    | some (.dit kvs) => (match rowD k with
      | some ks => if kvs.length ≤ big then some (S.set n (.dit (putD2 kvs ks v))) else none
      | none => none)
    | some (.dic kvs) => (match keyD k with
      | some ks => if kvs.length ≤ big then some (S.set n (.dic (putD2 kvs ks v))) else none
      | none => none)
    | _ => none
  | _ => none
def sDput (fo fk fe : FE) : FS := sBnd fe fun v => sBnd fo fun o => sBnd fk fun k => fun env S => match setD o k v S with
  | some S' => some (.nx env S')
  | none => none
theorem s_dput {o i e : Expr} {fo fi fe : FE} {pos pos' : Pos} (hu : X.A.units + 64 < cLine) (he : DE X ξ W e fe) (ho : DE X ξ W o fo) (hi : DE X ξ W i fi) (hs : swapsWith e (some (.Subscript o i pos')) pos.line X.env = pure false := by rfl) :
    DS X ξ W (.Assign [.Subscript o i pos'] e pos) (sDput fo fi fe) := PS.imp (ps_dput (by omega) ho hi he hs) fun D σ H ⟨w, env, S, r, eH, s, en, h, p⟩ => by
  subst eH
  refine seqS s en h p.px fun d S1 v w1 e1 s1 en1 r1 h1 => seqS s1 en1 h1 (p.mono e1).px fun o S2 ov w2 e2 s2 en2 r2 h2 => seqS s2 en2 h2 (p.mono (e1.trans e2)).px fun i S3 iv w3 e3 s3 en3 r3 h3 => ?_
  cases q : setD o i d S3 with
  | none => rw [q] at h3; cases h3
  | some S4 =>
    rw [q] at h3
    cases h3
    cases o <;> first | (cases q; done) | skip
    rename_i n
    cases r2.mono e3 with
    | obj ha =>
      rename_i a
      unfold setD at q
      cases hS : S3[n]? with
      | none => simp only [hS] at q; cases q
      | some dd =>
        simp only [hS] at q
        have m := s3.cont n a _ ha hS
        cases dd <;> first | (cases q; done) | skip
        · rename_i kvs
          simp only at q
          cases ek : keyD i with
          | none => rw [ek] at q; cases q
          | some ks =>
            rw [ek] at q
            simp only at q
            by_cases z : kvs.length ≤ big
            · rw [if_pos z] at q
              cases q
              obtain ⟨kvs', hx, h2, h4⟩ := m
              have t : KvR (gp X) w3 kvs' kvs := ⟨h2, h4⟩
              have e4 : Ext w3 (w3.put a (.dK (putK kvs' ks v))) := .upd ha
              have t4 := (t.mono e4).put ks ((((r1.mono e2).mono e3).mono e4))
              exact ⟨a, upd w3.H a (.dK (putK kvs' ks v)), rfl, .inl ⟨kvs', ks, hx, keyD_ok r3 ek, by rw [t.len]; exact Nat.lt_of_le_of_lt z (by rw [sizeLine_eq]; decide), rfl⟩,
                p σ (w3.put a (.dK (putK kvs' ks v))) (((e1.trans e2).trans e3).trans e4) (s3.upd ha ⟨_, upd_same, t4.1, t4.2⟩) (en3.mono e4)⟩
            · rw [if_neg z] at q; cases q
        · rename_i kvs
          simp only at q
          cases ek : rowD i with
          | none => rw [ek] at q; cases q
          | some ks =>
            rw [ek] at q
            simp only at q
            by_cases z : kvs.length ≤ big
            · rw [if_pos z] at q
              cases q
              obtain ⟨kvs', hx, h2, h4⟩ := m
              have t : KvR (gp X) w3 kvs' kvs := ⟨h2, h4⟩
              have e4 : Ext w3 (w3.put a (.dT (putK kvs' ks v))) := .upd ha
              have t4 := (t.mono e4).put ks ((((r1.mono e2).mono e3).mono e4))
              obtain ⟨b, rfl, hb⟩ := rowD_ok r3 ek
              exact ⟨a, upd w3.H a (.dT (putK kvs' ks v)), rfl, .inr ⟨kvs', ks, b, hx, rfl, hb, by rw [t.len]; exact Nat.lt_of_le_of_lt z (by rw [sizeLine_eq]; decide), rfl⟩,
                p σ (w3.put a (.dT (putK kvs' ks v))) (((e1.trans e2).trans e3).trans e4) (s3.upd ha ⟨_, upd_same, t4.1, t4.2⟩) (en3.mono e4)⟩
            · rw [if_neg z] at q; cases q
/-! ### len(d) -/
@[simp] def oLenD : DCl := fun ds S => match ds with
  | [.dit kvs] => some (.ok (.int (kvs.length : Nat)) S)
  | [.obj n] => match S[n]? with
    | some (.dit kvs) => some (.ok (.int (kvs.length : Nat)) S)
    | _ => none
  | _ => none
def rLenD : List V → Hp → VK → Prop := fun xs H Q => ∃ (p : Addr) (kvs : List (List Key × V)), xs = [.ref p] ∧ Rd H p (.dT kvs) ∧ Q (.int ((kvs.length : Nat) : Int)) H
theorem call_lenD : CallR X (.builtin "len") rLenD := by
  intro pins s σ H xs us Q I r h
  obtain ⟨p, kvs, rfl, hp, q⟩ := h
  obtain ⟨u, rfl, rx⟩ := vals1 r
  obtain rfl : u = .ref p := rx
  obtain ⟨z, hd, ys, rel, dd⟩ := dt_rd I.hok hp
  have hl := Paired.length rel
  refine call_len_dictH hd dd (by rw [← hl]; rw [sizeLine_eq] at z; omega) ⟨.int ((kvs.length : Nat) : Int), H, I.tok _, ⟨_, by rw [hl]⟩, q⟩
theorem cd_lenD : CallD G (fun xs H Q => rLenD xs H Q) oLenD := by
  intro W w σ S xs ds res Q s r h p
  unfold oLenD at h
  split at h
  · cases h
    obtain ⟨v, rfl, hv⟩ := rp1 r
    cases hv with
    | dit ha _ hk hr =>
      rename_i kvs _ _
      refine ⟨_, _, rfl, ha, ?_⟩
      have := KvR.len (G := G) (w := w) ⟨hk, hr⟩
      rw [this]
      exact p.here s (.int _)
  · rename_i n
    obtain ⟨v, rfl, hv⟩ := rp1 r
    cases hv with
    | @obj a _ ha =>
      cases e : S[n]? with
      | none => rw [e] at h; cases h
      | some d =>
        rw [e] at h
        cases d <;> first | (cases h; done) | skip
        cases h
        obtain ⟨kvs', h1, h2, h3⟩ := s.cont n a _ ha e
        refine ⟨a, kvs', rfl, .inl h1, ?_⟩
        have := KvR.len (G := G) (w := w) ⟨h2, h3⟩
        rw [this]
        exact p.here s (.int _)
  · cases h
end
end FC

set_option Elab.async false
set_option linter.all false
set_option maxRecDepth 100000
set_option maxHeartbeats 4000000
namespace FC
open PySem PySem.Spec L2 PyProof.Rows
/-! ### {k: v for ..} whose keys are rows: on the machine -/
/-- what is asked of one more pair -/
def Pair1 (D : Addr) (Nx : Hp → Prop) (y z : V) (H : Hp) : Prop := ∃ (kvs : List (List Key × V)) (k : List Key) (c : Addr), y = .ref c ∧ H c = some (.tup (k.map kV)) ∧ H D = some (.dT kvs) ∧ kvs.length < sizeLine ∧ Nx (upd H D (.dT (putK kvs k z)))
/-- what is asked of one turn -/
def Turn1 (g : TG) (tt : TT) (tk tv : TE) (vs : List Nat) (σ : L2.St) (D : Addr) (Nx : Hp → Prop) (x : V) (H : Hp) : Prop :=
  g x (wipe σ vs) H fun σ' H' => wipe σ' vs = wipe σ vs ∧ tt σ' H' fun b H'' => if b = true then tk σ' H'' fun y Hy => tv σ' Hy fun z Hz => Pair1 D Nx y z Hz else Nx H''
def tDcT (wi : TI) (g : TG) (tt : TT) (tk tv : TE) (vs : List Nat) : TE := fun σ H Q => wi σ H fun J H1 => ∀ D, H1 D = none → ∃ R : Nat → Nat → Hp → Prop, (∃ m, R 0 m (upd H1 D (.dT []))) ∧
  ∀ i m H2, R i m H2 → (J.stop i H2 ∧ Q (.ref D) H2) ∨ (J.go i H2 ∧ ∃ Nx : Hp → Prop, (∀ H3, Nx H3 → ∃ m', m' < m ∧ R (i + 1) m' H3) ∧ ∀ x H3, J.yld i H2 x H3 → Turn1 g tt tk tv vs σ D Nx x H3)
theorem put_row {X : Cx} {pins : List (Addr × Obj)} {σ : L2.St} {H : Hp} {s : Shared} {E : Value → Shared → Prop} {D c : Addr} {kvs : List (List Key × V)} {k : List Key} {v : V} {r : Value} {Q : Unit → Shared → Prop} (hu : X.A.units < cLine) (I : Inv X pins σ H s) (hD : H D = some (.dT kvs)) (hz : kvs.length < sizeLine)
    (hc : H c = some (.tup (k.map kV))) (rv : RelV v r) (h : ∀ s', Inv X pins σ (upd H D (.dT (putK kvs k v))) s' → Q () s') : wpAny (model X.prog X.w) X.A (dictSet D (.ref c) r) Q E s := by
  have ⟨z, hd, xs, rel, dd⟩ := dt_of I.hok hD
  have z1 : xs.length ≤ sizeLine := Paired.length rel ▸ z
  have z2 : (putK kvs k v).length ≤ sizeLine := Nat.le_trans (length_putK kvs k v) hz
  exact wpAny_dictSet_heap (hsz := z1) (show (tupleKind (mixKind X.prog X.w)).room X.A from hu) (key_of I.hok hc) dd fun hp ⟨q, es, ep, y1, y2, y3, y4, _, y5⟩ same => h _
    (d_write I (hD ▸ True.intro) same ⟨q, y1⟩ ⟨z2, hd, storedH xs k c r, (rel.put k hc rv).keeps fun c' ys ec => (upd_ne (ne_of ec hD (fun t => nomatch t))).trans ec, q, es, ep, y1, y2, y3, y4, y5⟩)
section
variable {X : Cx}
theorem dcT_core {pins : List (Addr × Obj)} {s0 : Shared} {σ : L2.St} {H0 : Hp} {Q : VK} {pos' : Pos} {use : Option (Value → Sem Unit)} {Qf : Value → Shared → Prop} {kx vx tg iter : Expr} {ifs : List Expr} {scope : Scope} {own : List (Str × Nat)} {pos : Pos} {wi : TI} {g : TG} {tt : TT} {tk tv : TE} (hu : X.A.units < cLine) (hc : X.calm = true) (hN : X.N.Nodup) (hi : PI X tg iter wi) (ok : BlkOk X.N X.env.scope scope own)
    (hg : ∀ (t : Shared) (K : Hp) (C : Addr) (cl : List (Str × Addr)) (fp : List Addr), PG (X.blk t K scope (compEnvC scope cl C X.env) fp) tg g)
    (ht : ∀ (t : Shared) (K : Hp) (C : Addr) (cl : List (Str × Addr)) (fp : List Addr), PTs (X.blk t K scope (compEnvC scope cl C X.env) fp) ifs tt)
    (hk : ∀ (t : Shared) (K : Hp) (C : Addr) (cl : List (Str × Addr)) (fp : List Addr), PE (X.blk t K scope (compEnvC scope cl C X.env) fp) kx tk)
    (hv : ∀ (t : Shared) (K : Hp) (C : Addr) (cl : List (Str × Addr)) (fp : List Addr), PE (X.blk t K scope (compEnvC scope cl C X.env) fp) vx tv)
    (hs : ∀ x, foldedSetIterable iter X.env x = pure x) (I0 : Inv X pins σ H0 s0) (h0 : tDcT wi g tt tk tv (own.map (·.2)) σ H0 Q)
    (hRR : ∀ D C s' m H', Inv X pins σ H' s' → Q (.ref D) H' → s'.heap.Ns C m → FpOk X pins H' C → compPost (model X.prog X.w) X.A X.xe use Qf (.ref D) C (.ok .next) s') :
    wpAny (model X.prog X.w) X.A (comprehension (.DictComp kx vx [⟨tg, iter, ifs, 0⟩] scope pos) scope X.env pos' newDict false (eval iter X.env) use) Qf X.xe s0 := by
  have frees : ∀ y ∈ scope.names, y.2 = .free → ∃ c, X.env.cells.lookup y.1 = some c := fun y hy e => (ok.free y hy e).elim (fun k => I0.ok.has _ (.inl k)) (fun k => I0.ok.has _ (.inr k))
  refine wpAny_comprehension_free (use := use) rfl hs (closure_ok frees) ok.kind (fun y hy e => (ok.uniq y hy).trans (by rw [e]))
    (thn (hi.run pins s0 σ H0 _ I0 h0) fun _ _ hx => thn hx fun _ s2 ⟨it, fp, tn, J, H2, eit, I2, T, t2, f2, rest⟩ => ?_)
  subst eit
  refine wpAny_newObj_type (newEnv_comp ?_)
  generalize eD : s2.heap.objs.size = D
  obtain ⟨R, ⟨m0, r0⟩, turns⟩ := rest D (I2.hok.fresh (Nat.le_of_eq eD))
  generalize e3 : ({ s2 with heap := s2.heap.push { cls := .type "dict", data := .dict #[] } } : Shared) = s3
  have p3 : s3.heap = s2.heap.push { cls := .type "dict", data := .dict #[] } := e3 ▸ rfl
  have I3 : Inv X pins σ (upd H2 D (.dT [])) s3 := by
    subst e3
    exact I2.laid (t' := s2.toks) (fun _ _ e => Heap.get?_push_of_some _ e) (Nat.le_of_eq eD) (eD ▸ dt_empty s2.heap I2.big)
  have lt2 : ∀ b ∈ fp, b < s2.heap.objs.size := fun b hb => (T.obj _ _ t2 b hb).elim fun _ e => Heap.lt_size e.1
  have f3 : ∀ b ∈ fp, FpOk X pins (upd H2 D (.dT [])) b ∧ b < s3.heap.objs.size := fun b hb =>
    ⟨⟨(upd_ne (fun e => Nat.lt_irrefl _ (Nat.lt_of_lt_of_eq (lt2 b hb) (eD.trans e.symm)))).trans (f2 b hb).1, (f2 b hb).2⟩, by rw [p3, Heap.size_push]; exact Nat.lt_succ_of_lt (lt2 b hb)⟩
  have t3 : tn 0 s3.heap := T.keep _ _ _ t2 fun _ _ _ e => p3 ▸ Heap.get?_push_of_some _ e
  have I4 := block_start I3 ok hN f3
  have qg := hg s3 (upd H2 D (.dT [])) s3.heap.objs.size (cellsFrom (s3.heap.objs.size + 1) scope.names (cloFrom X.env.cells scope.names [])) fp
  have qt := ht s3 (upd H2 D (.dT [])) s3.heap.objs.size (cellsFrom (s3.heap.objs.size + 1) scope.names (cloFrom X.env.cells scope.names [])) fp
  have qk := hk s3 (upd H2 D (.dT [])) s3.heap.objs.size (cellsFrom (s3.heap.objs.size + 1) scope.names (cloFrom X.env.cells scope.names [])) fp
  have qv := hv s3 (upd H2 D (.dT [])) s3.heap.objs.size (cellsFrom (s3.heap.objs.size + 1) scope.names (cloFrom X.env.cells scope.names [])) fp
  show codeAny _ _ (.compStart (.DictComp kx vx [⟨tg, iter, ifs, 0⟩] scope pos) 0 (.ref it) (.ref D) (compEnvC scope (cellsFrom (s3.heap.objs.size + 1) scope.names (cloFrom X.env.cells scope.names [])) s3.heap.objs.size X.env))
    (compPost (model X.prog X.w) X.A X.xe use Qf (.ref D) s3.heap.objs.size) { s3 with heap := pushCells (s3.heap.push { cls := .type "dict", data := .dict #[] }) scope.names }
  have nf : ∀ b ∈ fp, (upd H2 D (.dT [])) b = none := fun b hb => (f3 b hb).1.1
  generalize eE : compEnvC scope (cellsFrom (s3.heap.objs.size + 1) scope.names (cloFrom X.env.cells scope.names [])) s3.heap.objs.size X.env = ce at I4 qg qt qk qv ⊢
  have eL : ce.locals = s3.heap.objs.size := eE ▸ rfl
  generalize eH : upd H2 D (.dT []) = H3 at I3 I4 qg qt qk qv r0 nf f3
  generalize e4 : ({ s3 with heap := pushCells (s3.heap.push { cls := .type "dict", data := .dict #[] }) scope.names } : Shared) = s4 at I4 ⊢
  have t4 : tn 0 s4.heap := T.keep _ _ _ t3 fun _ _ _ e => e4 ▸ pushCells_keeps _ _ _ _ (Heap.get?_push_of_some _ e)
  have out : ∀ {σ' : L2.St} {H' : Hp} {s' : Shared}, Inv (X.blk s3 H3 scope ce fp) [] σ' H' s' → (∀ b ∈ fp, H' b = none) → ∀ b ∈ fp, FpOk (X.blk s3 H3 scope ce fp) [] H' b := fun {σ' H' s'} I' no b hb =>
    ⟨no b hb, (I'.ok.exf b hb).1, I'.ok.exfs b hb, .inl hb, fun y d e => (I'.ok.exf b hb).2 y d e, fun q hq => by simp at hq⟩
  let Keep : Nat → Shared → Prop := fun n t => ∃ i H', Inv (X.blk s3 H3 scope ce fp) [] (wipe σ (own.map (·.2))) H' t ∧ tn i t.heap ∧ (∀ b ∈ fp, H' b = none) ∧ R i n H'
  refine codeAny_compStart_dict ?loop (T.self X.A 0 _ _ _ t4 ?loop)
  refine compLoop_anyD Keep (fun n s5 ⟨i, H5, I5, t5, n5, r5⟩ => ?_) m0 ⟨0, H3, I4, t4, nf, r0⟩
  rcases turns i n H5 r5 with ⟨halt, fin⟩ | ⟨go, Nx, later, one⟩
  · refine thnF (T.done (X.blk s3 H3 scope ce fp) rfl rfl rfl hc i [] s5 _ H5 (fun _ _ => False) I5 (out I5 n5) t5 halt) fun _ s6 ⟨er, I6⟩ => ?_
    subst er
    have J6 : Inv X pins σ H5 s6 := I3.call' (ch := fp) I6.os I6.base I6.hok I6.bare fun b hb => ⟨(f3 b hb).1.2.2.2.1, (f3 b hb).1.2.1, (f3 b hb).1.2.2.2.2.1, (f3 b hb).1.2.2.2.2.2⟩
    have vac : H5 s3.heap.objs.size = none := eL ▸ (show H5 ce.locals = none from I6.free)
    obtain ⟨m, hn, _⟩ := I6.loc
    exact hRR D s3.heap.objs.size s6 m H5 J6 fin (eL ▸ (show s6.heap.Ns ce.locals m from hn)) (I3.fpOk (Nat.le_refl _) vac)
  · refine thnF (T.item (X.blk s3 H3 scope ce fp) rfl rfl rfl hc i [] s5 _ H5 (fun _ _ => False) I5 (out I5 n5) t5 go) fun _ s6 ⟨_, er, h6⟩ => ?_
    subst er
    refine thnF h6 fun _ s7 ⟨x, H7, I7, r7, y7, t7, n7⟩ => ?_
    have P7 := I7.pinned (out I7 n7) (T.obj _ _ t7)
    refine thnF (qg.run _ s7 _ H7 x _ _ P7 r7 (one x H7 y7)) fun _ s8 ⟨σ8, H8, I8, w8, q8⟩ => thnF (qt.run _ s8 σ8 H8 _ I8 q8) fun b s9 ⟨H9, I9, q9⟩ => ?_
    have next : ∀ {t : Shared} {H' : Hp}, Inv (X.blk s3 H3 scope ce fp) ([] ++ pinsAt fp s7.heap) σ8 H' t → Nx H' → ∃ m, m < n ∧ Keep m t := fun {t H'} I' nx => by
      obtain ⟨m', lt, r'⟩ := later H' nx
      have still : ∀ b ∈ fp, ∀ o, s7.heap.get? b = some o → t.heap.get? b = some o ∧ H' b = none := fun b hb o e =>
        have z := I'.pin (b, o) (List.mem_append_right _ (List.mem_append_right _ (mem_pinsAt hb e)))
        ⟨z.1, z.2.1⟩
      refine ⟨m', lt, i + 1, H', (I'.unpinned (pins := [])).weak (by rw [← w8, wipe_length]) (fun j v e => (wipe_some (w8 ▸ e)).1), T.keep _ _ _ t7 fun b hb o e => (still b hb o e).1, fun b hb => ?_, r'⟩
      obtain ⟨o, e, _⟩ := T.obj _ _ t7 b hb
      exact (still b hb o e).2
    cases b with
    | false => exact next I9 q9
    | true =>
      refine thnF (qk.run _ s9 σ8 H9 _ I9 q9) fun _ s10 ⟨yk, Ha, Ia, ra, qa⟩ => thnF (qv.run _ s10 σ8 Ha _ Ia qa) fun _ s11 ⟨yv, Hb, Ib, rb, kvs, k, c, ek, hkc, hD, hz, nx⟩ => ?_
      subst ek
      cases ra
      exact put_row (X := X.blk s3 H3 scope ce fp) hu Ib hD hz hkc rb fun s12 I12 => next I12 nx
theorem pe_dcT {kx vx tg iter : Expr} {ifs : List Expr} {scope : Scope} {own : List (Str × Nat)} {pos : Pos} {wi : TI} {g : TG} {tt : TT} {tk tv : TE} (hu : X.A.units < cLine) (hc : X.calm = true) (hN : X.N.Nodup) (hi : PI X tg iter wi) (ok : BlkOk X.N X.env.scope scope own)
    (hg : ∀ (t : Shared) (K : Hp) (C : Addr) (cl : List (Str × Addr)) (fp : List Addr), PG (X.blk t K scope (compEnvC scope cl C X.env) fp) tg g)
    (ht : ∀ (t : Shared) (K : Hp) (C : Addr) (cl : List (Str × Addr)) (fp : List Addr), PTs (X.blk t K scope (compEnvC scope cl C X.env) fp) ifs tt)
    (hk : ∀ (t : Shared) (K : Hp) (C : Addr) (cl : List (Str × Addr)) (fp : List Addr), PE (X.blk t K scope (compEnvC scope cl C X.env) fp) kx tk)
    (hv : ∀ (t : Shared) (K : Hp) (C : Addr) (cl : List (Str × Addr)) (fp : List Addr), PE (X.blk t K scope (compEnvC scope cl C X.env) fp) vx tv)
    (hs : ∀ x, foldedSetIterable iter X.env x = pure x := by intro _; rfl) : PE X (.DictComp kx vx [⟨tg, iter, ifs, 0⟩] scope pos) (tDcT wi g tt tk tv (own.map (·.2))) := by
  refine ⟨fun pins s σ H Q I h => ?_⟩
  rw [arm_eval_DictComp]
  refine dcT_core hu hc hN hi ok hg ht hk hv hs I h fun D C s' m H' I' q hn f => ⟨m, hn, fun h'' sb => ?_⟩
  obtain ⟨f0, f1, f2, f3, f4, f5⟩ := f
  exact ⟨.ref D, H', I'.turned (t' := s'.toks) (fun b o hb e => (sb.2 b hb).trans e) f0 f1 f3 f4 f5, rfl, q⟩
theorem ps_setDcT {i : Nat} {y : Str} {py spos : Pos} {kx vx tg iter : Expr} {ifs : List Expr} {scope : Scope} {own : List (Str × Nat)} {pos : Pos} {wi : TI} {g : TG} {tt : TT} {tk tv : TE} (hu : X.A.units < cLine) (hc : X.calm = true) (hN : X.N.Nodup) (hy : X.N[i]? = some y) (hyl : X.env.scope.names.lookup y = some .local) (hsw : swapsWith (.DictComp kx vx [⟨tg, iter, ifs, 0⟩] scope pos) (some (.Name y py)) spos.line X.env = pure true) (hi : PI X tg iter wi) (ok : BlkOk X.N X.env.scope scope own)
    (hg : ∀ (t : Shared) (K : Hp) (C : Addr) (cl : List (Str × Addr)) (fp : List Addr), PG (X.blk t K scope (compEnvC scope cl C X.env) fp) tg g)
    (ht : ∀ (t : Shared) (K : Hp) (C : Addr) (cl : List (Str × Addr)) (fp : List Addr), PTs (X.blk t K scope (compEnvC scope cl C X.env) fp) ifs tt)
    (hk : ∀ (t : Shared) (K : Hp) (C : Addr) (cl : List (Str × Addr)) (fp : List Addr), PE (X.blk t K scope (compEnvC scope cl C X.env) fp) kx tk)
    (hv : ∀ (t : Shared) (K : Hp) (C : Addr) (cl : List (Str × Addr)) (fp : List Addr), PE (X.blk t K scope (compEnvC scope cl C X.env) fp) vx tv)
    (hs : ∀ x, foldedSetIterable iter X.env x = pure x := by intro _; rfl) : PS X (.Assign [.Name y py] (.DictComp kx vx [⟨tg, iter, ifs, 0⟩] scope pos) spos) (tAsg (tDcT wi g tt tk tv (own.map (·.2))) (gName i)) := by
  refine ⟨fun pins s σ H D I h => ?_⟩
  rw [exec_Assign_Name_used _ _ _ _ hsw]
  refine wpAny_bind (wpAny_standAt (wpAny_bind ?_))
  show wpAny _ X.A (do let _ ← comprehension (.DictComp kx vx [⟨tg, iter, ifs, 0⟩] scope pos) scope X.env (firstIterPos [⟨tg, iter, ifs, 0⟩] pos) newDict false (eval iter X.env) (some (assign (.Name y py) X.env))) _ _ s
  have h : tDcT wi g tt tk tv (own.map (·.2)) σ H (fun x H1 => gName i x σ H1 D.nx) := h
  refine wpAny_bind (thn (dcT_core (Qf := fun _ s' => SP X pins D .next s') hu hc hN hi ok hg ht hk hv hs I h fun L C s' m H' I' q hn f => ?_) fun _ s' hq => wpAny_pure (wpAny_pure hq))
  show wpAny _ _ (assign (.Name y py) X.env (.ref L)) _ _ _
  refine wpAny_assign_Name (store_ok2 (v := V.ref L) I' hN hy (.inl hyl) rfl (fun s2 I2 ⟨a, sb, ha⟩ => ?_) (.inr hyl))
  obtain ⟨f0, f1, f2, f3, f4, f5⟩ := f
  have haC : C ≠ a := by
    rcases ha with z | z
    · rw [z]; exact f1
    · exact fun e => f4 y a z e.symm
  refine ⟨m, hn.sameBut sb haC, fun h3 sb3 => ?_⟩
  exact ⟨_, H', I2.turned (t' := s2.toks) (fun b o hb e => (sb3.2 b hb).trans e) f0 f1 f3 f4 f5, q⟩
theorem sw_dict {kx vx : Expr} {gs : List Comprehension} {scope : Scope} {pos py : Pos} {y : Str} {l : Nat} {env : Env} (hk : env.scope.kind = .function) (hy : env.scope.names.lookup y = some .local) (hl : (py.line == pos.line) = true)
    (ha : (scope.names.any fun (n, k) => n == y && (k == .local || k == .cell)) = false) : swapsWith (.DictComp kx vx gs scope pos) (some (.Name y py)) l env = pure true := by
  have ky : env.kindOf y = some .local := hy
  have hb : env.blockKind = .function := by unfold Env.blockKind; rw [hk]; rfl
  unfold swapsWith
  simp only [hb, ky, ha, Expr.pos, hl]
  rfl
end
end FC

set_option Elab.async false
set_option linter.all false
set_option maxRecDepth 100000
set_option maxHeartbeats 4000000
namespace FC
open PySem PySem.Spec L2
/-! ### {k: v for ..} whose keys are rows: as data -/
def compD (b : Bd) (ft : FT) (fk fv : FE) (env0 : DEnv) : List Dv → List (List Key × Dv) → Mm (List (List Key × Dv))
  | [], acc => ret acc
  | d :: r, acc => fun S => match b d env0 with
    | none => none
    | some env1 => match ft env1 S with
      | some (.ok false S1) => compD b ft fk fv env0 r acc S1
      | some (.ok true S1) => match fk env1 S1 with
        | some (.ok k S2) => match rowD k, fv env1 S2 with
          | some ks, some (.ok y S3) => if acc.length ≤ big then compD b ft fk fv env0 r (putD2 acc ks y) S3 else none
          | _, _ => none
        | _ => none
      | _ => none
@[simp] def fDcT (fi : FI) (own : List Nat) (b : Bd) (ft : FT) (fk fv : FE) : FE := fun env => bnd (fi env) fun items => bnd (compD b ft fk fv (wipeD env own) items []) fun kvs => ret (.dit kvs)
theorem compD_cons {b : Bd} {ft : FT} {fk fv : FE} {env0 : DEnv} {d : Dv} {r : List Dv} {acc : List (List Key × Dv)} {S : Store} {res : Rs (List (List Key × Dv))} (h : compD b ft fk fv env0 (d :: r) acc S = some res) :
    ∃ env1, b d env0 = some env1 ∧ ((∃ S1, ft env1 S = some (.ok false S1) ∧ compD b ft fk fv env0 r acc S1 = some res) ∨
      ∃ S1 k S2 ks y S3, ft env1 S = some (.ok true S1) ∧ fk env1 S1 = some (.ok k S2) ∧ rowD k = some ks ∧ fv env1 S2 = some (.ok y S3) ∧ acc.length ≤ big ∧ compD b ft fk fv env0 r (putD2 acc ks y) S3 = some res) := by
  unfold compD at h
  split at h
  · cases h
  · rename_i env1 e1
    refine ⟨env1, e1, ?_⟩
    split at h
    · rename_i S1 e2
      exact .inl ⟨S1, e2, h⟩
    · rename_i S1 e2
      split at h
      · rename_i k S2 e3
        split at h
        · rename_i ks y S3 e4 e5
          by_cases z : acc.length ≤ big
          · rw [if_pos z] at h
            exact .inr ⟨S1, k, S2, ks, y, S3, e2, e3, e4, e5, z, h⟩
          · rw [if_neg z] at h; cases h
        · cases h
      · cases h
    · cases h
theorem compD_ok {b : Bd} {ft : FT} {fk fv : FE} {env0 : DEnv} : ∀ {items : List Dv} {acc : List (List Key × Dv)} {S : Store} {res : Rs (List (List Key × Dv))}, compD b ft fk fv env0 items acc S = some res → ∃ ys S2, res = .ok ys S2
  | [], acc, S, res, h => by cases h; exact ⟨acc, S, rfl⟩
  | d :: r, acc, S, res, h => by
    obtain ⟨env1, _, ⟨S1, _, h2⟩ | ⟨S1, k, S2, ks, y, S3, _, _, _, _, _, h2⟩⟩ := compD_cons h
    · exact compD_ok h2
    · exact compD_ok h2
section
variable {X : Cx} {ξ : Iv} {W : WX} {G : Gp}
theorem KvR.wk {κ : Type} {w w' : Wd} (e : Wk w w') {ps : List (κ × V)} {qs : List (κ × Dv)} (h : KvR G w ps qs) : KvR G w' ps qs := ⟨h.1, h.2.wk e⟩
theorem KvR.less {κ : Type} {w w' : Wd} (e : Less w w') {ps : List (κ × V)} {qs : List (κ × Dv)} (h : KvR G w ps qs) : KvR G w' ps qs := ⟨h.1, h.2.less e⟩
/-- the state within: what is made so far stands at D -/
structure Dcs (G : Gp) (w1 : Wd) (D : Addr) (w2 : Wd) (S2 : Store) (ps : List (List Key × V)) (acc : List (List Key × Dv)) : Prop where
  e : Ext w1 w2
  s : SOk G w2 S2
  m : D ∈ w2.M0
  n : D ∉ w2.as
  h : w2.H D = some (.dT ps)
  r : KvR G w2 ps acc
theorem Dcs.go {w1 w2 w3 : Wd} {D : Addr} {S2 S3 : Store} {ps : List (List Key × V)} {acc : List (List Key × Dv)} (c : Dcs G w1 D w2 S2 ps acc) (e : Ext w2 w3) (s : SOk G w3 S3) : Dcs G w1 D w3 S3 ps acc :=
  ⟨c.e.trans e, s, e.m0 D c.m, e.na D _ c.h c.n, e.kpM (.inl c.m) c.n c.h, c.r.mono e⟩
theorem Dcs.app {w1 w2 : Wd} {D : Addr} {S2 : Store} {ps : List (List Key × V)} {acc : List (List Key × Dv)} (c : Dcs G w1 D w2 S2 ps acc) (hD : w1.H D = none) {v : V} {y : Dv} (k : List Key) (ry : Rp G w2 v y) :
    Dcs G w1 D (w2.put D (.dT (putK ps k v))) S2 (putK ps k v) (putD2 acc k y) := by
  have wk : Wk w2 (w2.put D (.dT (putK ps k v))) := ⟨fun _ _ h => h, fun _ _ _ n => n, fun a o n h => .inl ((upd_ne (fun z => n (by rw [z]; exact .inl c.m))).trans h)⟩
  refine ⟨⟨c.e.as, c.e.m0, c.e.na, c.e.nM, fun a o n h => by have e := c.e.keep a o n h; rw [← upd_ne (H := w2.H) (ne_of_none h hD)] at e; exact e⟩, ⟨c.s.nd, c.s.len, fun a ha => ?_, c.s.dj, fun i a d h1 h2 => ?_⟩, c.m, c.n, upd_same, (c.r.wk wk).put k (ry.wk wk)⟩
  · by_cases z : a = D
    · subst z; exact ⟨_, upd_same, True.intro⟩
    · obtain ⟨o, ho, nt⟩ := c.s.dom a ha
      exact ⟨o, (upd_ne z).trans ho, nt⟩
  · have z : a ≠ D := fun q => c.n (by rw [← q]; exact List.mem_of_getElem? h1)
    exact (c.s.cont i a d h1 h2).wk wk (upd_ne z)
theorem Dcs.out {w1 w2 : Wd} {σ : L2.St} {D : Addr} {S1 S2 : Store} {ps : List (List Key × V)} {acc : List (List Key × Dv)} {Q : VK} (c : Dcs G w1 D w2 S2 ps acc) (s1 : SOk G w1 S1) (hD : w1.H D = none) (p : PR G W (Rp G) w1 σ (.ok (.dit acc) S2) Q) : Q (.ref D) w2.H := by
  have nD : ∀ a ∈ w1.M0, a ≠ D := fun a ha z => by
    obtain ⟨o, ho, _⟩ := s1.dom a ha
    rw [z, hD] at ho
    cases ho
  have L : Less w2 ⟨w2.H, w2.as, w2.M0.filter (fun a => decide (a ≠ D))⟩ := ⟨rfl, fun a h => h.elim (fun h => .inl (List.mem_filter.mp h).1) .inr, fun _ _ h => h⟩
  refine p.ok_ (w' := ⟨w2.H, w2.as, w2.M0.filter (fun a => decide (a ≠ D))⟩) ⟨c.e.as, fun a ha => List.mem_filter.mpr ⟨c.e.m0 a ha, decide_eq_true (nD a ha)⟩, c.e.na, fun a o h n z => c.e.nM a o h n (L.M a z), c.e.keep⟩ ?_ ?_
  · exact ⟨c.s.nd, c.s.len, fun a ha => c.s.dom a (List.mem_filter.mp ha).1, fun a ha z => c.s.dj a ha (List.mem_filter.mp z).1, fun i a d h1 h2 => (c.s.cont i a d h1 h2).less L⟩
  · refine .dit (.inl c.h) ?_ c.r.1 (c.r.2.less L)
    rintro (z | z)
    · exact of_decide_eq_true (List.mem_filter.mp z).2 rfl
    · exact c.n z
section
variable {tg iter kx vx : Expr} {ifs : List Expr} {scope : Scope} {own : List (Str × Nat)} {pos : Pos} {fi : FI} {sl : List Nat} {b : Bd} {ft : FT} {fk fv : FE}
theorem dc_body (hsl : ∀ i ∈ sl, i ∈ own.map (·.2)) (hok : ∀ v ∈ own.map (·.2), ξ.ok v) : ∀ σ H Q, tD G ξ W (fDcT fi (own.map (·.2)) b ft fk fv) σ H Q → tDcT (tI G ξ W fi) (gD G ξ sl b) (tDT G ξ W0 ft) (tD G ξ W0 fk) (tD G ξ W0 fv) (own.map (·.2)) σ H Q := fun σ H Q ⟨w, env, S, res, eH, s, en, h, p⟩ => by
  subst eH
  refine seqR s en h p.px fun items S1 J w1 e1 s1 en1 ok h1 => fun D hD => ?_
  have p1 := p.mono e1 s1
  unfold bnd at h1
  cases hc : compD b ft fk fv (wipeD env (own.map (·.2))) items [] S1 with
  | none => rw [hc] at h1; cases h1
  | some r1 =>
    rw [hc] at h1
    obtain ⟨ys, Sf, rfl⟩ := compD_ok hc
    cases h1
    have start : Dcs G w1 D ⟨upd w1.H D (.dT []), w1.as, D :: w1.M0⟩ S1 [] [] := by
      have ex : Ext w1 ⟨upd w1.H D (.dT []), w1.as, D :: w1.M0⟩ := ⟨⟨[], by simp⟩, fun a ha => List.mem_cons_of_mem _ ha, fun _ _ _ n => n, fun a o ho n z => by
        rcases z with z | z
        · exact (List.mem_cons.mp z).elim (ne_of_none ho hD) fun z => n (.inl z)
        · exact n (.inr z), fun a o _ ho => .inl ((upd_ne (ne_of_none ho hD)).trans ho)⟩
      refine ⟨ex, ⟨s1.nd, s1.len, fun a ha => ?_, fun a ha z => ?_, fun i a d q1 q2 => ?_⟩, List.mem_cons_self, fun z => s1.fresh hD (.inr z), upd_same, .nil⟩
      · rcases List.mem_cons.mp ha with z | z
        · subst z; exact ⟨_, upd_same, True.intro⟩
        · obtain ⟨o, ho, nt⟩ := s1.dom a z
          exact ⟨o, (upd_ne (ne_of_none ho hD)).trans ho, nt⟩
      · rcases List.mem_cons.mp z with z | z
        · subst z; exact s1.fresh hD (.inr ha)
        · exact s1.dj a ha z
      · have q := s1.cont i a d q1 q2
        obtain ⟨o, ho⟩ := q.there
        exact q.mono ex (upd_ne (ne_of_none ho hD))
    let Mid : Nat → Hp → Prop := fun i H => i ≤ items.length ∧ ∃ w2 S2 ps acc, w2.H = H ∧ Dcs G w1 D w2 S2 ps acc ∧ compD b ft fk fv (wipeD env (own.map (·.2))) (items.drop i) acc S2 = some (.ok ys Sf)
    refine ⟨fun i k H => k = items.length - i ∧ Mid i H, ⟨items.length, rfl, Nat.zero_le _, ⟨upd w1.H D (.dT []), w1.as, D :: w1.M0⟩, S1, [], [], rfl, start, hc⟩, ?_⟩
    rintro i k H' ⟨rfl, hi, w2, S2, ps, acc, rfl, c, hcm⟩
    obtain ⟨go, stop, yld⟩ := ok w2 S2 c.e c.s
    by_cases hlt : i < items.length
    · refine .inr ⟨go i hlt, Mid (i + 1), fun H' hN => ⟨items.length - (i + 1), by omega, rfl, hN⟩, fun x H' hy => ?_⟩
      obtain ⟨w3, rfl, e3, s3, rx⟩ := yld i _ x H' (List.getElem?_eq_getElem hlt) hy
      rw [List.drop_eq_getElem_cons hlt] at hcm
      obtain ⟨env1, hb, hcases⟩ := compD_cons hcm
      have c3 := c.go e3 s3
      refine ⟨w3, S2, wipeD env (own.map (·.2)), items[i], env1, rfl, s3, ((en1.mono c.e).mono e3).wipe _ hok, rx, hb, fun σ' en' hw => ⟨?_, ?_⟩⟩
      · rw [hw _ hsl]
        exact wipe_wipe σ _ _ fun _ z => z
      · rcases hcases with ⟨S4, hft, hr⟩ | ⟨S4, kd, S5, ks, y, S6, hft, hfk, hks, hfv, hl, hr⟩
        · refine ⟨w3, env1, S2, _, rfl, s3, en', hft, fun bv w4 e4 s4 hbv => ?_⟩
          cases hbv
          exact ⟨hlt, w4, S4, ps, acc, rfl, c3.go e4 s4, hr⟩
        · refine ⟨w3, env1, S2, _, rfl, s3, en', hft, fun bv w4 e4 s4 hbv => ?_⟩
          cases hbv
          refine ⟨w4, env1, S4, _, rfl, s4, en'.mono e4, hfk, fun u w5 e5 s5 ru => ?_⟩
          refine ⟨w5, env1, S5, _, rfl, s5, (en'.mono e4).mono e5, hfv, fun v w6 e6 s6 rv => ?_⟩
          have c6 := ((c3.go e4 s4).go e5 s5).go e6 s6
          obtain ⟨q, rfl, hq⟩ := rowD_ok (ru.mono e6) hks
          exact ⟨ps, ks, q, rfl, hq, c6.h, by rw [c6.r.len]; exact big_lt hl, hlt, _, S6, _, _, rfl, c6.app hD ks rv, hr⟩
    · have e0 : i = items.length := by omega
      subst e0
      rw [List.drop_length] at hcm
      cases hcm
      exact .inl ⟨stop, c.out s1 hD p1⟩
theorem d_dcT {vs : List Nat} (hu : X.A.units + 64 < cLine) (hc : X.calm = true) (hN : X.N.Nodup) (hi : DI X ξ W tg iter fi) (ok : BlkOk X.N X.env.scope scope own)
    (hg : ∀ (s : Shared) (H : Hp) (C : Addr) (cl : List (Str × Addr)) (fp : List Addr), DG (X.blk s H scope (compEnvC scope cl C X.env) fp) ξ tg sl b)
    (ht : ∀ (s : Shared) (H : Hp) (C : Addr) (cl : List (Str × Addr)) (fp : List Addr), DTs (X.blk s H scope (compEnvC scope cl C X.env) fp) ξ W0 ifs ft)
    (hk : ∀ (s : Shared) (H : Hp) (C : Addr) (cl : List (Str × Addr)) (fp : List Addr), DE (X.blk s H scope (compEnvC scope cl C X.env) fp) ξ W0 kx fk)
    (hx : ∀ (s : Shared) (H : Hp) (C : Addr) (cl : List (Str × Addr)) (fp : List Addr), DE (X.blk s H scope (compEnvC scope cl C X.env) fp) ξ W0 vx fv)
    (hv : own.map (·.2) = vs := by rfl) (hsl : ∀ i ∈ sl, i ∈ own.map (·.2) := by decide) (hok : ∀ v ∈ own.map (·.2), ξ.ok v := by first | exact (fun _ _ => trivial) | decide) (hs : ∀ x, foldedSetIterable iter X.env x = pure x := by intro _; rfl) :
    DE X ξ W (.DictComp kx vx [⟨tg, iter, ifs, 0⟩] scope pos) (fDcT fi vs b ft fk fv) := by
  subst hv
  exact PE.imp (pe_dcT (g := gD (gp X) ξ sl b) (tt := tDT (gp X) ξ W0 ft) (tk := tD (gp X) ξ W0 fk) (tv := tD (gp X) ξ W0 fv) (by omega) hc hN hi ok hg ht hk hx hs) (dc_body hsl hok)
/-- x = {..} -/
theorem s_setDcT {i : Nat} {y : Str} {py spos : Pos} {vs : List Nat} (hu : X.A.units + 64 < cLine) (hc : X.calm = true) (hN : X.N.Nodup) (hsw : swapsWith (.DictComp kx vx [⟨tg, iter, ifs, 0⟩] scope pos) (some (.Name y py)) spos.line X.env = pure true) (hi : DI X ξ W tg iter fi) (ok : BlkOk X.N X.env.scope scope own)
    (hg : ∀ (s : Shared) (H : Hp) (C : Addr) (cl : List (Str × Addr)) (fp : List Addr), DG (X.blk s H scope (compEnvC scope cl C X.env) fp) ξ tg sl b)
    (ht : ∀ (s : Shared) (H : Hp) (C : Addr) (cl : List (Str × Addr)) (fp : List Addr), DTs (X.blk s H scope (compEnvC scope cl C X.env) fp) ξ W0 ifs ft)
    (hk : ∀ (s : Shared) (H : Hp) (C : Addr) (cl : List (Str × Addr)) (fp : List Addr), DE (X.blk s H scope (compEnvC scope cl C X.env) fp) ξ W0 kx fk)
    (hx : ∀ (s : Shared) (H : Hp) (C : Addr) (cl : List (Str × Addr)) (fp : List Addr), DE (X.blk s H scope (compEnvC scope cl C X.env) fp) ξ W0 vx fv)
    (hv : own.map (·.2) = vs := by rfl) (hsl : ∀ i ∈ sl, i ∈ own.map (·.2) := by decide) (hy : X.N[i]? = some y := by rfl) (hyl : X.env.scope.names.lookup y = some .local := by rfl) (hoki : ξ.ok i := by first | trivial | decide) (hok : ∀ v ∈ own.map (·.2), ξ.ok v := by first | exact (fun _ _ => trivial) | decide) (hs : ∀ x, foldedSetIterable iter X.env x = pure x := by intro _; rfl) :
    DS X ξ W (.Assign [.Name y py] (.DictComp kx vx [⟨tg, iter, ifs, 0⟩] scope pos) spos) (sAsg (fDcT fi vs b ft fk fv) (bName i)) := by
  subst hv
  exact PS.imp (ps_setDcT (g := gD (gp X) ξ sl b) (tt := tDT (gp X) ξ W0 ft) (tk := tD (gp X) ξ W0 fk) (tv := tD (gp X) ξ W0 fv) (by omega) hc hN hy hyl hsw hi ok hg ht hk hx hs) fun D σ H h => by
    obtain ⟨w, env, S, r, eH, s, en, h, p⟩ := h
    subst eH
    have q : tD (gp X) ξ W (fDcT fi (own.map (·.2)) b ft fk fv) σ w.H (fun x H1 => gName i x σ H1 D.nx) := seqS s en h p.px fun d S1 v w1 e1 s1 en1 r1 h1 => by
      cases h1
      exact p _ w1 e1 s1 (en1.set hoki r1)
    exact dc_body hsl hok σ w.H _ q
end
end
end FC

set_option Elab.async false
set_option linter.all false
set_option maxRecDepth 100000
set_option maxHeartbeats 4000000
namespace FC
open PySem PySem.Spec L2
section
variable {X : Cx} {ξ : Iv} {W : WX} {G : Gp}
/-! ### more that changes a list -/
theorem RpAll.eraseIdx {w : Wd} : ∀ {vs : List V} {ds : List Dv} (k : Nat), RpAll G w vs ds → RpAll G w (vs.eraseIdx k) (ds.eraseIdx k)
  | _, _, _, .nil => .nil
  | _, _, 0, .cons _ r => r
  | _, _, k + 1, .cons h r => .cons h (RpAll.eraseIdx k r)
theorem RpAll.rev' {w : Wd} {vs : List V} {ds : List Dv} (r : RpAll G w vs ds) : RpAll G w vs.reverse ds.reverse := by
  induction vs generalizing ds with
  | nil => cases r; exact .nil
  | cons v vs ih =>
    cases r with
    | cons h t =>
      rw [List.reverse_cons, List.reverse_cons]
      exact (ih t).append (.cons h .nil)
@[simp] def popAtK (n : Nat) (ds : List Dv) : Mm Dv := fun S => match ds, S[n]? with
  | [.int i], some (.lst xs) => if i.natAbs ≤ 1000000000000000000 then (match seqIndex? i xs.length with
    | some k => (match xs[k]? with
      | some d => some (.ok d (S.set n (.lst (xs.eraseIdx k))))
      | none => none)
    | none => none) else none
  | _, _ => none
theorem md_popAt : MethD G rPopAt popAtK := by
  intro W w σ S a n xs ds res Q s ha r h p
  unfold popAtK at h
  split at h
  · rename_i i zs hS
    by_cases z : i.natAbs ≤ 1000000000000000000
    · rw [if_pos z] at h
      cases hk : seqIndex? i zs.length with
      | none => rw [hk] at h; cases h
      | some k =>
        rw [hk] at h
        simp only at h
        cases hd : zs[k]? with
        | none => rw [hd] at h; cases h
        | some d =>
          rw [hd] at h
          cases h
          obtain ⟨v, rfl, hv⟩ := rp1 r
          cases hv
          obtain ⟨us, hx, rx⟩ := s.cont n a _ ha hS
          obtain ⟨y, hy, ry⟩ := rx.get hd
          have e4 : Ext w (w.put a (.lst (us.eraseIdx k))) := .upd ha
          exact ⟨a, us, i, k, y, rfl, rfl, hx, by omega, by omega, by rw [rx.length]; exact hk, hy, p.ok_ (w' := w.put a (.lst (us.eraseIdx k))) e4 (s.upd ha ⟨_, upd_same, (rx.mono e4).eraseIdx k⟩) (ry.mono e4)⟩
    · rw [if_neg z] at h; cases h
  · cases h
@[simp] def insK (n : Nat) (ds : List Dv) : Mm Dv := fun S => match ds, S[n]? with
  | [.int i, y], some (.lst xs) => if xs.length ≤ big ∧ 0 ≤ i ∧ i ≤ 1000000000000000000 then some (.ok .non (S.set n (.lst (xs.take i.toNat ++ [y] ++ xs.drop i.toNat)))) else none
  | _, _ => none
def rInsert : V → List V → Hp → VK → Prop := fun x vs H Q => ∃ (l : Addr) (xs : List V) (i : Int) (y : V), x = .ref l ∧ vs = [.int i, y] ∧ H l = some (.lst xs) ∧ xs.length < sizeLine ∧ 0 ≤ i ∧ i < 2 ^ 63 ∧
    Q .non (upd H l (.lst (xs.take i.toNat ++ [y] ++ xs.drop i.toNat)))
theorem md_ins : MethD G rInsert insK := by
  intro W w σ S a n xs ds res Q s ha r h p
  unfold insK at h
  split at h
  · rename_i i y zs hS
    by_cases z : zs.length ≤ big ∧ 0 ≤ i ∧ i ≤ 1000000000000000000
    · rw [if_pos z] at h
      cases h
      obtain ⟨v, u, rfl, hv, hu⟩ := rp2 r
      cases hv
      obtain ⟨us, hx, rx⟩ := s.cont n a _ ha hS
      have e4 : Ext w (w.put a (.lst (us.take i.toNat ++ [u] ++ us.drop i.toNat))) := .upd ha
      exact ⟨a, us, i, u, rfl, rfl, hx, by rw [rx.length]; exact big_lt z.1, z.2.1, by omega, p.ok_ (w' := w.put a (.lst (us.take i.toNat ++ [u] ++ us.drop i.toNat))) e4
        (s.upd ha ⟨_, upd_same, (((rx.mono e4).take _).append (.cons (hu.mono e4) .nil)).append ((rx.mono e4).drop _)⟩) .non⟩
    · rw [if_neg z] at h; cases h
  · cases h
section
variable {o a a2 : Expr} {fo : FE} {fa : FA} {apos cpos : Pos}
theorem d_popAt (ho : DE X ξ W o fo) (ha : DA X ξ W [a] fa)
    (hbase : attributeBase o "pop" X.env (eval o X.env) = eval o X.env := by rfl)
    (hfew : ((backTo cpos (starEach [a] X.env)).all (fun x => !x.1) && (backToKw cpos (keywordEach [] X.env)).all (fun x => x.1.isSome)
      && decide ([a].length + ([] : List Keyword).length + (if ([] : List Keyword).isEmpty then 0 else 1) < 30)) = true := by rfl)
    (hline : (apos.endLine == cpos.line) = true := by rfl) (hs : starEach [a] X.env = (false, eval a X.env) :: starEach [] X.env := by rfl) (hplain : (backTo cpos (starEach [] X.env)).any (·.1) = false := by rfl) :
    DE X ξ W (.Call (.Attribute o "pop" apos) [a] [] cpos) (fMeth1 popAtK fo fa) :=
  PE.imp (pe_bm PySem.F.plainAttrs_list PySem.F.slot_list_pop PySem.F.type_list_pop mt_popAt ho ha hbase hfew hline hs hplain) (meth1_body md_popAt)
theorem d_insert (ho : DE X ξ W o fo) (ha : DA X ξ W [a, a2] fa)
    (hbase : attributeBase o "insert" X.env (eval o X.env) = eval o X.env := by rfl)
    (hfew : ((backTo cpos (starEach [a, a2] X.env)).all (fun x => !x.1) && (backToKw cpos (keywordEach [] X.env)).all (fun x => x.1.isSome)
      && decide ([a, a2].length + ([] : List Keyword).length + (if ([] : List Keyword).isEmpty then 0 else 1) < 30)) = true := by rfl)
    (hline : (apos.endLine == cpos.line) = true := by rfl) (hs : starEach [a, a2] X.env = (false, eval a X.env) :: starEach [a2] X.env := by rfl) (hplain : (backTo cpos (starEach [a2] X.env)).any (·.1) = false := by rfl) :
    DE X ξ W (.Call (.Attribute o "insert" apos) [a, a2] [] cpos) (fMeth1 insK fo fa) :=
  PE.imp (pe_bm PySem.F.plainAttrs_list PySem.F.slot_list_insert PySem.F.type_list_insert mt_insert ho ha hbase hfew hline hs hplain) (meth1_body md_ins)
end
/-! ### methods without arguments -/
@[simp] def fMeth0 (k : Nat → Mm Dv) (fo : FE) : FE := fun env => bnd (fo env) fun o S => match isL o S with
  | some n => k n S
  | none => none
theorem meth0_body {r : V → List V → Hp → VK → Prop} {k : Nat → Mm Dv} {fo : FE} (hd : MethD G r fun n ds => if ds = [] then k n else stuck) : ∀ σ H Q, tD G ξ W (fMeth0 k fo) σ H Q → tBM0 G.K "list" r (tD G ξ W fo) σ H Q := fun σ H Q ⟨w, env, S, res, eH, s, en, h, p⟩ => by
  subst eH
  refine seqR s en h p.px fun x S1 v w1 e1 s1 en1 r1 h1 => ?_
  cases q : isL x S1 with
  | none => rw [q] at h1; cases h1
  | some n =>
    rw [q] at h1
    obtain ⟨rfl, a, xs, ds, rfl, ha, hS, hx, rx⟩ := isL_ok s1 r1 q
    exact ⟨.inl ⟨rfl, xs, SqL.of hx⟩, hd W w1 σ S1 a n [] [] res Q s1 ha .nil (show (if ([] : List Dv) = [] then k n else stuck) S1 = some res by rw [if_pos rfl]; exact h1) (p.mono e1 s1)⟩
@[simp] def revK (n : Nat) : Mm Dv := fun S => match S[n]? with
  | some (.lst xs) => some (.ok .non (S.set n (.lst xs.reverse)))
  | _ => none
@[simp] def popK (n : Nat) : Mm Dv := fun S => match S[n]? with
  | some (.lst xs) => (match xs[xs.length - 1]? with
    | some d => some (.ok d (S.set n (.lst xs.dropLast)))
    | none => none)
  | _ => none
theorem md_rev : MethD G rReverse fun n ds => if ds = [] then revK n else stuck := by
  intro W w σ S a n xs ds res Q s ha r h p
  by_cases z : ds = []
  · subst z
    cases r
    simp only [if_pos] at h
    unfold revK at h
    split at h
    · rename_i zs hS
      cases h
      obtain ⟨us, hx, rx⟩ := s.cont n a _ ha hS
      have e4 : Ext w (w.put a (.lst us.reverse)) := .upd ha
      exact ⟨a, us, rfl, rfl, hx, p.ok_ (w' := w.put a (.lst us.reverse)) e4 (s.upd ha ⟨_, upd_same, (rx.mono e4).rev'⟩) .non⟩
    · cases h
  · simp only [if_neg z] at h; cases h
theorem RpAll.dropLast' {w : Wd} {vs : List V} {ds : List Dv} (r : RpAll G w vs ds) : RpAll G w vs.dropLast ds.dropLast := by
  rw [List.dropLast_eq_take, List.dropLast_eq_take, r.length]
  exact r.take _
theorem md_pop : MethD G rPop fun n ds => if ds = [] then popK n else stuck := by
  intro W w σ S a n xs ds res Q s ha r h p
  by_cases z : ds = []
  · subst z
    cases r
    simp only [if_pos] at h
    unfold popK at h
    split at h
    · rename_i zs hS
      cases hd : zs[zs.length - 1]? with
      | none => rw [hd] at h; cases h
      | some d =>
        rw [hd] at h
        cases h
        obtain ⟨us, hx, rx⟩ := s.cont n a _ ha hS
        obtain ⟨y, hy, ry⟩ := rx.get hd
        have e4 : Ext w (w.put a (.lst us.dropLast)) := .upd ha
        exact ⟨a, us, y, rfl, rfl, hx, by rw [rx.length]; exact hy, p.ok_ (w' := w.put a (.lst us.dropLast)) e4 (s.upd ha ⟨_, upd_same, (rx.mono e4).dropLast'⟩) (ry.mono e4)⟩
    · cases h
  · simp only [if_neg z] at h; cases h
section
variable {o : Expr} {fo : FE} {apos cpos : Pos}
theorem d_reverse (ho : DE X ξ W o fo) (hbase : attributeBase o "reverse" X.env (eval o X.env) = eval o X.env := by rfl) (hline : (apos.endLine == cpos.line) = true := by rfl) : DE X ξ W (.Call (.Attribute o "reverse" apos) [] [] cpos) (fMeth0 revK fo) :=
  PE.imp (pe_bm0 PySem.F.plainAttrs_list PySem.F.slot_list_reverse PySem.F.type_list_reverse mt_reverse ho hbase hline) (meth0_body md_rev)
theorem d_pop (ho : DE X ξ W o fo) (hbase : attributeBase o "pop" X.env (eval o X.env) = eval o X.env := by rfl) (hline : (apos.endLine == cpos.line) = true := by rfl) : DE X ξ W (.Call (.Attribute o "pop" apos) [] [] cpos) (fMeth0 popK fo) :=
  PE.imp (pe_bm0 PySem.F.plainAttrs_list PySem.F.slot_list_pop PySem.F.type_list_pop mt_pop ho hbase hline) (meth0_body md_pop)
end
/-! ### divmod; the greatest, the least of a list, of three -/
@[simp] def oDivmod : DCl := fun ds S => match ds with
  | [.int i, .int j] => if 0 < j ∧ j < 1073741824 then some (.ok (.tup [.int (i / j), .int (i % j)]) S) else none
  | _ => none
theorem cd_divmod : CallD G (fun xs H Q => ∃ i j, xs = [.int i, .int j] ∧ CDiv i j ∧ ∀ p, H p = none → Q (.ref p) (upd H p (.tup [.int (i / j), .int (i % j)]))) oDivmod := by
  intro W w σ S xs ds res Q s r h p
  unfold oDivmod at h
  split at h
  · rename_i i j
    obtain ⟨v, u, rfl, h1, h2⟩ := rp2 r
    cases h1; cases h2
    by_cases z : 0 < j ∧ j < 1073741824
    · rw [if_pos z] at h
      cases h
      exact ⟨i, j, rfl, z, fun q hq => p.ok_ (.put hq) (s.put hq) (Rp.new_tup s hq (.cons (.int _) (.cons (.int _) .nil)))⟩
    · rw [if_neg z] at h; cases h
  · cases h
def topI : List Int → Int
  | [] => 0
  | x :: xs => xs.foldl max x
def botI : List Int → Int
  | [] => 0
  | x :: xs => xs.foldl min x
theorem foldl_max : ∀ (xs : List Int) (x : Int), x ≤ xs.foldl max x ∧ (∀ y ∈ xs, y ≤ xs.foldl max x) ∧ (xs.foldl max x = x ∨ xs.foldl max x ∈ xs)
  | [], x => ⟨Int.le_refl _, fun _ h => (by cases h), .inl rfl⟩
  | z :: xs, x => by
    obtain ⟨h1, h2, h3⟩ := foldl_max xs (max x z)
    rw [List.foldl_cons]
    refine ⟨by omega, fun y hy => ?_, ?_⟩
    · rcases List.mem_cons.1 hy with rfl | hy
      · omega
      · exact h2 y hy
    · rcases h3 with h3 | h3
      · rw [h3]
        by_cases q : x ≤ z
        · right; rw [show max x z = z by omega]; exact List.mem_cons_self
        · left; omega
      · exact .inr (List.mem_cons_of_mem _ h3)
theorem foldl_min : ∀ (xs : List Int) (x : Int), xs.foldl min x ≤ x ∧ (∀ y ∈ xs, xs.foldl min x ≤ y) ∧ (xs.foldl min x = x ∨ xs.foldl min x ∈ xs)
  | [], x => ⟨Int.le_refl _, fun _ h => (by cases h), .inl rfl⟩
  | z :: xs, x => by
    obtain ⟨h1, h2, h3⟩ := foldl_min xs (min x z)
    rw [List.foldl_cons]
    refine ⟨by omega, fun y hy => ?_, ?_⟩
    · rcases List.mem_cons.1 hy with rfl | hy
      · omega
      · exact h2 y hy
    · rcases h3 with h3 | h3
      · rw [h3]
        by_cases q : z ≤ x
        · right; rw [show min x z = z by omega]; exact List.mem_cons_self
        · left; omega
      · exact .inr (List.mem_cons_of_mem _ h3)
@[simp] def oMaxL : DCl := fun ds S => match ds with
  | [d] => (match (listOf d S).bind asInts with
    | some (n :: ns) => some (.ok (.int (topI (n :: ns))) S)
    | _ => none)
  | _ => none
@[simp] def oMinL : DCl := fun ds S => match ds with
  | [d] => (match (listOf d S).bind asInts with
    | some (n :: ns) => some (.ok (.int (botI (n :: ns))) S)
    | _ => none)
  | _ => none
@[simp] def oMax3 : DCl := fun ds => match ds with
  | [.int i, .int j, .int k] => ret (.int (max (max i j) k))
  | _ => stuck
@[simp] def oMin3 : DCl := fun ds => match ds with
  | [.int i, .int j, .int k] => ret (.int (min (min i j) k))
  | _ => stuck
theorem cd_maxL : CallD G (rMax G.K) oMaxL := by
  intro W w σ S xs ds res Q s r h p
  match ds, r, h with
  | [d], r, h =>
    obtain ⟨v, rfl, hv⟩ := rp1 r
    unfold oMaxL at h
    dsimp only at h
    cases hl : listOf d S with
    | none => rw [hl] at h; cases h
    | some es =>
      cases hi : asInts es with
      | none => rw [hl] at h; simp only [Option.bind, hi] at h; cases h
      | some ns =>
        rw [hl] at h; simp only [Option.bind, hi] at h
        cases ns with
        | nil => cases h
        | cons n ns =>
          cases h
          obtain ⟨a, zs, rfl, hs, hr⟩ := listOf_ok s hv hl
          have e := ints_vs hr hi
          subst e
          refine ⟨a, n :: ns, rfl, hs, by simp, fun m hm hy => ?_⟩
          obtain ⟨h1, h2, h3⟩ := foldl_max ns n
          have e : m = topI (n :: ns) := by
            have u1 : topI (n :: ns) ≤ m := h3.elim (fun q => by show ns.foldl max n ≤ m; rw [q]; exact hy n List.mem_cons_self) fun q => hy _ (List.mem_cons_of_mem _ q)
            have u2 : m ≤ topI (n :: ns) := (List.mem_cons.1 hm).elim (fun q => by subst q; exact h1) fun q => h2 m q
            omega
          rw [e]
          exact p.here s (.int _)
theorem cd_minL : CallD G (rMin G.K) oMinL := by
  intro W w σ S xs ds res Q s r h p
  match ds, r, h with
  | [d], r, h =>
    obtain ⟨v, rfl, hv⟩ := rp1 r
    unfold oMinL at h
    dsimp only at h
    cases hl : listOf d S with
    | none => rw [hl] at h; cases h
    | some es =>
      cases hi : asInts es with
      | none => rw [hl] at h; simp only [Option.bind, hi] at h; cases h
      | some ns =>
        rw [hl] at h; simp only [Option.bind, hi] at h
        cases ns with
        | nil => cases h
        | cons n ns =>
          cases h
          obtain ⟨a, zs, rfl, hs, hr⟩ := listOf_ok s hv hl
          have e := ints_vs hr hi
          subst e
          refine ⟨a, n :: ns, rfl, hs, by simp, fun m hm hy => ?_⟩
          obtain ⟨h1, h2, h3⟩ := foldl_min ns n
          have e : m = botI (n :: ns) := by
            have u1 : m ≤ botI (n :: ns) := h3.elim (fun q => by show m ≤ ns.foldl min n; rw [q]; exact hy n List.mem_cons_self) fun q => hy _ (List.mem_cons_of_mem _ q)
            have u2 : botI (n :: ns) ≤ m := (List.mem_cons.1 hm).elim (fun q => by subst q; exact h1) fun q => h2 m q
            omega
          rw [e]
          exact p.here s (.int _)
theorem nu_max2 (i j : Int) : nuMax2 (.int i) (.int j) = some (.int (max i j)) := by
  have e : nuLt (.int i) (.int j) = some (decide (i < j)) := rfl
  unfold nuMax2
  rw [e]
  by_cases z : i < j
  · simp [z]; omega
  · simp [z]; omega
theorem nu_max3 (i j k : Int) : nuMax3 (.int i) (.int j) (.int k) = some (.int (max (max i j) k)) := by
  unfold nuMax3
  rw [nu_max2]
  exact nu_max2 _ _
theorem cd_max3 : CallD G (rNuC3 nuMax3) oMax3 := by
  intro W w σ S xs ds res Q s r h p
  unfold oMax3 at h
  split at h
  · rename_i i j k
    cases h
    cases r with
    | cons h1 r =>
      cases r with
      | cons h2 r =>
        cases r with
        | cons h3 r =>
          cases r
          cases h1; cases h2; cases h3
          exact ⟨_, _, _, _, rfl, nu_max3 i j k, p.here s (.int _)⟩
  · cases h
end
/-! ### a, b = a tuple or a list -/
@[simp] def bSeq (n : Nat) (r : List Dv → DEnv → Option DEnv) : Bd := fun d env => match d with
  | .tup ds => if ds.length = n then r ds env else none
  | .lst ds => if ds.length = n then r ds env else none
  | _ => none
section
variable {X : Cx} {ξ : Iv} {sl : List Nat} {r : List Dv → DEnv → Option DEnv} {es : List Expr} {pos : Pos}
theorem pg_or {e : Expr} {t1 t2 : TG} (h1 : PG X e t1) (h2 : PG X e t2) : PG X e (fun v σ H Q => t1 v σ H Q ∨ t2 v σ H Q) := ⟨fun pins s σ H v u Q I r hw => hw.elim (fun hw => h1.run pins s σ H v u Q I r hw) fun hw => h2.run pins s σ H v u Q I r hw⟩
theorem g_seq {k n : Nat} (hc : X.calm = true) (h : DGs X ξ es sl r) (hn : (assignEach es X.env).length = n := by rfl) (hst : (assignEach es X.env).findIdx? (·.1) = none := by rfl) : DG X ξ (.Tuple es k pos) sl (bSeq n r) :=
  PG.imp (pg_or (pg_tup hc h hn hst) (pg_lst hc h hn hst)) fun v σ H Q ⟨w, S, env, d, env', eH, s, en, rv, hb, q⟩ => by
    subst eH
    cases rv with
    | @tup a xs ds ha ra =>
      have hb' : (if ds.length = n then r ds env else none) = some env' := hb
      by_cases z : ds.length = n
      · rw [if_pos z] at hb'
        exact .inl ⟨a, xs, rfl, ha.to, by rw [ra.length]; exact z, w, S, env, ds, env', rfl, s, en, ra, hb', q⟩
      · rw [if_neg z] at hb'; cases hb'
    | @lst a xs ds ha ra =>
      have hb' : (if ds.length = n then r ds env else none) = some env' := hb
      by_cases z : ds.length = n
      · rw [if_pos z] at hb'
        exact .inr ⟨a, xs, rfl, ha.to, by rw [ra.length]; exact z, w, S, env, ds, env', rfl, s, en, ra, hb', q⟩
      · rw [if_neg z] at hb'; cases hb'
    | _ => cases hb
end
/-! ### == of a list that may change -/
def lookO (x : Dv) (S : Store) : Dv := match x with
  | .obj n => match S[n]? with
    | some (.lst xs) => .lst xs
    | _ => x
  | _ => x
def oEqO : DOp := fun x y S => ofO ((eqD (lookO x S) (lookO y S)).map .bl) S
def oNeO : DOp := fun x y S => ofO ((eqD (lookO x S) (lookO y S)).map fun b => .bl (!b)) S
section
variable {G : Gp}
theorem dp_look {w : Wd} {S : Store} {v : V} {d : Dv} {p : PyData} (s : SOk G w S) (r : Rp G w v d) (h : toPy (lookO d S) = some p) : Dp G.K w.H v p := by
  cases r with
  | @obj a n ha =>
    unfold lookO at h
    cases e : S[n]? with
    | none => simp only [e] at h; cases h
    | some dd =>
      simp only [e] at h
      cases dd <;> first | (cases h; done) | skip
      rename_i xs
      obtain ⟨vs, hx, rx⟩ := s.cont n a _ ha e
      have h' : toPy (.lst xs) = some p := h
      unfold toPy at h'
      cases q : toPys xs with
      | none => rw [q] at h'; cases h'
      | some ps =>
        rw [q] at h'
        cases h'
        exact .lst (SqL.of hx) (dps_of xs vs ps rx q)
  | non => exact dp_of _ _ _ .non h
  | bl b => exact dp_of _ _ _ (.bl b) h
  | int i => exact dp_of _ _ _ (.int i) h
  | str x => exact dp_of _ _ _ (.str x) h
  | cls c => cases h
  | tup hs ra => exact dp_of _ _ _ (.tup hs ra) h
  | lst hs ra => exact dp_of _ _ _ (.lst hs ra) h
  | ins _ _ _ _ => cases h
  | dic _ _ _ _ => cases h
  | dit _ _ _ _ => cases h
theorem eqO_ok {w : Wd} {S : Store} {x y : V} {dx dy : Dv} {b : Bool} (s : SOk G w S) (rx : Rp G w x dx) (ry : Rp G w y dy) (h : eqD (lookO dx S) (lookO dy S) = some b) :
    (eqS dx dy = some b) ∨ ∃ p q, Dp G.K w.H x p ∧ Dp G.K w.H y q ∧ SeqAt.shaped p = true ∧ SeqAt.shaped q = true ∧ b = PyData.eqv p q := by
  rcases eqD_some h with h | ⟨p, q, h1, h2, h3, h4, h5⟩
  · refine .inl ?_
    have e : ∀ d : Dv, lookO d S = d ∨ ∃ xs, lookO d S = .lst xs := fun d => by
      unfold lookO
      cases d <;> first | exact .inl rfl | skip
      rename_i n
      simp only
      split
      · exact .inr ⟨_, rfl⟩
      · exact .inl rfl
    rcases e dx with e1 | ⟨xs, e1⟩
    · rcases e dy with e2 | ⟨ys, e2⟩
      · rwa [e1, e2] at h
      · rw [e1, e2] at h
        cases dx <;> cases h
    · rw [e1] at h
      cases hq : lookO dy S <;> rw [hq] at h <;> cases h
  · exact .inr ⟨p, q, dp_look s rx h1, dp_look s ry h2, h3, h4, h5⟩
theorem od_eqO : OpD G (rEqA G.K) oEqO := by
  intro W w σ S x y dx dy res Q s rx ry h p
  obtain ⟨d, hd, rfl⟩ := ofO_some h
  cases e : eqD (lookO dx S) (lookO dy S) with
  | none => rw [e] at hd; cases hd
  | some b =>
    rw [e] at hd
    cases hd
    rcases eqO_ok s rx ry e with e | ⟨p1, q1, h1, h2, h3, h4, rfl⟩
    · obtain ⟨a1, a2⟩ := eqS_ok rx ry e
      exact .inl ⟨a1, by rw [a2]; exact p.here s (.bl b)⟩
    · exact .inr ⟨p1, q1, h1, h2, h3, h4, p.here s (.bl _)⟩
theorem od_neO : OpD G (rNeA G.K) oNeO := by
  intro W w σ S x y dx dy res Q s rx ry h p
  obtain ⟨d, hd, rfl⟩ := ofO_some h
  cases e : eqD (lookO dx S) (lookO dy S) with
  | none => rw [e] at hd; cases hd
  | some b =>
    rw [e] at hd
    cases hd
    rcases eqO_ok s rx ry e with e | ⟨p1, q1, h1, h2, h3, h4, rfl⟩
    · obtain ⟨a1, a2⟩ := eqS_ok rx ry e
      exact .inl ⟨a1, by rw [a2]; exact p.here s (.bl _)⟩
    · exact .inr ⟨p1, q1, h1, h2, h3, h4, p.here s (.bl _)⟩
end
section
variable {X : Cx} {ξ : Iv} {W : WX} {a b : Expr} {fa fb : FE} {pos : Pos}
theorem d_eqO (hu : X.A.units + 64 < cLine) (ha : DE X ξ W a fa) (hb : DE X ξ W b fb) : DE X ξ W (.Compare a [.Eq] [b] pos) (fOp oEqO fa fb) := d_cmp (OpR.or op_eq (op_eqD hu)) od_eqO ha hb (nomark _)
theorem d_neO (hu : X.A.units + 64 < cLine) (ha : DE X ξ W a fa) (hb : DE X ξ W b fb) : DE X ξ W (.Compare a [.NotEq] [b] pos) (fOp oNeO fa fb) := d_cmp (OpR.or op_ne (op_neD hu)) od_neO ha hb (nomark _)
theorem t_eqO (hu : X.A.units + 64 < cLine) (ha : DE X ξ W a fa) (hb : DE X ξ W b fb) : DT X ξ W (.Compare a [.Eq] [b] pos) (fTest (fOp oEqO fa fb)) := t_cmp (OpR.or op_eq (op_eqD hu)) od_eqO ha hb (nomark _)
theorem t_neO (hu : X.A.units + 64 < cLine) (ha : DE X ξ W a fa) (hb : DE X ξ W b fb) : DT X ξ W (.Compare a [.NotEq] [b] pos) (fTest (fOp oNeO fa fb)) := t_cmp (OpR.or op_ne (op_neD hu)) od_neO ha hb (nomark _)
end
end FC

set_option Elab.async false
set_option linter.all false
set_option maxRecDepth 100000
set_option maxHeartbeats 4000000
namespace FC
open PySem PySem.Spec PyProof.Rows L2
/-! ### several except clauses, each with a name -/
abbrev ClA := Value × Nat × (Addr → Value → Option Addr → TS)
def wManyA (K : PySem.W.Frag) (Wout : WX) (D : Ends) : List ClA → WX
  | [] => Wout
  | (c, i, ts) :: r => fun cls d σ H => ∃ b, PySem.W.exmOne K cls c = some b ∧ (b = true → ∀ a, H a = none → ts a cls d { nx := fun σ' H' => D.nx (σ'.set i none) H', rt := D.rt, bk := fun σ' H' => D.bk (σ'.set i none) H', ct := fun σ' H' => D.ct (σ'.set i none) H' } (σ.set i (some (.ref a))) H) ∧
    (b = false → wManyA K Wout D r cls d σ H)
inductive HdsA (X : Cx) : List ExceptHandler → List ClA → Prop
  | nil : HdsA X [] []
  | cons {x n : Str} {c : Value} {i : Nat} {ts : Addr → Value → Option Addr → TS} {b₀ : Stmt} {suite : List Stmt} {np pos' : Pos} {hds : List ExceptHandler} {l : List ClA} (hc : Names X x c) (hi : X.N[i]? = some n) (hln : X.env.kindOf n = some .local)
      (hsu : ∀ (a : Addr) (oe : Obj) (cls : Value) (d : Option Addr) (pn : List (Addr × Obj)), Zc cls d oe → (∃ vs, oe.data = .fields vs) → PSs (X.suite a ((a, oe) :: pn)) (b₀ :: suite) (ts a cls d)) (r : HdsA X hds l) :
      HdsA X (.ExceptHandler (some (.Name x np)) (some n) (b₀ :: suite) pos' :: hds) ((c, i, ts) :: l)
section
variable {X : Cx} {body : List Stmt} {h₀ : ExceptHandler} {hds : List ExceptHandler} {l : List ClA} {pos : Pos} {tb : WX → TS} {Wout : WX}
theorem ps_try_manyA (hs : X.stack = X.env :: X.outer) (hf : X.env.frame = some X.env.locals) (hN : X.N.Nodup) (tk : Takes X Wout)
    (hb : ∀ (W : WX) (pn : List (Addr × Obj)) (xe : Value → Shared → Prop), Takes (X.tr pn xe) W → PassesOwn (model X.prog X.w) X.A X.env xe → PSs (X.tr pn xe) body (tb W))
    (hh : HdsA X (h₀ :: hds) l) : PS X (.Try body (h₀ :: hds) [] [] pos) (fun D σ H => tb (wManyA X.K Wout D l) D σ H) := by
  refine ⟨fun pins s σ H D I h => ?_⟩
  have ok := I.ok
  have hfr : X.A.frames = some (X.env :: X.outer) := by rw [ok.frames, hs]
  refine wpAny_Try_except ?_
  refine wpAny_mono ((hb (wManyA X.K Wout D l) (X.pn ++ pins) (fun e s₁ => wpAny (model X.prog X.w) X.A (noteFrame e X.env) (fun _ s₂ => wpAny (model X.prog X.w) X.A (setFlight e none) (fun _ s₃ =>
    wpAny (model X.prog X.w) X.A (handleBy e X.env (h₀ :: hds)) (SP X pins D) X.xe s₃) X.xe s₂) X.xe s₁) (fun u s' xx => ?_) PassesOwn.looking).run [] s σ H D (I.toTry _) h) (fun f s1 hsp => ?_) (fun e s1 he => he)
  · obtain ⟨a, B, sI, pins', σ', H', cls, d, rfl, J', nb, up, sky, na, os, ag, w⟩ := xx
    have J : Inv X pins σ' H' sI := J'.ofTry ok
    have sky' : Sky B (X.env :: X.outer) a (Zc cls d) X.env.locals s'.heap := by rw [← hs]; exact sky
    show wpAny (model X.prog X.w) X.A (noteFrame (.ref a) X.env) _ _ _
    refine Sky.land Zc.steady hfr hf sky' fun h3 fl3 up3 => ?_
    have J3 : Inv X pins σ' H' { s' with heap := h3 } := J.landed nb fl3.1 (up.trans up3) os ag
    obtain ⟨oe3, vs3, he3, hz3, hd3⟩ := fl3.there
    have notFr : ∀ {h : Heap} {o : Obj} {vs : Array Value}, h.FunFrames B (X.env :: X.outer) → h.get? a = some o → o.data = .fields vs → a ∉ frs (X.env :: X.outer) := fun {h o vs} ff e dd hm => by
      obtain ⟨_, o', e', hnf⟩ := ff.mem hm
      rw [e] at e'; cases e'
      exact hnf _ dd
    have nfr := notFr fl3.2.2.1 he3 hd3
    have nL : a ≠ X.env.locals := fun z => nfr (List.mem_filterMap.mpr ⟨X.env, List.mem_cons_self, by rw [hf, z]⟩)
    have nF : a ∉ X.fs := fun hm => by
      obtain ⟨e, he, q⟩ := List.mem_filterMap.mp hm
      exact nfr (List.mem_filterMap.mpr ⟨e, List.mem_cons_of_mem _ he, q⟩)
    have S3 := J3.suite he3 hd3 na nL nF
    have go : ∀ {hds' : List ExceptHandler} {l' : List ClA}, HdsA X hds' l' → wManyA X.K Wout D l' cls d σ' H' →
        wpAny (model X.prog X.w) X.A (handleBy (.ref a) X.env hds') (SP X pins D) X.xe { s' with heap := h3 } := by
      intro hds' l' hk
      induction hk with
      | nil =>
        intro w
        refine wpAny_handleBy_nil ?_
        obtain ⟨k1, k2, k3, oe, vs, T, oT, ts', he, hz, hd, h1, hr⟩ := id fl3
        unfold PySem.passOn
        refine wpAny_bind (wpAny_field he hd h1 ?_)
        rw [if_neg (show ¬ ((Value.ref T == Value.none) = true) from by simp)]
        have fin : wpAny (model X.prog X.w) X.A (setFlight (.ref a) X.env.frame) (fun _ s4 => wpAny (model X.prog X.w) X.A (throw (.ref a) : Sem Flow) (SP X pins D) X.xe s4) X.xe { s' with heap := h3 } := by
          rw [hf]
          refine HandSPX.setFlight_upZ fl3 fun h4 hh4 up4 => wpAny_throw (tk _ _ ?_)
          exact ⟨a, B, sI, pins, σ', H', cls, d, rfl, J, nb, (up.trans up3).trans up4, .inr (.inr (by rw [hs]; exact hh4)), na, os, ag, w⟩
        first
          | exact wpAny_bind (wpAny_pure (wpAny_bind fin))
          | exact wpAny_bind fin
      | @cons x n c i ts b₀ suite np pos' hds2 l2 hc hi hln hsu r ih =>
        intro w
        obtain ⟨b, hb1, hyes, hno⟩ := w
        refine wpAny_handleBy_cons (codeAny_handlers_test ?_) (by intro q; cases q)
        have LT : PySem.W.Looks (model X.prog X.w) h3 (typeOf (.ref a)) cls := fun A Q E s k q => wpAny_typeOf_ref (k _ _ he3) (by rw [hz3.1]; exact q)
        have LM := PySem.W.exm_one (M := model X.prog X.w) (J3.kIn) LT hb1
        have test : ∀ {Q : Value → Shared → Prop} {E : Value → Shared → Prop}, Q c { s' with heap := h3 } → wpAny (model X.prog X.w) (X.A.mark (some (.ref a))) (eval (.Name x np) X.env) Q E { s' with heap := h3 } := fun {Q E} q => by
          obtain ⟨hg, hdbg, hm | ⟨hm, hv, hnn⟩⟩ := hc
          · exact ld_glob (X := X.suite a ((a, oe3) :: (X.pn ++ pins))) S3 hg hm q hdbg
          · exact ld_blt (X := X.suite a ((a, oe3) :: (X.pn ++ pins))) S3 hg hm hv q hnn hdbg
        refine test (LM.here ?_)
        cases b with
        | true =>
          refine codeAny_handlers_suite_as ?_
          refine HandSPX.lands_againZ fl3 fun h4 fl4 up4 => ?_
          have J4 : Inv X pins σ' H' { s' with heap := h4 } := J.landed nb fl4.1 ((up.trans up3).trans up4) os ag
          obtain ⟨oe4, vs4, he4, hz4, hd4⟩ := fl4.there
          have S4 := J4.suite he4 hd4 na nL nF
          refine store_ok (X := X.suite a ((a, oe4) :: (X.pn ++ pins))) (v := .ref a) S4 hN hi (.inl hln) rfl (fun s5 S5 => ?_) (.inr hln)
          refine wpAny_mono ((hsu a oe4 cls d (X.pn ++ pins) hz4 ⟨_, hd4⟩).run [] s5 _ H' _ S5 (hyes rfl a na)) (fun f s6 hsp => ?_) (fun _ _ z => False.elim z)
          have end_ : ∀ {σ6 : L2.St} {H6 : Hp} {Q : Shared → Prop}, Inv (X.suite a ((a, oe4) :: (X.pn ++ pins))) [] σ6 H6 s6 → (∀ s7, Inv X pins (σ6.set i none) H6 s7 → Q s7) →
              wpAny (model X.prog X.w) X.A (do bindName X.env n .none; unbindBehindTheSuite X.env n pos') (fun _ s7 => Q s7) X.xe s6 := fun {σ6 H6 Q} S6 hq => gone_ok (S6.unsuite ok) hN hi hln hq
          cases f with
          | next =>
            obtain ⟨σ6, H6, S6, q6⟩ := hsp
            exact end_ S6 fun s7 J7 => ⟨_, _, J7, q6⟩
          | brk =>
            obtain ⟨σ6, H6, S6, q6⟩ := hsp
            exact end_ S6 fun s7 J7 => ⟨_, _, J7, q6⟩
          | cont =>
            obtain ⟨σ6, H6, S6, q6⟩ := hsp
            exact end_ S6 fun s7 J7 => ⟨_, _, J7, q6⟩
          | ret u =>
            obtain ⟨v6, σ6, H6, S6, r6, q6⟩ := hsp
            exact end_ S6 fun s7 J7 => ⟨_, _, _, J7, r6, q6⟩
        | false =>
          show wpAny _ X.A (handleBy (.ref a) X.env hds2) _ _ _
          exact ih (hno rfl)
    exact go hh w
  · cases f with
    | next =>
      obtain ⟨σ', H', J', q⟩ := hsp
      exact wpAny_execs_nil ⟨σ', H', J'.ofTry ok, q⟩
    | brk =>
      obtain ⟨σ', H', J', q⟩ := hsp
      exact ⟨σ', H', J'.ofTry ok, q⟩
    | cont =>
      obtain ⟨σ', H', J', q⟩ := hsp
      exact ⟨σ', H', J'.ofTry ok, q⟩
    | ret u =>
      obtain ⟨v, σ', H', J', r, q⟩ := hsp
      exact ⟨v, σ', H', J'.ofTry ok, r, q⟩
end
/-! as data: two clauses -/
@[simp] def clsA (c : Str) (flds : List (Str × Dv)) (env1 : DEnv) (S1 : Store) : List ((Str → Option Bool) × Nat × (Str → List (Str × Dv) → FS)) → Option Rf
  | [] => some (.exc c flds env1 S1)
  | (cn, i, fsu) :: r => match cn c with
    | some true => if i < env1.length then erase i (fsu c flds (env1.set i none) S1) else none
    | some false => clsA c flds env1 S1 r
    | none => none
@[simp] def sTryM (fb : FS) (l : List ((Str → Option Bool) × Nat × (Str → List (Str × Dv) → FS))) : FS := fun env S => match fb env S with
  | some (.exc c flds env1 S1) => clsA c flds env1 S1 l
  | r => r
section
variable {X : Cx} {W : WX}
/-- the clauses: text, data, and that they agree -/
inductive ClsA (X : Cx) : List ExceptHandler → List ((Str → Option Bool) × Nat × (Str → List (Str × Dv) → FS)) → List ClA → Prop
  | nil : ClsA X [] [] []
  | cons {x n : Str} {c : Value} {i : Nat} {cn : Str → Option Bool} {fsu : Str → List (Str × Dv) → FS} {b₀ : Stmt} {suite : List Stmt} {np pos' : Pos} {hds : List ExceptHandler} {r : List ((Str → Option Bool) × Nat × (Str → List (Str × Dv) → FS))} {l : List ClA}
      (hc : Names X x c) (hi : X.N[i]? = some n) (hln : X.env.kindOf n = some .local)
      (hcn : ∀ c' b, cn c' = some b → PySem.W.exmOne X.K (.ref (cOf X.mg c')) c = some b)
      (hsu : ∀ (a : Addr) (oe : Obj) (dd : Addr) (c' : Str) (flds : List (Str × Dv)) (pn : List (Addr × Obj)), cn c' = some true → Zc (.ref (cOf X.mg c')) (some dd) oe → (∃ vs, oe.data = .fields vs) → DSs (X.suite a ((a, oe) :: pn)) (Ix (gp X) i a dd flds) W0 (b₀ :: suite) (fsu c' flds))
      (h : ClsA X hds r l) :
      ClsA X (.ExceptHandler (some (.Name x np)) (some n) (b₀ :: suite) pos' :: hds) ((cn, i, fsu) :: r) ((c, i, fun a cls d D σ H => ∃ (c' : Str) (flds : List (Str × Dv)) (dd : Addr), cls = .ref (cOf X.mg c') ∧ d = some dd ∧ cn c' = some true ∧ tF (gp X) (Ix (gp X) i a dd flds) W0 (fsu c' flds) D σ H) :: l)
theorem ClsA.hds {hds : List ExceptHandler} {r : List ((Str → Option Bool) × Nat × (Str → List (Str × Dv) → FS))} {l : List ClA} (h : ClsA X hds r l) : HdsA X hds l := by
  induction h with
  | nil => exact .nil
  | cons hc hi hln hcn hsu _ ih =>
    refine .cons hc hi hln (fun a oe cls d pn hz hv => ⟨fun pins s σ H D I h => ?_⟩) ih
    obtain ⟨c', flds, dd, rfl, rfl, hct, h⟩ := h
    exact (hsu a oe dd c' flds pn hct hz hv).run pins s σ H D I h
theorem s_try_m {body : List Stmt} {h₀ : ExceptHandler} {hds : List ExceptHandler} {r : List ((Str → Option Bool) × Nat × (Str → List (Str × Dv) → FS))} {l : List ClA} {pos : Pos} {fb : FS}
    (hN : X.N.Nodup) (tk : Takes X W)
    (hb : ∀ (W' : WX) (pn : List (Addr × Obj)) (xe : Value → Shared → Prop), Takes (X.tr pn xe) W' → PassesOwn (model X.prog X.w) X.A X.env xe → DSs (X.tr pn xe) Iv.no W' body fb)
    (hh : ClsA X (h₀ :: hds) r l) (hs : X.stack = X.env :: X.outer := by rfl) (hf : X.env.frame = some X.env.locals := by rfl) :
    DS X Iv.no W (.Try body (h₀ :: hds) [] [] pos) (sTryM fb r) := by
  refine PS.imp (ps_try_manyA (Wout := W) (tb := fun W' => tF (gp X) Iv.no W' fb) hs hf hN tk hb hh.hds) fun D σ H hyp => ?_
  obtain ⟨w, env, S, r', eH, s, en, h, p⟩ := hyp
  subst eH
  unfold sTryM at h
  cases h1 : fb env S with
  | none => rw [h1] at h; cases h
  | some r1 =>
    rw [h1] at h
    refine ⟨w, env, S, r1, rfl, s, en, h1, ?_⟩
    cases r1 with
    | nx env1 S1 => cases h; exact p
    | rt d S1 => cases h; exact p
    | bk env1 S1 => cases h; exact p
    | ct env1 S1 => cases h; exact p
    | exc c' flds env1 S1 =>
      intro σ' dd fs' w' e' s' en' hd hm hn hr
      have h2 : clsA c' flds env1 S1 r = some r' := h
      clear h hb
      revert h2
      generalize h₀ :: hds = hh0 at hh
      intro h2
      induction hh with
      | nil =>
        cases h2
        exact p σ' dd fs' w' e' s' en' hd hm hn hr
      | @cons x n c i cn fsu b₀ suite np pos' hds' r l hc hi hln hcn hsu _ ih =>
        unfold clsA at h2
        cases hb' : cn c' with
        | none => rw [hb'] at h2; cases h2
        | some b =>
          rw [hb'] at h2
          refine ⟨b, hcn c' b hb', fun hbt a ha => ?_, fun hbf => ?_⟩
          · subst hbt
            have h3 : (if i < env1.length then erase i (fsu c' flds (env1.set i none) S1) else none) = some r' := h2
            by_cases hil : i < env1.length
            · rw [if_pos hil] at h3
              refine ⟨c', flds, dd, rfl, rfl, hb', ?_⟩
              cases h4 : fsu c' flds (env1.set i none) S1 with
              | none => rw [h4] at h3; cases h3
              | some r4 =>
                rw [h4] at h3
                have q := en'.unset (i := i) (o := some (.ref a))
                refine ⟨w', env1.set i none, S1, r4, rfl, s', ⟨q.len, q.get, ?_, fs', hd, hm, hn, hr⟩, h4, ?_⟩
                · rw [List.getElem?_set_self (by rw [en'.len]; exact hil)]
                · cases r4 with
                  | nx env5 S5 =>
                    cases h3
                    exact fun σ5 w5 e5 s5 en5 => p _ w5 (e'.trans e5) s5 en5.unset
                  | rt d5 S5 =>
                    cases h3
                    exact fun v w5 e5 s5 r5 => p v w5 (e'.trans e5) s5 r5
                  | bk env5 S5 =>
                    cases h3
                    exact fun σ5 w5 e5 s5 en5 => p _ w5 (e'.trans e5) s5 en5.unset
                  | ct env5 S5 =>
                    cases h3
                    exact fun σ5 w5 e5 s5 en5 => p _ w5 (e'.trans e5) s5 en5.unset
                  | exc _ _ _ _ => cases h3
            · rw [if_neg hil] at h3; cases h3
          · subst hbf
            exact ih h2
end
end FC

set_option Elab.async false
set_option linter.all false
set_option maxRecDepth 100000
set_option maxHeartbeats 4000000
namespace FC
open PySem PySem.Spec L2
/-! ### {k: v for ..} whose keys are ints or texts: as data -/
def compDK (b : Bd) (ft : FT) (fk fv : FE) (env0 : DEnv) : List Dv → List (Key × Dv) → Mm (List (Key × Dv))
  | [], acc => ret acc
  | d :: r, acc => fun S => match b d env0 with
    | none => none
    | some env1 => match ft env1 S with
      | some (.ok false S1) => compDK b ft fk fv env0 r acc S1
      | some (.ok true S1) => match fk env1 S1 with
        | some (.ok k S2) => match keyD k, fv env1 S2 with
          | some ks, some (.ok y S3) => if acc.length ≤ big then compDK b ft fk fv env0 r (putD2 acc ks y) S3 else none
          | _, _ => none
        | _ => none
      | _ => none
@[simp] def fDcK (fi : FI) (own : List Nat) (b : Bd) (ft : FT) (fk fv : FE) : FE := fun env => bnd (fi env) fun items => bnd (compDK b ft fk fv (wipeD env own) items []) fun kvs => ret (.dic kvs)
theorem compDK_cons {b : Bd} {ft : FT} {fk fv : FE} {env0 : DEnv} {d : Dv} {r : List Dv} {acc : List (Key × Dv)} {S : Store} {res : Rs (List (Key × Dv))} (h : compDK b ft fk fv env0 (d :: r) acc S = some res) :
    ∃ env1, b d env0 = some env1 ∧ ((∃ S1, ft env1 S = some (.ok false S1) ∧ compDK b ft fk fv env0 r acc S1 = some res) ∨
      ∃ S1 k S2 ks y S3, ft env1 S = some (.ok true S1) ∧ fk env1 S1 = some (.ok k S2) ∧ keyD k = some ks ∧ fv env1 S2 = some (.ok y S3) ∧ acc.length ≤ big ∧ compDK b ft fk fv env0 r (putD2 acc ks y) S3 = some res) := by
  unfold compDK at h
  split at h
  · cases h
  · rename_i env1 e1
    refine ⟨env1, e1, ?_⟩
    split at h
    · rename_i S1 e2
      exact .inl ⟨S1, e2, h⟩
    · rename_i S1 e2
      split at h
      · rename_i k S2 e3
        split at h
        · rename_i ks y S3 e4 e5
          by_cases z : acc.length ≤ big
          · rw [if_pos z] at h
            exact .inr ⟨S1, k, S2, ks, y, S3, e2, e3, e4, e5, z, h⟩
          · rw [if_neg z] at h; cases h
        · cases h
      · cases h
    · cases h
theorem compDK_ok {b : Bd} {ft : FT} {fk fv : FE} {env0 : DEnv} : ∀ {items : List Dv} {acc : List (Key × Dv)} {S : Store} {res : Rs (List (Key × Dv))}, compDK b ft fk fv env0 items acc S = some res → ∃ ys S2, res = .ok ys S2
  | [], acc, S, res, h => by cases h; exact ⟨acc, S, rfl⟩
  | d :: r, acc, S, res, h => by
    obtain ⟨env1, _, ⟨S1, _, h2⟩ | ⟨S1, k, S2, ks, y, S3, _, _, _, _, _, h2⟩⟩ := compDK_cons h
    · exact compDK_ok h2
    · exact compDK_ok h2
section
variable {X : Cx} {ξ : Iv} {W : WX} {G : Gp}
/-- the state within: what is made so far stands at D -/
structure DcsK (G : Gp) (w1 : Wd) (D : Addr) (w2 : Wd) (S2 : Store) (ps : List (Key × V)) (acc : List (Key × Dv)) : Prop where
  e : Ext w1 w2
  s : SOk G w2 S2
  m : D ∈ w2.M0
  n : D ∉ w2.as
  h : w2.H D = some (.dK ps)
  r : KvR G w2 ps acc
theorem DcsK.go {w1 w2 w3 : Wd} {D : Addr} {S2 S3 : Store} {ps : List (Key × V)} {acc : List (Key × Dv)} (c : DcsK G w1 D w2 S2 ps acc) (e : Ext w2 w3) (s : SOk G w3 S3) : DcsK G w1 D w3 S3 ps acc :=
  ⟨c.e.trans e, s, e.m0 D c.m, e.na D _ c.h c.n, e.kpM (.inl c.m) c.n c.h, c.r.mono e⟩
theorem DcsK.app {w1 w2 : Wd} {D : Addr} {S2 : Store} {ps : List (Key × V)} {acc : List (Key × Dv)} (c : DcsK G w1 D w2 S2 ps acc) (hD : w1.H D = none) {v : V} {y : Dv} (k : Key) (ry : Rp G w2 v y) :
    DcsK G w1 D (w2.put D (.dK (putK ps k v))) S2 (putK ps k v) (putD2 acc k y) := by
  have wk : Wk w2 (w2.put D (.dK (putK ps k v))) := ⟨fun _ _ h => h, fun _ _ _ n => n, fun a o n h => .inl ((upd_ne (fun z => n (by rw [z]; exact .inl c.m))).trans h)⟩
  refine ⟨⟨c.e.as, c.e.m0, c.e.na, c.e.nM, fun a o n h => by have e := c.e.keep a o n h; rw [← upd_ne (H := w2.H) (ne_of_none h hD)] at e; exact e⟩, ⟨c.s.nd, c.s.len, fun a ha => ?_, c.s.dj, fun i a d h1 h2 => ?_⟩, c.m, c.n, upd_same, (c.r.wk wk).put k (ry.wk wk)⟩
  · by_cases z : a = D
    · subst z; exact ⟨_, upd_same, True.intro⟩
    · obtain ⟨o, ho, nt⟩ := c.s.dom a ha
      exact ⟨o, (upd_ne z).trans ho, nt⟩
  · have z : a ≠ D := fun q => c.n (by rw [← q]; exact List.mem_of_getElem? h1)
    exact (c.s.cont i a d h1 h2).wk wk (upd_ne z)
theorem DcsK.out {w1 w2 : Wd} {σ : L2.St} {D : Addr} {S1 S2 : Store} {ps : List (Key × V)} {acc : List (Key × Dv)} {Q : VK} (c : DcsK G w1 D w2 S2 ps acc) (s1 : SOk G w1 S1) (hD : w1.H D = none) (p : PR G W (Rp G) w1 σ (.ok (.dic acc) S2) Q) : Q (.ref D) w2.H := by
  have nD : ∀ a ∈ w1.M0, a ≠ D := fun a ha z => by
    obtain ⟨o, ho, _⟩ := s1.dom a ha
    rw [z, hD] at ho
    cases ho
  have L : Less w2 ⟨w2.H, w2.as, w2.M0.filter (fun a => decide (a ≠ D))⟩ := ⟨rfl, fun a h => h.elim (fun h => .inl (List.mem_filter.mp h).1) .inr, fun _ _ h => h⟩
  refine p.ok_ (w' := ⟨w2.H, w2.as, w2.M0.filter (fun a => decide (a ≠ D))⟩) ⟨c.e.as, fun a ha => List.mem_filter.mpr ⟨c.e.m0 a ha, decide_eq_true (nD a ha)⟩, c.e.na, fun a o h n z => c.e.nM a o h n (L.M a z), c.e.keep⟩ ?_ ?_
  · exact ⟨c.s.nd, c.s.len, fun a ha => c.s.dom a (List.mem_filter.mp ha).1, fun a ha z => c.s.dj a ha (List.mem_filter.mp z).1, fun i a d h1 h2 => (c.s.cont i a d h1 h2).less L⟩
  · refine .dic (.inl c.h) ?_ c.r.1 (c.r.2.less L)
    rintro (z | z)
    · exact of_decide_eq_true (List.mem_filter.mp z).2 rfl
    · exact c.n z
section
variable {tg iter kx vx : Expr} {ifs : List Expr} {scope : Scope} {own : List (Str × Nat)} {pos : Pos} {fi : FI} {sl : List Nat} {b : Bd} {ft : FT} {fk fv : FE}
theorem dcK_body (hsl : ∀ i ∈ sl, i ∈ own.map (·.2)) (hok : ∀ v ∈ own.map (·.2), ξ.ok v) : ∀ σ H Q, tD G ξ W (fDcK fi (own.map (·.2)) b ft fk fv) σ H Q → L2.tDc (tI G ξ W fi) (gD G ξ sl b) (tDT G ξ W0 ft) (tD G ξ W0 fk) (tD G ξ W0 fv) (own.map (·.2)) σ H Q := fun σ H Q ⟨w, env, S, res, eH, s, en, h, p⟩ => by
  subst eH
  refine seqR s en h p.px fun items S1 J w1 e1 s1 en1 ok h1 => fun D hD => ?_
  have p1 := p.mono e1 s1
  unfold bnd at h1
  cases hc : compDK b ft fk fv (wipeD env (own.map (·.2))) items [] S1 with
  | none => rw [hc] at h1; cases h1
  | some r1 =>
    rw [hc] at h1
    obtain ⟨ys, Sf, rfl⟩ := compDK_ok hc
    cases h1
    have start : DcsK G w1 D ⟨upd w1.H D (.dK []), w1.as, D :: w1.M0⟩ S1 [] [] := by
      have ex : Ext w1 ⟨upd w1.H D (.dK []), w1.as, D :: w1.M0⟩ := ⟨⟨[], by simp⟩, fun a ha => List.mem_cons_of_mem _ ha, fun _ _ _ n => n, fun a o ho n z => by
        rcases z with z | z
        · exact (List.mem_cons.mp z).elim (ne_of_none ho hD) fun z => n (.inl z)
        · exact n (.inr z), fun a o _ ho => .inl ((upd_ne (ne_of_none ho hD)).trans ho)⟩
      refine ⟨ex, ⟨s1.nd, s1.len, fun a ha => ?_, fun a ha z => ?_, fun i a d q1 q2 => ?_⟩, List.mem_cons_self, fun z => s1.fresh hD (.inr z), upd_same, .nil⟩
      · rcases List.mem_cons.mp ha with z | z
        · subst z; exact ⟨_, upd_same, True.intro⟩
        · obtain ⟨o, ho, nt⟩ := s1.dom a z
          exact ⟨o, (upd_ne (ne_of_none ho hD)).trans ho, nt⟩
      · rcases List.mem_cons.mp z with z | z
        · subst z; exact s1.fresh hD (.inr ha)
        · exact s1.dj a ha z
      · have q := s1.cont i a d q1 q2
        obtain ⟨o, ho⟩ := q.there
        exact q.mono ex (upd_ne (ne_of_none ho hD))
    let Mid : Nat → Hp → Prop := fun i H => i ≤ items.length ∧ ∃ w2 S2 ps acc, w2.H = H ∧ DcsK G w1 D w2 S2 ps acc ∧ compDK b ft fk fv (wipeD env (own.map (·.2))) (items.drop i) acc S2 = some (.ok ys Sf)
    refine ⟨fun i k H => k = items.length - i ∧ Mid i H, ⟨items.length, rfl, Nat.zero_le _, ⟨upd w1.H D (.dK []), w1.as, D :: w1.M0⟩, S1, [], [], rfl, start, hc⟩, ?_⟩
    rintro i k H' ⟨rfl, hi, w2, S2, ps, acc, rfl, c, hcm⟩
    obtain ⟨go, stop, yld⟩ := ok w2 S2 c.e c.s
    by_cases hlt : i < items.length
    · refine .inr ⟨go i hlt, Mid (i + 1), fun H' hN => ⟨items.length - (i + 1), by omega, rfl, hN⟩, fun x H' hy => ?_⟩
      obtain ⟨w3, rfl, e3, s3, rx⟩ := yld i _ x H' (List.getElem?_eq_getElem hlt) hy
      rw [List.drop_eq_getElem_cons hlt] at hcm
      obtain ⟨env1, hb, hcases⟩ := compDK_cons hcm
      have c3 := c.go e3 s3
      refine ⟨w3, S2, wipeD env (own.map (·.2)), items[i], env1, rfl, s3, ((en1.mono c.e).mono e3).wipe _ hok, rx, hb, fun σ' en' hw => ⟨?_, ?_⟩⟩
      · rw [hw _ hsl]
        exact wipe_wipe σ _ _ fun _ z => z
      · rcases hcases with ⟨S4, hft, hr⟩ | ⟨S4, kd, S5, ks, y, S6, hft, hfk, hks, hfv, hl, hr⟩
        · refine ⟨w3, env1, S2, _, rfl, s3, en', hft, fun bv w4 e4 s4 hbv => ?_⟩
          cases hbv
          exact ⟨hlt, w4, S4, ps, acc, rfl, c3.go e4 s4, hr⟩
        · refine ⟨w3, env1, S2, _, rfl, s3, en', hft, fun bv w4 e4 s4 hbv => ?_⟩
          cases hbv
          refine ⟨w4, env1, S4, _, rfl, s4, en'.mono e4, hfk, fun u w5 e5 s5 ru => ?_⟩
          refine ⟨w5, env1, S5, _, rfl, s5, (en'.mono e4).mono e5, hfv, fun v w6 e6 s6 rv => ?_⟩
          have c6 := ((c3.go e4 s4).go e5 s5).go e6 s6
          have hq := keyD_ok ru hks
          exact ⟨ps, ks, hq, c6.h, by rw [c6.r.len]; exact big_lt hl, hlt, _, S6, _, _, rfl, c6.app hD ks rv, hr⟩
    · have e0 : i = items.length := by omega
      subst e0
      rw [List.drop_length] at hcm
      cases hcm
      exact .inl ⟨stop, c.out s1 hD p1⟩
theorem d_dcK {vs : List Nat} (hu : X.A.units + 64 < cLine) (hc : X.calm = true) (hN : X.N.Nodup) (hi : DI X ξ W tg iter fi) (ok : BlkOk X.N X.env.scope scope own)
    (hg : ∀ (s : Shared) (H : Hp) (C : Addr) (cl : List (Str × Addr)) (fp : List Addr), DG (X.blk s H scope (compEnvC scope cl C X.env) fp) ξ tg sl b)
    (ht : ∀ (s : Shared) (H : Hp) (C : Addr) (cl : List (Str × Addr)) (fp : List Addr), DTs (X.blk s H scope (compEnvC scope cl C X.env) fp) ξ W0 ifs ft)
    (hk : ∀ (s : Shared) (H : Hp) (C : Addr) (cl : List (Str × Addr)) (fp : List Addr), DE (X.blk s H scope (compEnvC scope cl C X.env) fp) ξ W0 kx fk)
    (hx : ∀ (s : Shared) (H : Hp) (C : Addr) (cl : List (Str × Addr)) (fp : List Addr), DE (X.blk s H scope (compEnvC scope cl C X.env) fp) ξ W0 vx fv)
    (hv : own.map (·.2) = vs := by rfl) (hsl : ∀ i ∈ sl, i ∈ own.map (·.2) := by decide) (hok : ∀ v ∈ own.map (·.2), ξ.ok v := by first | exact (fun _ _ => trivial) | decide) (hs : ∀ x, foldedSetIterable iter X.env x = pure x := by intro _; rfl) :
    DE X ξ W (.DictComp kx vx [⟨tg, iter, ifs, 0⟩] scope pos) (fDcK fi vs b ft fk fv) := by
  subst hv
  exact PE.imp (L2.pe_dc (g := gD (gp X) ξ sl b) (tt := tDT (gp X) ξ W0 ft) (tk := tD (gp X) ξ W0 fk) (tv := tD (gp X) ξ W0 fv) hc hN hi ok hg ht hk hx hs) (dcK_body hsl hok)
end
end
end FC

set_option Elab.async false
set_option linter.all false
set_option maxRecDepth 100000
set_option maxHeartbeats 4000000
namespace FC
open PySem PySem.Spec L2
section
variable {X : Cx} {ξ : Iv} {W : WX} {G : Gp}
/-! ### xs.extend(ys), ys a list that may change -/
@[simp] def extK (n : Nat) (ds : List Dv) : Mm Dv := fun S => match ds, S[n]? with
  | [.obj m], some (.lst xs) => (match S[m]? with
    | some (.lst ys) => if xs.length + ys.length ≤ big then some (.ok .non (S.set n (.lst (xs ++ ys)))) else none
    | _ => none)
  | _, _ => none
theorem md_ext : MethD G rExtend extK := by
  intro W w σ S a n xs ds res Q s ha r h p
  unfold extK at h
  split at h
  · rename_i m zs hS
    split at h
    · rename_i ys hM
      by_cases z : zs.length + ys.length ≤ big
      · rw [if_pos z] at h
        cases h
        obtain ⟨v, rfl, hv⟩ := rp1 r
        obtain ⟨us, hx, rx⟩ := s.cont n a _ ha hS
        cases hv with
        | @obj b m hb =>
          obtain ⟨us2, hx2, rx2⟩ := s.cont m b _ hb hM
          have e4 : Ext w (w.put a (.lst (us ++ us2))) := .upd ha
          exact ⟨a, b, us, us2, rfl, rfl, hx, hx2, by rw [rx.length, rx2.length]; exact big_le z, p.ok_ (w' := w.put a (.lst (us ++ us2))) e4 (s.upd ha ⟨_, upd_same, (rx.mono e4).append (rx2.mono e4)⟩) .non⟩
      · rw [if_neg z] at h; cases h
    · cases h
  · cases h
theorem d_extend {o a : Expr} {fo : FE} {fa : FA} {apos cpos : Pos} (ho : DE X ξ W o fo) (ha : DA X ξ W [a] fa)
    (hbase : attributeBase o "extend" X.env (eval o X.env) = eval o X.env := by rfl)
    (hfew : ((backTo cpos (starEach [a] X.env)).all (fun x => !x.1) && (backToKw cpos (keywordEach [] X.env)).all (fun x => x.1.isSome)
      && decide ([a].length + ([] : List Keyword).length + (if ([] : List Keyword).isEmpty then 0 else 1) < 30)) = true := by rfl)
    (hline : (apos.endLine == cpos.line) = true := by rfl) (hs : starEach [a] X.env = (false, eval a X.env) :: starEach [] X.env := by rfl) (hplain : (backTo cpos (starEach [] X.env)).any (·.1) = false := by rfl) :
    DE X ξ W (.Call (.Attribute o "extend" apos) [a] [] cpos) (fMeth1 extK fo fa) :=
  PE.imp (pe_bm PySem.F.plainAttrs_list PySem.F.slot_list_extend PySem.F.type_list_extend mt_extend ho ha hbase hfew hline hs hplain) (meth1_body md_ext)
/-! ### [a, *xs] -/
@[simp] def fStar (fa : FE) (fr : FA) : FA := fun env => bnd (fa env) fun x S => match seqOf x S with
  | some xs => bnd (fr env) (fun ys => ret (xs ++ ys)) S
  | none => none
theorem a_star {e : Expr} {es : List Expr} {p : Pos} {fa : FE} {fr : FA} (ha : DE X ξ W e fa) (hr : DA X ξ W es fr) (hs : starEach (.Starred e p :: es) X.env = (true, eval e X.env) :: starEach es X.env := by rfl) : DA X ξ W (.Starred e p :: es) (fStar fa fr) :=
  PA.imp (StX.pa_star ha hr hs) fun σ H Q ⟨w, env, S, res, eH, s, en, h, p⟩ => by
    subst eH
    refine seqR s en h p.px fun x S1 v w1 e1 s1 en1 r1 h1 => ?_
    cases q : seqOf x S1 with
    | none => rw [q] at h1; cases h1
    | some xs =>
      rw [q] at h1
      obtain ⟨a, zs, rfl, hz, hr⟩ := seqOf_ok s1 r1 q
      refine ⟨a, zs, rfl, hz.symm, ?_⟩
      exact seqR s1 en1 h1 (p.px.mono e1 s1) fun ys S2 vs w2 e2 s2 en2 r2 h2 => by
        cases h2
        exact p.ok_ (e1.trans e2) s2 ((hr.mono e2).append r2)
end
end FC
namespace FC
open PySem PySem.Spec L2
theorem cnL_oneM {n c : Str} {r : List (Str × Bool)} (hr : r.all (fun p => !p.2) = true) (h : cnL ((n, true) :: r) c = some true) : c = n := by
  unfold cnL at h
  rw [List.lookup_cons] at h
  cases q : (c == n) with
  | true => simpa using q
  | false =>
    rw [q] at h
    exfalso
    clear q
    induction r with
    | nil => cases h
    | cons p r ih =>
      obtain ⟨m, v⟩ := p
      rw [List.all_cons, Bool.and_eq_true] at hr
      simp only at h
      rw [List.lookup_cons] at h
      cases q2 : (c == m) with
      | true =>
        rw [q2] at h
        simp only [Option.some.injEq] at h
        rw [h] at hr
        simp at hr
      | false =>
        rw [q2] at h
        exact ih hr.2 h
end FC

set_option Elab.async false
set_option linter.all false
set_option maxRecDepth 100000
set_option maxHeartbeats 4000000
namespace FC
open PySem PySem.Spec PyProof.Rows L2
open Builtin Builtin.SmallTypes
/-! ### zip over two lists whose tuple may be out -/
/-- a zip as it stands: which tuple it gave last, whether it knows that it is out -/
abbrev ZipS (h : Heap) (z TI TO : Addr) (f0 : Value) (f1 : Bool) : Prop :=
  h.get? z = some { cls := .type "zip", dict := none, data := .fields #[f0, .bool f1, .bool false, .ref TI, .ref TO], slots := #[] }
def Gave (f0 : Value) : Prop := f0 = .none ∨ ∃ T : Addr, f0 = rawInt T
section
variable {prog : Program} {w : World} {A : Around} {E : Value → Shared → Prop} {s : Shared} {z TI TO i1 i2 l1 l2 : Addr} {f0 : Value} {f1 : Bool} {k1 k2 : Nat} {xs ys : Array Value} {x y a b : Value}
theorem alive_any {a : Addr} {Q : Option Obj → Shared → Prop} (h : Q (s.heap.get? a) s) : wpAny (model prog w) A (loadIfAlive a) Q E s := fun _ _ _ => h
/-- its tuple is free where the last one is gone -/
theorem free_gone {Q : Bool → Shared → Prop} (hz : ZipS s.heap z TI TO f0 f1) (h : f0 = .none ∨ ∃ T : Addr, f0 = rawInt T ∧ s.heap.get? T = none) (q : Q true s) : wpAny (model prog w) A (ownedTupleIsFree (.ref z)) Q E s := by
  unfold ownedTupleIsFree
  rcases h with rfl | ⟨T, rfl, hT⟩
  · exact wpAny_bind (wpAny_field hz rfl (x := .none) rfl (wpAny_pure q))
  · refine wpAny_bind (wpAny_field hz rfl (x := rawInt T) rfl ?_)
    show wpAny _ _ (loadIfAlive ((T : Int).toNat) >>= _) _ _ _
    rw [Int.toNat_natCast]
    refine wpAny_bind (alive_any ?_)
    rw [hT]
    exact wpAny_pure q
/-- the zip's next pair, made anew -/
theorem zs_item_free {Q : Value → Shared → Prop} (D : ZipApart z TI TO i1 i2 l1 l2) (hz : ZipS s.heap z TI TO f0 f1) (hf : f0 = .none ∨ ∃ T : Addr, f0 = rawInt T ∧ s.heap.get? T = none) (hTI : IsPair s.heap TI (.ref i1) (.ref i2)) (hTO : IsPair s.heap TO a b)
    (h1 : s.heap.IsListIter i1 l1 k1) (h2 : s.heap.IsListIter i2 l2 k2) (hl1 : s.heap.IsList l1 xs) (hl2 : s.heap.IsList l2 ys) (hx : xs[k1]? = some x) (hy : ys[k2]? = some y)
    (hQ : ∀ h', ZipS h' z TI TO (rawInt s.heap.objs.size) false → IsPair h' TO x y → h'.IsListIter i1 l1 (k1 + 1) → h'.IsListIter i2 l2 (k2 + 1) → IsPair h' s.heap.objs.size x y → h'.objs.size = s.heap.objs.size + 1 →
      (∀ c o, c ≠ z → c ≠ TO → c ≠ i1 → c ≠ i2 → s.heap.get? c = some o → h'.get? c = some o) → Q (.ref s.heap.objs.size) { s with heap := h' }) :
    wpAny (model prog w) A (Builtin.«zip.__next__» ⟨[.ref z], []⟩) (fun fin s' => ∃ v, fin = .done (.ret v) ∧ Q v s') E s := by
  obtain ⟨hp, g, d, tk, os⟩ := s
  show wpAny _ _ (field (.ref z) 2 >>= _) _ _ _
  refine wpAny_bind (wpAny_field hz rfl (x := .bool false) rfl ?_)
  show wpAny _ _ (field (.ref z) 3 >>= _) _ _ _
  refine wpAny_bind (wpAny_field hz rfl (x := .ref TI) rfl ?_)
  refine wpAny_bind (wpAny_seqItems hTI rfl ?_)
  show wpAny _ _ (ownedTupleIsFree (.ref z) >>= _) _ _ _
  refine wpAny_bind (free_gone hz hf ?_)
  simp only [if_true]
  refine wpAny_bind (wpAny_rule ?_)
  refine wpAny_bind (wpAny_field hz rfl (x := .ref TO) rfl ?_)
  refine wpAny_bind (wpAny_setField_rec hz (by simp) fun g0 hz0 hs0 => ?_)
  replace hz0 : ZipS g0 z TI TO .ellipsis f1 := hz0
  replace hs0 : Heap.SameBut z hp g0 := hs0
  refine wpAny_bind ?_
  simp only [List.zipIdx_cons, List.zipIdx_nil, List.forIn_cons, List.forIn_nil]
  refine wpAny_bind (wpAny_bind (wpAny_onRaise ?_))
  show wpAny _ _ (nextOf (.ref i1) >>= _) _ _ ⟨g0, g, d, tk, os⟩
  refine wpAny_bind (wpAny_nextOf_list_item (s := ⟨g0, g, d, tk, os⟩) (h1.extBut hs0.extBut D.i1z) (hl1.extBut hs0.extBut D.l1z) hx fun p1 j1 hp1 => wpAny_pure ?_)
  replace hp1 : Heap.SameBut i1 g0 p1 := hp1
  have hU1 : IsPair p1 TO a b := hp1.extBut _ _ D.TOi1 (hs0.extBut _ _ D.TOz hTO)
  refine wpAny_bind (wpAny_seqItems (s := ⟨p1, g, d, tk, os⟩) hU1 rfl ?_)
  refine wpAny_bind (wpAny_updateSeq_pair (s := ⟨p1, g, d, tk, os⟩) hU1 fun g1 hT1 hs1 => ?_)
  replace hT1 : IsPair g1 TO x b := hT1
  replace hs1 : Heap.SameBut TO p1 g1 := hs1
  refine wpAny_bind (wpAny_letGo (wpAny_pure ?_))
  refine wpAny_bind (wpAny_bind (wpAny_onRaise ?_))
  show wpAny _ _ (nextOf (.ref i2) >>= _) _ _ ⟨g1, g, d, tk, os⟩
  refine wpAny_bind (wpAny_nextOf_list_item (s := ⟨g1, g, d, tk, os⟩) (((h2.extBut hs0.extBut D.i2z).extBut hp1.extBut D.i12.symm).extBut hs1.extBut D.TOi2.symm) (((hl2.extBut hs0.extBut D.l2z).extBut hp1.extBut D.l2i1).extBut hs1.extBut D.l2TO) hy fun p2 j2 hp2 => wpAny_pure ?_)
  replace hp2 : Heap.SameBut i2 g1 p2 := hp2
  have hU2 : IsPair p2 TO x b := hp2.extBut _ _ D.TOi2 hT1
  refine wpAny_bind (wpAny_seqItems (s := ⟨p2, g, d, tk, os⟩) hU2 rfl ?_)
  refine wpAny_bind (wpAny_updateSeq_pair (s := ⟨p2, g, d, tk, os⟩) hU2 fun g2 hT2 hs2 => ?_)
  replace hT2 : IsPair g2 TO x y := hT2
  replace hs2 : Heap.SameBut TO p2 g2 := hs2
  refine wpAny_bind (wpAny_letGo (wpAny_pure (wpAny_pure ?_)))
  refine wpAny_bind (wpAny_seqItems (s := ⟨g2, g, d, tk, os⟩) hT2 rfl ?_)
  refine wpAny_bind (wpAny_newTuple ?_)
  have hsz : g2.objs.size = hp.objs.size := by rw [hs2.1, hp2.1, hs1.1, hp1.1, hs0.1]
  have hzz : ZipS g2 z TI TO .ellipsis f1 := hs2.extBut _ _ D.TOz.symm (hp2.extBut _ _ D.i2z.symm (hs1.extBut _ _ D.TOz.symm (hp1.extBut _ _ D.i1z.symm hz0)))
  have hkk : ∀ c o, c ≠ z → c ≠ TO → c ≠ i1 → c ≠ i2 → hp.get? c = some o → g2.get? c = some o := fun c o cz cT c1 c2 e =>
    hs2.extBut _ _ cT (hp2.extBut _ _ c2 (hs1.extBut _ _ cT (hp1.extBut _ _ c1 (hs0.extBut _ _ cz e))))
  have hj1 : g2.IsListIter i1 l1 (k1 + 1) := ((j1.extBut hs1.extBut D.TOi1.symm).extBut hp2.extBut D.i12).extBut hs2.extBut D.TOi1.symm
  have hj2 : g2.IsListIter i2 l2 (k2 + 1) := j2.extBut hs2.extBut D.TOi2.symm
  have hzlt : z < g2.objs.size := Heap.lt_size hzz
  show wpAny _ _ (ownedTupleHandOut (.ref z) (.ref g2.objs.size) >>= _) _ _ ⟨g2.push { cls := .type "tuple", data := .seq #[x, y] }, g, d, tk, os⟩
  refine wpAny_bind ?_
  unfold ownedTupleHandOut
  have hz6 : ZipS (g2.push { cls := .type "tuple", data := .seq #[x, y] }) z TI TO .ellipsis f1 := Heap.get?_push_of_some _ hzz
  refine wpAny_bind (wpAny_setField_rec hz6 (by simp) fun h7 hz7 hs7 => ?_)
  replace hz7 : ZipS h7 z TI TO (rawInt g2.objs.size) f1 := hz7
  refine wpAny_setField_rec hz7 (by simp) fun h8 hz8 hs8 => ?_
  replace hz8 : ZipS h8 z TI TO (rawInt g2.objs.size) false := hz8
  replace hs7 : Heap.SameBut z (g2.push { cls := .type "tuple", data := .seq #[x, y] }) h7 := hs7
  replace hs8 : Heap.SameBut z h7 h8 := hs8
  have up : ∀ c o, c ≠ z → g2.get? c = some o → h8.get? c = some o := fun c o c1 e => hs8.extBut _ _ c1 (hs7.extBut _ _ c1 (Heap.get?_push_of_some _ e))
  have hT8 : IsPair h8 g2.objs.size x y := hs8.extBut _ _ (Nat.ne_of_gt hzlt) (hs7.extBut _ _ (Nat.ne_of_gt hzlt) (Heap.get?_push_size _ rfl))
  have hsz8 : h8.objs.size = g2.objs.size + 1 := by rw [hs8.1, hs7.1, Heap.size_push]
  rw [hsz] at hz8 hT8 hsz8
  refine wpAny_pure ⟨_, rfl, ?_⟩
  show Q (.ref g2.objs.size) ⟨h8, g, d, tk, os⟩
  rw [hsz]
  exact hQ h8 hz8 (up _ _ D.TOz hT2) (hj1.at fun o e => up _ o D.i1z e) (hj2.at fun o e => up _ o D.i2z e) hT8 hsz8 fun c o cz cT c1 c2 e => up c o cz (hkk c o cz cT c1 c2 e)
/-- .. its end -/
theorem zs_end_free {Q : Fin → Shared → Prop} (hh : A.handled = none) (D : ZipApart z TI TO i1 i2 l1 l2) (hz : ZipS s.heap z TI TO f0 f1) (hf : f0 = .none ∨ ∃ T : Addr, f0 = rawInt T ∧ s.heap.get? T = none) (hTI : IsPair s.heap TI (.ref i1) (.ref i2)) (hTO : IsPair s.heap TO a b)
    (h1 : s.heap.IsListIter i1 l1 k1) (h2 : s.heap.IsListIter i2 l2 k2) (hl1 : s.heap.IsList l1 xs) (hl2 : s.heap.IsList l2 ys) (hend : xs[k1]? = none ∨ ys[k2]? = none)
    (hE : ∀ h' e, (∀ c o, c ≠ z → c ≠ TO → c ≠ i1 → c ≠ i2 → s.heap.get? c = some o → h'.get? c = some o) → (∃ o, h'.get? e = some o ∧ o.cls = .type "StopIteration") → E (.ref e) { s with heap := h' }) :
    wpAny (model prog w) A (Builtin.«zip.__next__» ⟨[.ref z], []⟩) Q E s := by
  obtain ⟨hp, g, d, tk, os⟩ := s
  show wpAny _ _ (field (.ref z) 2 >>= _) _ _ _
  refine wpAny_bind (wpAny_field hz rfl (x := .bool false) rfl ?_)
  show wpAny _ _ (field (.ref z) 3 >>= _) _ _ _
  refine wpAny_bind (wpAny_field hz rfl (x := .ref TI) rfl ?_)
  refine wpAny_bind (wpAny_seqItems hTI rfl ?_)
  show wpAny _ _ (ownedTupleIsFree (.ref z) >>= _) _ _ _
  refine wpAny_bind (free_gone hz hf ?_)
  simp only [if_true]
  refine wpAny_bind (wpAny_rule ?_)
  refine wpAny_bind (wpAny_field hz rfl (x := .ref TO) rfl ?_)
  refine wpAny_bind (wpAny_setField_rec hz (by simp) fun g0 hz0 hs0 => ?_)
  replace hz0 : ZipS g0 z TI TO .ellipsis f1 := hz0
  replace hs0 : Heap.SameBut z hp g0 := hs0
  refine wpAny_bind ?_
  simp only [List.zipIdx_cons, List.zipIdx_nil, List.forIn_cons, List.forIn_nil]
  refine wpAny_bind (wpAny_bind (wpAny_onRaise ?_))
  show wpAny _ _ (nextOf (.ref i1) >>= _) _ _ ⟨g0, g, d, tk, os⟩
  cases hx : xs[k1]? with
  | some x =>
    have hy : ys[k2]? = none := by rcases hend with h | h; rw [hx] at h; cases h; exact h
    refine wpAny_bind (wpAny_nextOf_list_item (s := ⟨g0, g, d, tk, os⟩) (h1.extBut hs0.extBut D.i1z) (hl1.extBut hs0.extBut D.l1z) hx fun p1 j1 hp1 => wpAny_pure ?_)
    replace hp1 : Heap.SameBut i1 g0 p1 := hp1
    have hU1 : IsPair p1 TO a b := hp1.extBut _ _ D.TOi1 (hs0.extBut _ _ D.TOz hTO)
    refine wpAny_bind (wpAny_seqItems (s := ⟨p1, g, d, tk, os⟩) hU1 rfl ?_)
    refine wpAny_bind (wpAny_updateSeq_pair (s := ⟨p1, g, d, tk, os⟩) hU1 fun g1 hT1 hs1 => ?_)
    replace hs1 : Heap.SameBut TO p1 g1 := hs1
    refine wpAny_bind (wpAny_letGo (wpAny_pure ?_))
    refine wpAny_bind (wpAny_bind (wpAny_onRaise ?_))
    show wpAny _ _ (nextOf (.ref i2) >>= _) _ _ ⟨g1, g, d, tk, os⟩
    refine wpAny_bind (wpAny_nextOf_list_end (s := ⟨g1, g, d, tk, os⟩) hh (((h2.extBut hs0.extBut D.i2z).extBut hp1.extBut D.i12.symm).extBut hs1.extBut D.TOi2.symm) (((hl2.extBut hs0.extBut D.l2z).extBut hp1.extBut D.l2i1).extBut hs1.extBut D.l2TO) hy fun q e hq he => ?_)
    replace hq : Heap.ExtBut i2 g1 q := hq
    obtain ⟨oe, hoe, hce⟩ := he
    replace hoe : q.get? e = some oe := hoe
    have hzq : ZipS q z TI TO .ellipsis f1 := hq _ _ D.i2z.symm (hs1.extBut _ _ D.TOz.symm (hp1.extBut _ _ D.i1z.symm hz0))
    have hez : e ≠ z := fun x => by subst x; rw [hzq] at hoe; cases hoe; simp at hce
    refine wpAny_setField_rec (s := ⟨q, g, d, tk, os⟩) hzq (by simp) fun q' _ hq' => ?_
    replace hq' : Heap.SameBut z q q' := hq'
    exact hE q' e (fun c o cz cT c1 c2 x => hq'.extBut _ _ cz (hq _ _ c2 (hs1.extBut _ _ cT (hp1.extBut _ _ c1 (hs0.extBut _ _ cz x))))) ⟨oe, hq'.extBut _ _ hez hoe, hce⟩
  | none =>
    refine wpAny_bind (wpAny_nextOf_list_end (s := ⟨g0, g, d, tk, os⟩) hh (h1.extBut hs0.extBut D.i1z) (hl1.extBut hs0.extBut D.l1z) hx fun q e hq he => ?_)
    replace hq : Heap.ExtBut i1 g0 q := hq
    obtain ⟨oe, hoe, hce⟩ := he
    replace hoe : q.get? e = some oe := hoe
    have hzq : ZipS q z TI TO .ellipsis f1 := hq _ _ D.i1z.symm hz0
    have hez : e ≠ z := fun x => by subst x; rw [hzq] at hoe; cases hoe; simp at hce
    refine wpAny_setField_rec (s := ⟨q, g, d, tk, os⟩) hzq (by simp) fun q' _ hq' => ?_
    replace hq' : Heap.SameBut z q q' := hq'
    exact hE q' e (fun c o cz cT c1 c2 x => hq'.extBut _ _ cz (hq _ _ c1 (hs0.extBut _ _ cz x))) ⟨oe, hq'.extBut _ _ hez hoe, hce⟩
/-- the next pair of a zip, however it stands -/
theorem nextOf_zs_item {Q : Value → Shared → Prop} (D : ZipApart z TI TO i1 i2 l1 l2) (hz : ZipS s.heap z TI TO f0 f1) (hf : Gave f0) (hTI : IsPair s.heap TI (.ref i1) (.ref i2)) (hTO : IsPair s.heap TO a b)
    (h1 : s.heap.IsListIter i1 l1 k1) (h2 : s.heap.IsListIter i2 l2 k2) (hl1 : s.heap.IsList l1 xs) (hl2 : s.heap.IsList l2 ys) (hx : xs[k1]? = some x) (hy : ys[k2]? = some y)
    (hQ : ∀ h', (∃ f0' f1', Gave f0' ∧ ZipS h' z TI TO f0' f1') → (∃ a b, IsPair h' TO a b) → h'.IsListIter i1 l1 (k1 + 1) → h'.IsListIter i2 l2 (k2 + 1) → IsPair h' s.heap.objs.size x y → h'.objs.size = s.heap.objs.size + 1 →
      (∀ c o, c ≠ z → c ≠ TO → c ≠ i1 → c ≠ i2 → s.heap.get? c = some o → h'.get? c = some o) → Q (.ref s.heap.objs.size) { s with heap := h' }) :
    wpAny (model prog w) A (nextOf (.ref z)) Q E s := by
  have hT : s.TypeIs (.ref z) "zip" := ⟨_, hz, rfl⟩
  have fin : ∀ {R : Option Value → Shared → Prop}, wpAny (model prog w) A.in1 (Builtin.«zip.__next__» ⟨[.ref z], []⟩) (fun fin s' => ∃ v, fin = .done (.ret v) ∧ R (some v) s') E s → wpAny (model prog w) A (callSpecial? (.ref z) "__next__") R E s := fun h =>
    wpAny_callSpecial?_slot (name := Str.ofString "__next__") hT F.slot_zip_next (wpAny_call_entry F.slot_zip_next hT F.entry_zip_next h (F.args_zip_next_1 _))
  unfold nextOf
  refine wpAny_bind (fin ?_)
  have free : (f0 = .none ∨ ∃ T : Addr, f0 = rawInt T ∧ s.heap.get? T = none) → wpAny (model prog w) A.in1 (Builtin.«zip.__next__» ⟨[.ref z], []⟩) (fun fin s' => ∃ v, fin = .done (.ret v) ∧ wpAny (model prog w) A (pure v) Q E s') E s := fun hg =>
    zs_item_free D hz hg hTI hTO h1 h2 hl1 hl2 hx hy fun h' z' t' j1 j2 p' sz k => wpAny_pure (hQ h' ⟨_, _, .inr ⟨_, rfl⟩, z'⟩ ⟨_, _, t'⟩ j1 j2 p' sz k)
  rcases hf with rfl | ⟨T, rfl⟩
  · exact free (.inl rfl)
  · cases hT : s.heap.get? T with
    | none => exact free (.inr ⟨T, rfl, hT⟩)
    | some oT =>
      exact zip_next_item_held D hz hT hTI h1 h2 hl1 hl2 hx hy fun h' z' j1 j2 p' sz k => wpAny_pure (hQ h' ⟨_, _, .inr ⟨_, rfl⟩, z'⟩ ⟨_, _, k _ _ D.TOz D.TOi1 D.TOi2 hTO⟩ j1 j2 p' sz fun c o cz _ c1 c2 e => k c o cz c1 c2 e)
theorem nextOf_zs_end {Q : Value → Shared → Prop} (hh : A.handled = none) (D : ZipApart z TI TO i1 i2 l1 l2) (hz : ZipS s.heap z TI TO f0 f1) (hf : Gave f0) (hTI : IsPair s.heap TI (.ref i1) (.ref i2)) (hTO : IsPair s.heap TO a b)
    (h1 : s.heap.IsListIter i1 l1 k1) (h2 : s.heap.IsListIter i2 l2 k2) (hl1 : s.heap.IsList l1 xs) (hl2 : s.heap.IsList l2 ys) (hend : xs[k1]? = none ∨ ys[k2]? = none)
    (hE : ∀ h' e, (∀ c o, c ≠ z → c ≠ TO → c ≠ i1 → c ≠ i2 → s.heap.get? c = some o → h'.get? c = some o) → (∃ o, h'.get? e = some o ∧ o.cls = .type "StopIteration") → E (.ref e) { s with heap := h' }) :
    wpAny (model prog w) A (nextOf (.ref z)) Q E s := by
  have hT : s.TypeIs (.ref z) "zip" := ⟨_, hz, rfl⟩
  unfold nextOf
  refine wpAny_bind (wpAny_callSpecial?_slot (name := Str.ofString "__next__") hT F.slot_zip_next (wpAny_call_entry F.slot_zip_next hT F.entry_zip_next ?_ (F.args_zip_next_1 _)))
  rcases hf with rfl | ⟨T, rfl⟩
  · exact zs_end_free hh D hz (.inl rfl) hTI hTO h1 h2 hl1 hl2 hend hE
  · cases hT : s.heap.get? T with
    | none => exact zs_end_free hh D hz (.inr ⟨T, rfl, hT⟩) hTI hTO h1 h2 hl1 hl2 hend hE
    | some oT => exact zip_next_end_held hh D hz hT hTI h1 h2 hl1 hl2 hend fun h' e k he => hE h' e (fun c o cz _ c1 c2 x => k c o cz c1 c2 x) he
/-- enumerate over a zip: its next row -/
theorem pyNext_ez_item {e : Addr} {i : Nat} {old : Value} {Q : Option Value → Shared → Prop} (D : ZipApart z TI TO i1 i2 l1 l2) (he : IsEnum s.heap e z i old) (hez : e ≠ z) (heT : e ≠ TO) (he1 : e ≠ i1) (he2 : e ≠ i2) (heI : e ≠ TI) (hz : ZipS s.heap z TI TO f0 f1) (hf : Gave f0) (hTI : IsPair s.heap TI (.ref i1) (.ref i2)) (hTO : IsPair s.heap TO a b)
    (h1 : s.heap.IsListIter i1 l1 k1) (h2 : s.heap.IsListIter i2 l2 k2) (hl1 : s.heap.IsList l1 xs) (hl2 : s.heap.IsList l2 ys) (hx : xs[k1]? = some x) (hy : ys[k2]? = some y)
    (hQ : ∀ h' tk u, IsEnumOut h' e z ((i : Int) + 1) u (s.heap.objs.size + 1) → (∃ f0' f1', Gave f0' ∧ ZipS h' z TI TO f0' f1') → (∃ a b, IsPair h' TO a b) → h'.IsListIter i1 l1 (k1 + 1) → h'.IsListIter i2 l2 (k2 + 1) → IsPair h' s.heap.objs.size x y →
      h'.get? (s.heap.objs.size + 1) = some { cls := .type "tuple", data := .seq #[.int i tk, .ref s.heap.objs.size] } →
      (∀ c o, c ≠ e → c ≠ z → c ≠ TO → c ≠ i1 → c ≠ i2 → s.heap.get? c = some o → h'.get? c = some o) → Q (some (.ref (s.heap.objs.size + 1))) { s with heap := h', toks := tk + 1 }) :
    wpAny (model prog w) A (pyNext (.ref e)) Q E s := by
  have hT : s.TypeIs (.ref e) "enumerate" := ⟨_, he, rfl⟩
  unfold pyNext
  refine wpAny_bind (wpAny_attempt (wpAny_callSpecial?_slot (name := Str.ofString "__next__") hT F.slot_enumerate_next (wpAny_call_entry F.slot_enumerate_next hT F.entry_enumerate_next ?_ (F.args_enumerate_next_1 _))))
  obtain ⟨hp, g, d, tk, os⟩ := s
  show wpAny _ _ (field (.ref e) 2 >>= _) _ _ _
  refine wpAny_bind (wpAny_field he rfl (x := .ref z) rfl ?_)
  refine wpAny_bind (nextOf_zs_item D hz hf hTI hTO h1 h2 hl1 hl2 hx hy fun m z1 t1 j1 j2 p1 sz1 kk1 => ?_)
  replace p1 : IsPair m hp.objs.size x y := p1
  replace sz1 : m.objs.size = hp.objs.size + 1 := sz1
  replace kk1 : ∀ c o, c ≠ z → c ≠ TO → c ≠ i1 → c ≠ i2 → hp.get? c = some o → m.get? c = some o := kk1
  have e1 : IsEnum m e z i old := kk1 _ _ hez heT he1 he2 he
  have elt : e < hp.objs.size := Heap.lt_size he
  show wpAny _ _ (field (.ref e) 3 >>= _) _ _ ⟨m, g, d, tk, os⟩
  refine wpAny_bind (wpAny_field e1 rfl (x := rawInt i) rfl ?_)
  show wpAny _ _ (field (.ref e) 4 >>= _) _ _ ⟨m, g, d, tk, os⟩
  refine wpAny_bind (wpAny_field e1 rfl (x := .none) rfl ?_)
  show wpAny _ _ (mkInt i >>= _) _ _ ⟨m, g, d, tk, os⟩
  refine wpAny_bind (wpAny_mkInt ?_)
  show wpAny _ _ (setField (.ref e) 3 (rawInt ((i : Int) + 1)) >>= _) _ _ ⟨m, g, d, tk + 1, os⟩
  refine wpAny_bind (wpAny_setField_rec e1 (by simp) fun m2 e2 b2 => ?_)
  replace b2 : Heap.SameBut e m m2 := b2
  replace e2 : IsEnum m2 e z ((i : Int) + 1) old := e2
  show wpAny _ _ (setField (.ref e) 4 .none >>= _) _ _ ⟨m2, g, d, tk + 1, os⟩
  refine wpAny_bind (wpAny_setField_rec e2 (by simp) fun m3 e3 b3 => ?_)
  replace b3 : Heap.SameBut e m2 m3 := b3
  replace e3 : IsEnum m3 e z ((i : Int) + 1) old := e3
  show wpAny _ _ (newTuple [.int i tk, .ref hp.objs.size] >>= _) _ _ ⟨m3, g, d, tk + 1, os⟩
  refine wpAny_bind (wpAny_newTuple ?_)
  have sz3 : m3.objs.size = hp.objs.size + 1 := by rw [b3.1, b2.1, sz1]
  have e4 : IsEnum (m3.push { cls := .type "tuple", data := .seq #[.int i tk, .ref hp.objs.size] }) e z ((i : Int) + 1) old := Heap.get?_push_of_some _ e3
  have t4 : (m3.push { cls := .type "tuple", data := .seq #[.int i tk, .ref hp.objs.size] }).get? (hp.objs.size + 1) = some { cls := .type "tuple", data := .seq #[.int i tk, .ref hp.objs.size] } := by rw [← sz3]; exact Heap.get?_push_size _ rfl
  have up4 : ∀ c o, c ≠ e → m.get? c = some o → (m3.push { cls := .type "tuple", data := .seq #[.int i tk, .ref hp.objs.size] }).get? c = some o := fun c o q x => Heap.get?_push_of_some _ (b3.extBut _ _ q (b2.extBut _ _ q x))
  rw [sz3]
  generalize m3.push { cls := .type "tuple", data := .seq #[.int i tk, .ref hp.objs.size] } = m4 at e4 t4 up4
  show wpAny _ _ (ownedTupleIsFree (.ref e) >>= _) _ _ ⟨m4, g, d, tk + 1, os⟩
  refine wpAny_bind ?_
  unfold ownedTupleIsFree
  refine wpAny_bind (wpAny_field e4 rfl (x := .none) rfl (wpAny_pure ?_))
  simp only [if_true]
  refine wpAny_bind (wpAny_rule ?_)
  refine wpAny_bind (wpAny_field e4 rfl (x := old) rfl ?_)
  refine wpAny_bind (wpAny_setField_rec e4 (by simp) fun m5 e5 b5 => ?_)
  replace b5 : Heap.SameBut e m4 m5 := b5
  replace e5 : IsEnum m5 e z ((i : Int) + 1) (.ref hp.objs.size) := e5
  show wpAny _ _ (ownedTupleHandOut (.ref e) (.ref (hp.objs.size + 1)) >>= _) _ _ ⟨m5, g, d, tk + 1, os⟩
  refine wpAny_bind ?_
  unfold ownedTupleHandOut
  refine wpAny_bind (wpAny_setField_rec e5 (by simp) fun m6 e6 b6 => ?_)
  replace b6 : Heap.SameBut e m5 m6 := b6
  replace e6 : IsEnumOut m6 e z ((i : Int) + 1) (.ref hp.objs.size) (hp.objs.size + 1) := e6
  refine wpAny_setField_rec e6 (by simp) fun m7 e7 b7 => ?_
  replace b7 : Heap.SameBut e m6 m7 := b7
  replace e7 : IsEnumOut m7 e z ((i : Int) + 1) (.ref hp.objs.size) (hp.objs.size + 1) := e7
  have up : ∀ c o, c ≠ e → m4.get? c = some o → m7.get? c = some o := fun c o q x => b7.extBut _ _ q (b6.extBut _ _ q (b5.extBut _ _ q x))
  obtain ⟨f0', f1', gv, z1⟩ := z1
  obtain ⟨a', b', t1⟩ := t1
  have hTe : hp.objs.size + 1 ≠ e := Nat.ne_of_gt (Nat.lt_succ_of_lt elt)
  refine wpAny_bind (wpAny_letGo (wpAny_pure ⟨_, rfl, wpAny_pure (hQ m7 tk _ e7 ⟨f0', f1', gv, up _ _ hez.symm (up4 _ _ hez.symm z1)⟩ ⟨a', b', up _ _ heT.symm (up4 _ _ heT.symm t1)⟩ (j1.at fun o q => up _ _ he1.symm (up4 _ _ he1.symm q)) (j2.at fun o q => up _ _ he2.symm (up4 _ _ he2.symm q)) (up _ _ (Nat.ne_of_gt elt) (up4 _ _ (Nat.ne_of_gt elt) p1)) (up _ _ hTe t4) fun c o ce cz cT c1 c2 q => up _ _ ce (up4 _ _ ce (kk1 _ _ cz cT c1 c2 q)))⟩))
theorem pyNext_ez_end {e : Addr} {i : Int} {old : Value} {Q : Option Value → Shared → Prop} (hh : A.in1.handled = none) (D : ZipApart z TI TO i1 i2 l1 l2) (he : IsEnum s.heap e z i old) (hz : ZipS s.heap z TI TO f0 f1) (hf : Gave f0) (hTI : IsPair s.heap TI (.ref i1) (.ref i2)) (hTO : IsPair s.heap TO a b)
    (h1 : s.heap.IsListIter i1 l1 k1) (h2 : s.heap.IsListIter i2 l2 k2) (hl1 : s.heap.IsList l1 xs) (hl2 : s.heap.IsList l2 ys) (hend : xs[k1]? = none ∨ ys[k2]? = none)
    (hQ : ∀ h', (∀ c o, c ≠ z → c ≠ TO → c ≠ i1 → c ≠ i2 → s.heap.get? c = some o → h'.get? c = some o) → Q none { s with heap := h' }) : wpAny (model prog w) A (pyNext (.ref e)) Q E s := by
  have hT : s.TypeIs (.ref e) "enumerate" := ⟨_, he, rfl⟩
  unfold pyNext
  refine wpAny_bind (wpAny_attempt (wpAny_callSpecial?_slot (name := Str.ofString "__next__") hT F.slot_enumerate_next (wpAny_call_entry F.slot_enumerate_next hT F.entry_enumerate_next ?_ (F.args_enumerate_next_1 _))))
  show wpAny _ _ (field (.ref e) 2 >>= _) _ _ _
  refine wpAny_bind (wpAny_field he rfl (x := .ref z) rfl ?_)
  refine wpAny_bind (nextOf_zs_end hh D hz hf hTI hTO h1 h2 hl1 hl2 hend fun h' x k he' => ?_)
  obtain ⟨o, ho, hc⟩ := he'
  refine wpAny_bind (wpAny_isInstance (T := "StopIteration") (b := true) ⟨o, ho, hc⟩ isSubtype_stop ?_)
  exact wpAny_pure (hQ _ k)
end
end FC

set_option Elab.async false
set_option linter.all false
set_option maxRecDepth 100000
set_option maxHeartbeats 4000000
namespace FC
open PySem PySem.Spec PyProof.Rows L2
/-! ### enumerate over zip of two lists -/
theorem turnedNew2 {X : Cx} {pins : List (Addr × Obj)} {σ : L2.St} {H : Hp} {s : Shared} {h' : Heap} {t' : Nat} {ch : List Addr} {p T : Addr} {o1 o2 : HO} (I : Inv X pins σ H s) (k : ∀ b o, b ∉ ch → s.heap.get? b = some o → h'.get? b = some o) (hf : ∀ b ∈ ch, FpOk X pins H b) (hp : s.heap.objs.size ≤ p) (hT : s.heap.objs.size ≤ T) (hne : p ≠ T)
    (n1 : ObjOk X.prog X.w (upd (upd H p o1) T o2) h' p o1) (n2 : ObjOk X.prog X.w (upd (upd H p o1) T o2) h' T o2) : Inv X pins σ (upd (upd H p o1) T o2) { s with heap := h', toks := t' } := by
  have hnp : H p = none := I.hok.fresh hp
  have hnT : H T = none := I.hok.fresh hT
  have old : ∀ b, b ≠ p → b ≠ T → upd (upd H p o1) T o2 b = H b := fun b q r => by rw [upd_ne r, upd_ne q]
  have old2 : ∀ {b u}, H b = some u → upd (upd H p o1) T o2 b = some u := fun {b u} e => by rw [old b (ne_of_none e hnp) (ne_of_none e hnT)]; exact e
  have nit : ∀ b u, H b = some u → b ∉ ch := fun b u e z => by
    have q := (hf b z).1
    rw [q] at e; cases e
  refine I.step (g' := s.gens) (d' := s.drawn) (ch := ch) (fun b hb => ⟨(hf b hb).2.2.2.1, (hf b hb).2.1, (hf b hb).2.2.2.2.1, (hf b hb).2.2.2.2.2⟩) (fun b o _ _ hc e _ => k b o hc e) (fun b o _ _ hc e _ => ⟨o.slots, k b o hc e⟩)
    (fun b o _ e n => ?_) (fun b o hc e => ⟨o, k b o hc e⟩) (fun b xs e => ?_) (fun b o u e => ?_) (fun b ps e => ⟨#[], ?_⟩) (fun m hm => ?_) (fun b u e => ?_) I.bare
  · have lt := Heap.lt_size e
    rw [old b (Nat.ne_of_lt (Nat.lt_of_lt_of_le lt hp)) (Nat.ne_of_lt (Nat.lt_of_lt_of_le lt hT))]; exact n
  · exact old2 e
  · exact old2 e
  · rw [old2 e]; simp
  · obtain ⟨o, es, ep, ho, r⟩ := hm
    exact ⟨o, es, ep, k _ o (fun z => (hf _ z).2.1 rfl) ho, r⟩
  · by_cases hb : b = T
    · subst hb
      rw [upd_same] at e
      cases e
      exact n2
    · by_cases hb2 : b = p
      · subst hb2
        rw [upd_ne hb, upd_same] at e
        cases e
        exact n1
      · rw [old b hb2 hb] at e
        refine (I.hok b u e).stay (fun c v hc q => k c v ?_ q) (fun c q => old2 q) fun c xs q => old2 q
        rcases hc with z | z
        · rw [z]; exact nit b u e
        · exact nit c _ z
/-- the lists at a and b as they stand at each turn, rows of a number and a new pair -/
def IteZ (K : PySem.W.Frag) (a b : Addr) : It :=
  ⟨fun i H => ∃ (xs ys : List V) (x y : V), SqL K H a xs ∧ SqL K H b ys ∧ xs[i]? = some x ∧ ys[i]? = some y,
    fun i H v H' => ∃ p T x y, v = .ref T ∧ H p = none ∧ H T = none ∧ p ≠ T ∧ H' = upd (upd H p (.tup [x, y])) T (.tup [.int (i : Nat), .ref p]) ∧ (∀ xs, SqL K H a xs → xs[i]? = some x) ∧ ∀ ys, SqL K H b ys → ys[i]? = some y,
    fun i H => ∃ xs ys : List V, SqL K H a xs ∧ SqL K H b ys ∧ (xs.length ≤ i ∨ ys.length ≤ i)⟩
/-- how an enumerate over a zip stands ahead of turn i -/
def EzSt (e z TI TO i1 i2 a b : Addr) (i : Nat) (h : Heap) : Prop :=
  (∃ old, IsEnum h e z (i : Nat) old) ∧ (∃ f0 f1, Gave f0 ∧ ZipS h z TI TO f0 f1) ∧ IsPair h TI (.ref i1) (.ref i2) ∧ (∃ x y, IsPair h TO x y) ∧ h.IsListIter i1 a i ∧ h.IsListIter i2 b i
structure EzAp (e z TI TO i1 i2 a b : Addr) : Prop where
  D : ZipApart z TI TO i1 i2 a b
  ez : e ≠ z
  eI : e ≠ TI
  eO : e ≠ TO
  e1 : e ≠ i1
  e2 : e ≠ i2
theorem turn_enumZ {P : Program} {w : World} {K : PySem.W.Frag} {elts : List Expr} {kk : Nat} {tpos : Pos} {a b e z TI TO i1 i2 : Addr} (A : EzAp e z TI TO i1 i2 a b) :
    Turn P w K (.Tuple elts kk tpos) (IteZ K a b) [e, z, TI, TO, i1, i2] e (EzSt e z TI TO i1 i2 a b) where
  mem := by simp
  obj := fun i h st c hc => by
    obtain ⟨⟨_, he⟩, ⟨_, _, _, hz⟩, hTI, ⟨x, y, hTO⟩, ⟨o1, e1, _, d1⟩, ⟨o2, e2, _, d2⟩⟩ := st
    have e' : c = e ∨ c = z ∨ c = TI ∨ c = TO ∨ c = i1 ∨ c = i2 := by simpa using hc
    rcases e' with q | q | q | q | q | q
    · rw [q]; exact ⟨_, he, fun v q => nomatch q⟩
    · rw [q]; exact ⟨_, hz, fun v q => nomatch q⟩
    · rw [q]; exact ⟨_, hTI, fun v q => nomatch q⟩
    · rw [q]; exact ⟨_, hTO, fun v q => nomatch q⟩
    · rw [q]; exact ⟨o1, e1, fun v q => by rw [d1] at q; cases q⟩
    · rw [q]; exact ⟨o2, e2, fun v q => by rw [d2] at q; cases q⟩
  keep := fun i h h' st k => by
    obtain ⟨⟨_, he⟩, ⟨_, _, gv, hz⟩, hTI, ⟨x, y, hTO⟩, h1, h2⟩ := st
    exact ⟨⟨_, k e (by simp) _ he⟩, ⟨_, _, gv, k z (by simp) _ hz⟩, k TI (by simp) _ hTI, ⟨x, y, k TO (by simp) _ hTO⟩, h1.at fun o q => k i1 (by simp) o q, h2.at fun o q => k i2 (by simp) o q⟩
  item := by
    intro X hP hw hK hc i pins s σ H E I hf st hg
    subst hP hw hK
    obtain ⟨⟨_, he⟩, ⟨_, _, gv, hz⟩, hTI, ⟨x0, y0, hTO⟩, h1, h2⟩ := st
    obtain ⟨xs, ys, x, y, hqx, hqy, hx, hy⟩ := hg
    obtain ⟨its, rv, p, _⟩ := I.list hqx
    obtain ⟨its2, rv2, p2, _⟩ := I.list hqy
    obtain ⟨u, hu, ru⟩ := rv.get hx
    obtain ⟨u2, hu2, ru2⟩ := rv2.get hy
    have D := A.D
    have hel : e < s.heap.objs.size := Heap.lt_size he
    have hzl : z < s.heap.objs.size := Heap.lt_size hz
    refine pyNext_ez_item D he A.ez A.eO A.e1 A.e2 A.eI hz gv hTI hTO h1 h2 p.isList p2.isList (x := u) (y := u2) (by simpa using hu) (by simpa using hu2) fun h' tk v he' z' t' j1 j2 hp hT hk => ?_
    refine ⟨_, rfl, wpAny_letOwnedTupleGo_enum (s := { s with heap := h', toks := tk + 1 }) he' fun h'' he'' sb => ?_⟩
    replace sb : Heap.SameBut e h' h'' := sb
    have hpe : s.heap.objs.size ≠ e := Nat.ne_of_gt hel
    have hTe : s.heap.objs.size + 1 ≠ e := Nat.ne_of_gt (Nat.lt_succ_of_lt hel)
    have hp2 : IsPair h'' s.heap.objs.size u u2 := (sb.2 _ hpe).trans hp
    have hT2 : h''.get? (s.heap.objs.size + 1) = some { cls := .type "tuple", data := .seq #[.int i tk, .ref s.heap.objs.size] } := (sb.2 _ hTe).trans hT
    have ne : s.heap.objs.size ≠ s.heap.objs.size + 1 := Nat.ne_of_lt (Nat.lt_succ_self _)
    have n1 : ObjOk X.prog X.w (upd (upd H s.heap.objs.size (.tup [x, y])) (s.heap.objs.size + 1) (.tup [.int (i : Nat), .ref s.heap.objs.size])) h'' s.heap.objs.size (.tup [x, y]) :=
      ⟨by show 2 ≤ sizeLine; decide, [u, u2], .cons ru (.cons ru2 .nil), ⟨_, hp2, rfl, _, rfl⟩⟩
    have n2 : ObjOk X.prog X.w (upd (upd H s.heap.objs.size (.tup [x, y])) (s.heap.objs.size + 1) (.tup [.int (i : Nat), .ref s.heap.objs.size])) h'' (s.heap.objs.size + 1) (.tup [.int (i : Nat), .ref s.heap.objs.size]) :=
      ⟨by show 2 ≤ sizeLine; decide, [.int i tk, .ref s.heap.objs.size], .cons ⟨_, rfl⟩ (.cons rfl .nil), ⟨_, hT2, rfl, _, rfl⟩⟩
    have I1 := turnedNew2 (h' := h'') (t' := tk + 1) (ch := [e, z, TI, TO, i1, i2]) I (fun c o hb q => (sb.2 c (fun q' => hb (by simp [q']))).trans (hk c o (fun q' => hb (by simp [q'])) (fun q' => hb (by simp [q'])) (fun q' => hb (by simp [q'])) (fun q' => hb (by simp [q'])) (fun q' => hb (by simp [q'])) q)) hf (Nat.le_refl _) (Nat.le_succ _) ne n1 n2
    obtain ⟨f0', f1', gv', z'⟩ := z'
    obtain ⟨a', b', t'⟩ := t'
    have e1 : ((i + 1 : Nat) : Int) = (i : Int) + 1 := by omega
    refine ⟨.ref (s.heap.objs.size + 1), _, I1, rfl, ⟨_, _, x, y, rfl, I.hok.fresh (Nat.le_refl _), I.hok.fresh (Nat.le_succ _), ne, rfl, fun l hl => by rw [I.list_inj hl hqx]; exact hx, fun l hl => by rw [I.list_inj hl hqy]; exact hy⟩, ⟨⟨_, by rw [e1]; exact he''⟩, ⟨_, _, gv', (sb.2 _ A.ez.symm).trans z'⟩, ?_, ⟨_, _, (sb.2 _ A.eO.symm).trans t'⟩, j1.at fun o q => (sb.2 _ A.e1.symm).trans q, j2.at fun o q => (sb.2 _ A.e2.symm).trans q⟩, fun c hcm => ?_⟩
    · exact (sb.2 _ A.eI.symm).trans (hk _ _ A.eI.symm D.TIz D.TITO D.TIi1 D.TIi2 hTI)
    · have hlt : c < s.heap.objs.size := by
        have e' : c = e ∨ c = z ∨ c = TI ∨ c = TO ∨ c = i1 ∨ c = i2 := by simpa using hcm
        rcases e' with q | q | q | q | q | q
        · rw [q]; exact hel
        · rw [q]; exact hzl
        · rw [q]; exact Heap.lt_size hTI
        · rw [q]; exact Heap.lt_size hTO
        · rw [q]; obtain ⟨_, e1, _⟩ := h1; exact Heap.lt_size e1
        · rw [q]; obtain ⟨_, e2, _⟩ := h2; exact Heap.lt_size e2
      rw [upd_ne (Nat.ne_of_lt (Nat.lt_succ_of_lt hlt)), upd_ne (Nat.ne_of_lt hlt)]
      exact (hf c hcm).1
  done := by
    intro X hP hw hK hc i pins s σ H E I hf st hg
    subst hP hw hK
    obtain ⟨⟨_, he⟩, ⟨_, _, gv, hz⟩, hTI, ⟨x0, y0, hTO⟩, h1, h2⟩ := st
    obtain ⟨xs, ys, hqx, hqy, hend⟩ := hg
    obtain ⟨its, rv, p, _⟩ := I.list hqx
    obtain ⟨its2, rv2, p2, _⟩ := I.list hqy
    have l1 := rv.length
    have l2 := rv2.length
    have hen : its.toArray[i]? = none ∨ its2.toArray[i]? = none := by
      rcases hend with q | q
      · exact .inl (by simp; omega)
      · exact .inr (by simp; omega)
    exact pyNext_ez_end (I.ok.hd hc) A.D he hz gv hTI hTO h1 h2 p.isList p2.isList hen fun h' hk => ⟨rfl, I.turnedL (t' := s.toks) (ch := [e, z, TI, TO, i1, i2]) (fun c o hb q =>
      hk c o (fun q' => hb (by simp [q'])) (fun q' => hb (by simp [q'])) (fun q' => hb (by simp [q'])) (fun q' => hb (by simp [q'])) q) hf⟩
  self := fun A' i s Q E st h => let ⟨⟨_, he⟩, _⟩ := st; wpAny_pyIter_enum he h
end FC

set_option Elab.async false
set_option linter.all false
set_option maxRecDepth 100000
set_option maxHeartbeats 4000000
namespace FC
open PySem PySem.Spec PyProof.Rows L2
theorem meets_enumerate_newZ (z TI TO : Addr) (f0 : Value) :
    Meets (Builtin.«enumerate.__new__» ⟨[.type "enumerate", .ref z], []⟩) (fun _ R s => IsZip s.heap z TI TO f0 ∧
      R (.ok (.ret (.ref s.heap.objs.size))) { s with heap := s.heap.push { cls := .type "enumerate", data := .fields #[.none, .bool false, .ref z, rawInt 0, .none, .none] } }) :=
  .of_wp fun prog w A R s h => by
    obtain ⟨hp, g, d, tk, os⟩ := s; obtain ⟨h1, h⟩ := h
    have hsub := sub_enumerate
    have q1 : ∀ {A' : Around} {E : Value → Shared → Prop} {Q : Value → Shared → Prop}, Q (.ref z) ⟨hp, g, d, tk, os⟩ → wpAny (model prog w) A' (pyIter (.ref z)) Q E ⟨hp, g, d, tk, os⟩ :=
      fun q => wpAny_pyIter_zip h1 q
    wp_walk using q1
    refine wpAny_stack_any fun st => wpAny_pure ?_
    split
    · rename_i c _ _ _ _ _
      cases (c == Value.type "enumerate")
      · wp_walk using q1
        exact ⟨_, rfl, h⟩
      · wp_walk using q1
        exact ⟨_, rfl, h⟩
    · wp_walk using q1
      exact ⟨_, rfl, h⟩
theorem call_enumerate_zip {prog : Program} {w : World} {A : Around} {E : Value → Shared → Prop} {s : Shared} {z TI TO : Addr} {f0 : Value} {Q : Value → Shared → Prop} (hz : IsZip s.heap z TI TO f0)
    (h : ∀ h', IsEnum h' s.heap.objs.size z 0 .none → h'.objs.size = s.heap.objs.size + 1 → (∀ b o, s.heap.get? b = some o → h'.get? b = some o) → Q (.ref s.heap.objs.size) { s with heap := h' }) :
    wpAny (model prog w) A (call (.type "enumerate") [.ref z]) Q E s := by
  refine callType_new F.called_enumerate (by decide) (F.typeCall_enumerate_1 _) (F.newCall_enumerate_1 _) (fun obj => F.args_object_init_2 obj _) F.entry_enumerate_new
    (meets_enumerate_newZ z TI TO f0) ⟨hz, ?_⟩
  have he : IsEnum (s.heap.push { cls := .type "enumerate", data := .fields #[.none, .bool false, .ref z, rawInt 0, .none, .none] }) s.heap.objs.size z 0 .none := Heap.get?_push_size _ rfl
  exact ⟨⟨_, he, rfl⟩, h _ he (Heap.size_push ..) fun b o x => Heap.get?_push_of_some _ x⟩
def iEnumZip (K : PySem.W.Frag) (ta : TA) : TI := fun σ H R => ta σ H fun vs H1 => ∃ a b xs ys, vs = [.ref a, .ref b] ∧ SqL K H1 a xs ∧ SqL K H1 b ys ∧ R (IteZ K a b) H1
theorem pi_enumZip {X : Cx} {e e2 : Expr} {ta : TA} {p p2 pos pos2 tpos : Pos} {elts : List Expr} {kk : Nat} (hg : Gl X "enumerate") (hm : X.mg "enumerate" = none) (hg2 : Gl X "zip") (hm2 : X.mg "zip" = none) (ha : PA X [e, e2] ta)
    (h1 : starEach [.Call (.Name "zip" p2) [e, e2] [] pos2] X.env = [(false, eval (.Call (.Name "zip" p2) [e, e2] [] pos2) X.env)] := by rfl)
    (hs : starEach [e, e2] X.env = (false, eval e X.env) :: starEach [e2] X.env := by rfl) (hpl : (backTo pos2 (starEach [e2] X.env)).any (·.1) = false := by rfl) :
    PI X (.Tuple elts kk tpos) (.Call (.Name "enumerate" p) [.Call (.Name "zip" p2) [e, e2] [] pos2] [] pos) (iEnumZip X.K ta) := by
  refine ⟨fun pins s σ H R I h => ?_⟩
  refine Call_ (ld_blt I hg hm boot_enumerate (PyProof.Rows.callWith_type1 ?_ h1 rfl))
  rw [h1]
  refine Calls.spliced_cons ?_
  refine Call_ (ld_blt I hg2 hm2 PyProof.Rows.boot_zip (PyProof.Rows.callWith_type1 (thn (ha.run pos2 pins s σ H _ I h) fun us s1 ⟨vs, H1, I1, r1, q1⟩ => ?_) hs hpl))
  obtain ⟨a, b, xs, ys, ex, hqx, hqy, q⟩ := q1
  subst ex
  cases r1 with
  | cons r rr =>
    cases rr with
    | cons r' rr =>
      cases rr
      cases r
      cases r'
      obtain ⟨its, rv, p1, _⟩ := I1.list hqx
      obtain ⟨its2, rv2, p2, _⟩ := I1.list hqy
      refine call_zip_2 p1.isList p2.isList fun m hz hTI hTO j1 j2 hsz hk => Calls.spliced_nil ?_
      refine call_enumerate_zip (s := { s1 with heap := m }) hz fun m' he hsz' hk' => wpAny_pyIter_enum he ?_
      replace hsz' : m'.objs.size = m.objs.size + 1 := hsz'
      replace hk' : ∀ b o, m.get? b = some o → m'.get? b = some o := hk'
      have I2 : Inv X pins σ H1 { s1 with heap := m' } := I1.kept (t' := s1.toks) fun c o q => hk' _ _ (hk _ _ q)
      have D := PySem.W.ktu_apart s1.heap.objs.size a b p1.lt p2.lt
      have fresh : ∀ c, c ∈ [m.objs.size, s1.heap.objs.size + 4, s1.heap.objs.size + 2, s1.heap.objs.size + 3, s1.heap.objs.size, s1.heap.objs.size + 1] → FpOk X pins H1 c := fun c hcm => by
        have hle : s1.heap.objs.size ≤ c := by
          rw [hsz] at hcm
          have e' : c = s1.heap.objs.size + 5 ∨ c = s1.heap.objs.size + 4 ∨ c = s1.heap.objs.size + 2 ∨ c = s1.heap.objs.size + 3 ∨ c = s1.heap.objs.size ∨ c = s1.heap.objs.size + 1 := by simpa using hcm
          rcases e' with z | z | z | z | z | z <;> rw [z] <;> first | exact Nat.le_add_right _ _ | exact Nat.le_refl _
        exact I1.fpOk hle (I1.hok.fresh hle)
      have ne : ∀ k, k < 5 → m.objs.size ≠ s1.heap.objs.size + k := fun k hk => by rw [hsz]; intro q; have := Nat.add_left_cancel q; omega
      exact ⟨m.objs.size, [m.objs.size, s1.heap.objs.size + 4, s1.heap.objs.size + 2, s1.heap.objs.size + 3, s1.heap.objs.size, s1.heap.objs.size + 1], _, _, H1, rfl, I2,
        turn_enumZ ⟨D, ne 4 (by decide), ne 2 (by decide), ne 3 (by decide), ne 0 (by decide), ne 1 (by decide)⟩,
        ⟨⟨.none, he⟩, ⟨_, _, .inl rfl, hk' _ _ hz⟩, hk' _ _ hTI, ⟨_, _, hk' _ _ hTO⟩, j1.at fun o q => hk' _ _ q, j2.at fun o q => hk' _ _ q⟩, fresh, q⟩
end FC

set_option Elab.async false
set_option linter.all false
set_option maxRecDepth 100000
set_option maxHeartbeats 4000000
namespace FC
open PySem PySem.Spec L2
section
variable {X : Cx} {ξ : Iv} {W : WX} {e e2 : Expr} {elts : List Expr} {kk : Nat} {fa : FA} {p p2 pos pos2 tpos : Pos}
@[simp] def fEnumZip (fa : FA) : FI := fun env => bnd (fa env) fun ds => match ds with
  | [.lst xs, .lst ys] => ret (numbered (pairs xs ys))
  | _ => stuck
theorem i_enumZip (hm : X.mg "enumerate" = none) (hm2 : X.mg "zip" = none) (ha : DA X ξ W [e, e2] fa) (hg : Gl X "enumerate" := by rfl) (hg2 : Gl X "zip" := by rfl)
    (h1 : starEach [.Call (.Name "zip" p2) [e, e2] [] pos2] X.env = [(false, eval (.Call (.Name "zip" p2) [e, e2] [] pos2) X.env)] := by rfl)
    (hs : starEach [e, e2] X.env = (false, eval e X.env) :: starEach [e2] X.env := by rfl) (hpl : (backTo pos2 (starEach [e2] X.env)).any (·.1) = false := by rfl) :
    DI X ξ W (.Tuple elts kk tpos) (.Call (.Name "enumerate" p) [.Call (.Name "zip" p2) [e, e2] [] pos2] [] pos) (fEnumZip fa) := PI.imp (pi_enumZip hg hm hg2 hm2 ha h1 hs hpl) fun σ H R ⟨w, env, S, res, eH, s, en, h, p⟩ => by
  subst eH
  refine seqR s en h p.px fun ds S1 vs w1 e1 s1 en1 rv h1 => ?_
  split at h1
  · rename_i xs ys
    cases h1
    obtain ⟨v, u, rfl, hv, hu⟩ := rp2 rv
    cases hv with
    | @lst a us _ ha ra =>
      cases hu with
      | @lst b ts _ hb rb =>
        refine ⟨a, b, us, ts, rfl, ha.to, hb.to, p.ok_ e1 s1 fun w2 S2 e2 s2 => ?_⟩
        have ha2 := (ha.mono e2).to
        have hb2 := (hb.mono e2).to
        refine ⟨fun i hi => ?_, ⟨us, ts, ha2, hb2, ?_⟩, fun i d x H' hd hy => ?_⟩
        · rw [numbered_len, pairs_len] at hi
          have hx : i < us.length := by rw [ra.length]; omega
          have hy : i < ts.length := by rw [rb.length]; omega
          exact ⟨us, ts, us[i], ts[i], ha2, hb2, List.getElem?_eq_getElem hx, List.getElem?_eq_getElem hy⟩
        · rw [numbered_len, pairs_len, ra.length, rb.length]
          omega
        · obtain ⟨q, T, y, z, rfl, hq, hT, hne, rfl, hf, hg'⟩ := hy
          obtain ⟨pr, hp, rfl⟩ := numbered_at hd
          obtain ⟨dx, dy, q1, q2, rfl⟩ := pairs_at _ _ _ _ hp
          obtain ⟨v1, h3, h4⟩ := (ra.mono e2).get q1
          obtain ⟨v2, h5, h6⟩ := (rb.mono e2).get q2
          rw [hf us ha2] at h3
          rw [hg' ts hb2] at h5
          cases h3
          cases h5
          obtain ⟨w3, g1, g2, g3, g4⟩ := new_pair s2 hq h4 h6
          obtain ⟨w4, k1, k2, k3, k4⟩ := new_pair (T := T) (x := .int (i : Nat)) (dx := .int (i : Nat)) g3 (by rw [g1, upd_ne (Ne.symm hne)]; exact hT) (.int _) g4
          exact ⟨w4, by rw [k1, g1], g2.trans k2, k3, k4⟩
  · cases h1
end
end FC

set_option Elab.async false
set_option linter.all false
set_option maxRecDepth 100000
set_option maxHeartbeats 4000000
namespace FC
open PySem PySem.Spec L2
/-! ### a dict that nothing changes is frozen for good: then it is walked -/
section
variable {G : Gp} {w : Wd} {S : Store}
theorem SOk.ntup (s : SOk G w S) {q : Addr} {xs : List V} (h : w.H q = some (.tup xs)) : ¬ w.M q := by
  rintro (z | z)
  · obtain ⟨o, ho, nt⟩ := s.dom q z
    rw [h] at ho
    cases ho
    exact nt
  · obtain ⟨i, hi, e⟩ := List.getElem_of_mem z
    have h2 : i < S.length := by rw [← s.len]; exact hi
    have m := s.cont i q S[i] (by rw [List.getElem?_eq_getElem hi, e]) (List.getElem?_eq_getElem h2)
    generalize S[i] = d at m
    cases d <;> first | exact m.elim | skip
    · obtain ⟨_, m, _⟩ := m; rw [h] at m; cases m
    · obtain ⟨_, _, m, _⟩ := m; rw [h] at m; cases m
    · obtain ⟨_, m, _⟩ := m; rw [h] at m; cases m
    · obtain ⟨_, m, _⟩ := m; rw [h] at m; cases m
def Wd.fz (w : Wd) (d : Addr) (o : HO) : Wd := ⟨upd w.H d o, w.as, w.M0⟩
theorem Ext.fz {d : Addr} {u : HO} {od : Obj} (hd : w.H d = some u) (hu : IsDc u) (hm : ¬ w.M d) : Ext w (w.fz d (.frz od u)) := by
  refine ⟨⟨[], by simp [Wd.fz]⟩, fun _ h => h, fun _ _ _ h => h, fun _ _ _ h => h, fun a o hn h => ?_⟩
  by_cases z : a = d
  · subst z
    rw [hd] at h
    cases h
    exact .inr ⟨hu, hm, od, upd_same⟩
  · exact .inl ((upd_ne z).trans h)
theorem SOk.fz {d : Addr} {u : HO} {od : Obj} (s : SOk G w S) (hd : w.H d = some u) (hu : IsDc u) (hm : ¬ w.M d) : SOk G (w.fz d (.frz od u)) S := by
  refine ⟨s.nd, s.len, fun a ha => ?_, s.dj, fun i a x h1 h2 => ?_⟩
  · obtain ⟨o, ho, nt⟩ := s.dom a ha
    exact ⟨o, (upd_ne (show a ≠ d from fun z => hm (.inl (by rw [← z]; exact ha)))).trans ho, nt⟩
  · have ha : a ∈ w.as := List.mem_of_getElem? h1
    exact (s.cont i a x h1 h2).mono (Ext.fz hd hu hm) (upd_ne (show a ≠ d from fun z => hm (.inr (by rw [← z]; exact ha))))
end
/-- an expression's value, frozen where it is a thing that may change -/
def tFz (t : TE) : TE := fun σ H Q => t σ H fun v H1 => Q v H1 ∨ ∃ d u, v = .ref d ∧ H1 d = some u ∧ Mut (some u) ∧ ∀ od, Q v (upd H1 d (.frz od u))
theorem pe_fz {X : Cx} {e : Expr} {t : TE} (h : PE X e t) : PE X e (tFz t) := ⟨fun pins s σ H Q I q => by
  refine thn (h.run pins s σ H _ I q) fun v s1 ⟨x, H1, I1, r, q1⟩ => ?_
  rcases q1 with q1 | ⟨d, u, rfl, hd, mu, q1⟩
  · exact ⟨x, H1, I1, r, q1⟩
  · obtain ⟨od, I2⟩ := I1.lock hd mu
    exact ⟨_, _, I2, r, q1 od⟩⟩
/-! ### keys -/
def dKey : Key → Dv
  | .inl i => .int i
  | .inr x => .str x
def dRow (k : List Key) : Dv := .tup (k.map dKey)
section
variable {G : Gp} {w : Wd}
theorem rp_key (k : Key) : Rp G w (kV k) (dKey k) := by
  cases k with
  | inl i => exact .int i
  | inr x => exact .str x
theorem rp_keys : ∀ ks : List Key, RpAll G w (ks.map kV) (ks.map dKey)
  | [] => .nil
  | k :: ks => .cons (rp_key k) (rp_keys ks)
end
section
variable {X : Cx} {ξ : Iv} {W : WX} {tg e : Expr} {fa : FE}
@[simp] def fKeys (fa : FE) : FI := fun env => bnd (fa env) fun x => match x with
  | .dit kvs => ret (kvs.map fun p => dRow p.1)
  | .dic kvs => ret (kvs.map fun p => dKey p.1)
  | _ => stuck
theorem it_keysT {w : Wd} {G : Gp} {d : Addr} {od : Obj} {kvs' : List (List Key × V)} {kvs : List (List Key × Dv)} (hd : w.H d = some (.frz od (.dT kvs'))) (n : d ∉ w.as) (hk : kvs'.map Prod.fst = kvs.map Prod.fst) : ItOk G w (Itkt d od kvs') (kvs.map fun p => dRow p.1) := fun w2 S2 e2 s2 => by
  have hd2 := e2.kp id n hd
  have hl : kvs'.length = kvs.length := by have := congrArg List.length hk; simpa using this
  refine ⟨fun i hi => ⟨hd2, by simpa [hl] using hi⟩, ⟨hd2, by simp [hl]⟩, fun i x v H' hx hy => ?_⟩
  obtain ⟨rfl, k, u, q, h1, rfl, h2⟩ := hy
  have h3 : (kvs.map Prod.fst)[i]? = some k := by rw [← hk]; simp [h1]
  have h4 : x = dRow k := by
    rw [List.getElem?_map] at hx h3
    cases h : kvs[i]? with
    | none => rw [h] at h3; cases h3
    | some p =>
      rw [h] at h3 hx
      cases h3
      cases hx
      rfl
  subst h4
  exact ⟨w2, rfl, Ext.refl _, s2, .tup (.inl ⟨h2, s2.ntup h2⟩) (rp_keys k)⟩
theorem it_keysK {w : Wd} {G : Gp} {d : Addr} {od : Obj} {kvs' : List (Key × V)} {kvs : List (Key × Dv)} (hd : w.H d = some (.frz od (.dK kvs'))) (n : d ∉ w.as) (hk : kvs'.map Prod.fst = kvs.map Prod.fst) : ItOk G w (Itk d od kvs') (kvs.map fun p => dKey p.1) := fun w2 S2 e2 s2 => by
  have hd2 := e2.kp id n hd
  have hl : kvs'.length = kvs.length := by have := congrArg List.length hk; simpa using this
  refine ⟨fun i hi => ⟨hd2, by simpa [hl] using hi⟩, ⟨hd2, by simp [hl]⟩, fun i x v H' hx hy => ?_⟩
  obtain ⟨rfl, k, u, h1, rfl⟩ := hy
  have h3 : (kvs.map Prod.fst)[i]? = some k := by rw [← hk]; simp [h1]
  have h4 : x = dKey k := by
    rw [List.getElem?_map] at hx h3
    cases h : kvs[i]? with
    | none => rw [h] at h3; cases h3
    | some p =>
      rw [h] at h3 hx
      cases h3
      cases hx
      rfl
  subst h4
  exact ⟨w2, rfl, Ext.refl _, s2, rp_key k⟩
theorem i_keys (ha : DE X ξ W e fa) : DI X ξ W tg e (fKeys fa) := PI.imp (pi_keys (pe_fz ha)) fun σ H R ⟨w, env, S, res, eH, s, en, h, p⟩ => by
  subst eH
  refine seqR s en h p.px fun x S1 v w1 e1 s1 en1 r1 h1 => ?_
  cases r1 <;> first | (cases h1; done) | skip
  · rename_i a kvs' kvs hr hm hk ra
    cases h1
    have na : a ∉ w1.as := fun z => hm (.inr z)
    rcases hr with hr | ⟨o, hr⟩
    · exact .inr ⟨a, _, rfl, hr, True.intro, fun od => ⟨a, od, rfl, .inl ⟨kvs', upd_same, p.ok_ (w' := w1.fz a (.frz od (.dK kvs'))) (e1.trans (.fz hr True.intro hm)) (s1.fz hr True.intro hm) (it_keysK (w := w1.fz a (.frz od (.dK kvs'))) upd_same na hk)⟩⟩⟩
    · exact .inl ⟨a, o, rfl, .inl ⟨kvs', hr, p.ok_ e1 s1 (it_keysK hr na hk)⟩⟩
  · rename_i a kvs' kvs hr hm hk ra
    cases h1
    have na : a ∉ w1.as := fun z => hm (.inr z)
    rcases hr with hr | ⟨o, hr⟩
    · exact .inr ⟨a, _, rfl, hr, True.intro, fun od => ⟨a, od, rfl, .inr ⟨kvs', upd_same, p.ok_ (w' := w1.fz a (.frz od (.dT kvs'))) (e1.trans (.fz hr True.intro hm)) (s1.fz hr True.intro hm) (it_keysT (w := w1.fz a (.frz od (.dT kvs'))) upd_same na hk)⟩⟩⟩
    · exact .inl ⟨a, o, rfl, .inr ⟨kvs', hr, p.ok_ e1 s1 (it_keysT hr na hk)⟩⟩
end
end FC

set_option Elab.async false
set_option linter.all false
set_option maxRecDepth 100000
set_option maxHeartbeats 4000000
namespace FC
open PySem PySem.Spec PyProof.Rows L2
/-! ### list(d.values()), d's keys rows -/
theorem vals_of {ks : List (List Key × Addr × Value)} {kvs : List (List Key × V)} {H : Hp} (pr : Paired (fun (p : List Key × V) (q : List Key × Addr × Value) => p.1 = q.1 ∧ H q.2.1 = some (.tup (p.1.map kV)) ∧ RelV p.2 q.2.2) kvs ks) : Vals (kvs.map Prod.snd) (ks.map fun x => x.2.2) := by
  induction pr with
  | nil => exact .nil
  | cons r _ ih => exact .cons r.2.2 ih
def tLV (td : TE) : TE := fun σ H Q => td σ H fun x H1 => ∃ d kvs, x = .ref d ∧ Rd H1 d (.dT kvs) ∧ ∀ p, H1 p = none → Q (.ref p) (upd H1 p (.lst (kvs.map Prod.snd)))
theorem pe_listVals {X : Cx} {e : Expr} {td : TE} {p apos cpos pos : Pos} (hc : X.calm = true) (he : PE X e td) (hm : X.mg "list" = none) (hg : Gl X "list" := by rfl)
    (hbase : attributeBase e "values" X.env (eval e X.env) = eval e X.env := by rfl) (hline : (apos.endLine == cpos.line) = true := by rfl)
    (hst : starEach [.Call (.Attribute e "values" apos) [] [] cpos] X.env = [(false, eval (.Call (.Attribute e "values" apos) [] [] cpos) X.env)] := by rfl) :
    PE X (.Call (.Name "list" p) [.Call (.Attribute e "values" apos) [] [] cpos] [] pos) (tLV td) := by
  refine ⟨fun pins s σ H Q I h => ?_⟩
  refine Call_ (ld_blt I hg hm PyProof.Rows.boot_list (PyProof.Rows.callWith_type1 ?_ hst rfl))
  rw [hst]
  refine Calls.spliced_cons ?_
  refine wpAny_Call_method (T := "dict") (id := "dict.values") hbase rfl hline F.plainAttrs_dict F.slot_dict_values F.type_dict_values (thn (he.run pins s σ H _ I h) fun u s1 ⟨x, H1, I1, rx, d, kvs, ex, hd, q⟩ => ?_)
  subst ex
  obtain rfl : u = Value.ref d := rx
  obtain ⟨z, hs, ks, pr, o, es, ep, ho, hx, hdt, hes, hn⟩ := (show ObjOk X.prog X.w H1 s1.heap d (.dT kvs) from hd.ok I1.hok)
  have l1 : es.size = ks.length := size_of_entries hes
  have l2 : kvs.length = ks.length := Paired.length pr
  have raw : s1.heap.DictRaw d es ep := ⟨o, ho, hx, hdt⟩
  refine ⟨⟨o, ho, hx.1⟩, ?_, ?_⟩
  · intro a ea
    cases ea
    exact ⟨o, ho, hx.2.1⟩
  · have I2 : Inv X pins σ H1 { s1 with heap := s1.heap.push { cls := .type "dict_values", data := .fields #[.ref d] } } := I1.kept (t' := s1.toks) fun b ob q => Heap.get?_push_of_some _ q
    show wpAny _ _ (callWith cpos (.builtin "dict.values") [.ref d] [] []) _ X.xe s1
    refine method_meetsIn F.slot_dict_values F.entry_dict_values rfl (PySem.evalArgs_none ⟨rfl, ⟨o, ho, hx.1⟩, F.args_dict_values_1 _, _, meets_dict_values_raw d hs, ⟨⟨es, ep, raw⟩, ?_⟩⟩)
    show wpAny (model X.prog X.w) X.A (spliced []) _ X.xe _
    refine Calls.spliced_nil ?_
    have ov : (s1.heap.push { cls := .type "dict_values", data := .fields #[.ref d] }).IsValuesView s1.heap.objs.size d := ⟨_, Heap.get?_push_size _ rfl, rfl, rfl⟩
    have raw2 : (s1.heap.push { cls := .type "dict_values", data := .fields #[.ref d] }).DictRaw d es ep := raw.push _
    refine PySem.W.kdl_call (s := { s1 with heap := s1.heap.push { cls := .type "dict_values", data := .fields #[.ref d] } }) KdlSrc.rawValues (I2.ok.hd hc) ⟨ov, raw2⟩ (by omega) fun h' tk acc' c' kp e2 it => ?_
    have ea : acc'.toList = ks.map fun x => x.2.2 := by
      have hl : acc'.toList.length = ks.length := by rw [Array.length_toList, it.1]; exact l1
      apply List.ext_getElem?
      intro j
      rw [List.getElem?_map]
      cases hj : acc'.toList[j]? with
      | none =>
        have h1 := List.getElem?_eq_none_iff.mp hj
        rw [List.getElem?_eq_none (by omega)]
        rfl
      | some v =>
        obtain ⟨hi, hv⟩ := it.2 j v (by rw [← Array.getElem?_toList]; exact hj)
        have qe := entry_at hes j
        rw [Array.getElem?_eq_getElem hi] at qe
        cases hb : ks[j]? with
        | none => rw [hb] at qe; cases qe
        | some b =>
          rw [hb] at qe
          have e3 : es[j] = entryOfKey (tupleKind (mixKind X.prog X.w)) b := Option.some.inj qe
          rw [hv, e3]
          rfl
    have rv : Vals (kvs.map Prod.snd) acc'.toList := by rw [ea]; exact vals_of pr
    have hz : (kvs.map Prod.snd).length ≤ sizeLine := by rw [List.length_map]; exact z
    refine ⟨.ref _, _, I2.laid (t' := tk) (o := .lst (kvs.map Prod.snd)) kp (Nat.le_refl _) ?_, rfl, q _ (I2.hok.fresh (Nat.le_refl _))⟩
    exact ⟨hz, acc'.toList, c', rv, by rw [Array.toArray_toList]; exact e2⟩
end FC
namespace FC
open PySem PySem.Spec L2
section
variable {X : Cx} {ξ : Iv} {W : WX} {e : Expr} {fa : FE} {p apos cpos pos : Pos}
@[simp] def fLVal (m : Bool) (fa : FE) : FE := fun env => bnd (fa env) fun x => match x with
  | .dit kvs => newL m (kvs.map Prod.snd)
  | _ => stuck
theorem d_listVals (m : Bool) (hc : X.calm = true) (hm : X.mg "list" = none) (ha : DE X ξ W e fa) (hg : Gl X "list" := by rfl)
    (hbase : attributeBase e "values" X.env (eval e X.env) = eval e X.env := by rfl) (hline : (apos.endLine == cpos.line) = true := by rfl)
    (hst : starEach [.Call (.Attribute e "values" apos) [] [] cpos] X.env = [(false, eval (.Call (.Attribute e "values" apos) [] [] cpos) X.env)] := by rfl) :
    DE X ξ W (.Call (.Name "list" p) [.Call (.Attribute e "values" apos) [] [] cpos] [] pos) (fLVal m fa) := PE.imp (pe_listVals hc ha hm hg hbase hline hst) fun σ H Q ⟨w, env, S, res, eH, s, en, h, p⟩ => by
  subst eH
  refine seqR s en h p.px fun x S1 v w1 e1 s1 en1 r1 h1 => ?_
  cases r1 <;> first | (cases h1; done) | skip
  rename_i a kvs' kvs hr hm hk ra
  exact ⟨a, kvs', rfl, hr, new_lst s1 ra h1 (p.mono e1 s1)⟩
/-- list(d) -/
@[simp] def oListD (m : Bool) : DCl := fun ds => match ds with
  | [.dit kvs] => newL m (kvs.map fun p => dRow p.1)
  | _ => stuck
theorem rp_isKeys {G : Gp} {w : Wd} {S : Store} (s : SOk G w S) : ∀ {kvs' : List (List Key × V)} {bs : List Addr} {kvs : List (List Key × Dv)}, IsKeys w.H kvs' bs → kvs'.map Prod.fst = kvs.map Prod.fst → RpAll G w (bs.map V.ref) (kvs.map fun p => dRow p.1)
  | _, _, [], h, e => by
    have e : _ = [] := List.map_eq_nil_iff.1 e
    subst e
    cases h
    exact .nil
  | [], _, _ :: _, _, e => by cases e
  | k' :: kvs', bs, k :: kvs, h, e => by
    unfold IsKeys at h
    cases h with
    | cons r t =>
      rw [List.map_cons, List.map_cons, List.cons.injEq] at e
      refine .cons ?_ (rp_isKeys s t e.2)
      have r' := r
      rw [e.1] at r'
      exact .tup (.inl ⟨r', s.ntup r'⟩) (rp_keys k.1)
theorem cd_listD {G : Gp} (m : Bool) : CallD G (fun xs H Q => ∃ d kvs, xs = [V.ref d] ∧ Rd H d (.dT kvs) ∧ ∀ p bs, H p = none → IsKeys H kvs bs → Q (.ref p) (upd H p (.lst (bs.map V.ref)))) (oListD m) := by
  intro W w σ S xs ds res Q s r h p
  unfold oListD at h
  split at h
  · rename_i kvs
    obtain ⟨v, rfl, hv⟩ := rp1 r
    cases hv with
    | dit hr hm hk ra => exact ⟨_, _, rfl, hr, fun l bs hl hb => new_lst s (rp_isKeys s hb hk) h p l hl⟩
  · cases h
@[simp] def fKeysT (fa : FE) : FI := fun env => bnd (fa env) fun x => match x with
  | .dit kvs => ret (kvs.map fun p => dRow p.1)
  | _ => stuck
theorem i_listD {tg : Expr} (hc : X.calm = true) (hm : X.mg "list" = none) (ha : DE X ξ W e fa) (hg : Gl X "list" := by rfl) (hst : starEach [e] X.env = (false, eval e X.env) :: starEach [] X.env := by rfl) : DI X ξ W tg (.Call (.Name "list" p) [e] [] pos) (fKeysT fa) := by
  refine PI.imp (pi_listT hc (pe_fz ha) hg hm PyProof.Rows.boot_list (by decide) (by decide) hst) fun σ H R ⟨w, env, S, res, eH, s, en, h, p⟩ => ?_
  subst eH
  refine seqR s en h p.px fun x S1 v w1 e1 s1 en1 r1 h1 => ?_
  cases r1 <;> first | (cases h1; done) | skip
  · rename_i a kvs' kvs hr hm hk ra
    cases h1
    have na : a ∉ w1.as := fun z => hm (.inr z)
    rcases hr with hr | ⟨o, hr⟩
    · exact .inr ⟨a, _, rfl, hr, True.intro, fun od => ⟨a, od, kvs', rfl, upd_same, p.ok_ (w' := w1.fz a (.frz od (.dT kvs'))) (e1.trans (.fz hr True.intro hm)) (s1.fz hr True.intro hm) (it_keysT (w := w1.fz a (.frz od (.dT kvs'))) upd_same na hk)⟩⟩
    · exact .inl ⟨a, o, kvs', rfl, hr, p.ok_ e1 s1 (it_keysT hr na hk)⟩
end
end FC

set_option Elab.async false
set_option linter.all false
set_option maxRecDepth 100000
set_option maxHeartbeats 4000000
namespace FC
open PySem PySem.Spec PyProof.Rows L2
/-! ### d.items(), d's keys rows -/
/-- what a frozen dict with row keys is in the heap -/
theorem frzTV {X : Cx} {pins : List (Addr × Obj)} {σ : L2.St} {H : Hp} {s : Shared} {d : Addr} {o : Obj} {kvs : List (List Key × V)} (I : Inv X pins σ H s) (h : H d = some (.frz o (.dT kvs))) :
    (d == sysModules) = false ∧ s.heap.get? d = some o ∧ o.ExactDict ∧ kvs.length ≤ sizeLine ∧ ∃ (es : Array DictEntry) (ep : Nat), o.data = .dict es ep ∧ es.size = kvs.length ∧
      ∀ (i : Nat) (k : List Key) (v : V), kvs[i]? = some (k, v) → ∃ (en : DictEntry) (q : Addr), es[i]? = some en ∧ en.key = .ref q ∧ H q = some (.tup (k.map kV)) ∧ RelV v en.val := by
  obtain ⟨hd, z, hs, xs, pr, o', es, ep, ho, hx, hdt, he, _⟩ := I.hok d _ h
  rw [hd] at ho
  cases ho
  have l1 : es.size = xs.length := size_of_entries he
  have l2 : kvs.length = xs.length := Paired.length pr
  refine ⟨hs, hd, hx, z, es, ep, hdt, by omega, fun i k v e => ?_⟩
  obtain ⟨b, hb, e1, e2, e3⟩ := L2.paired_get pr e
  have qe := entry_at he i
  rw [hb] at qe
  exact ⟨_, b.2.1, qe, rfl, by simpa using e2, e3⟩
def ItiT (d : Addr) (o : Obj) (kvs : List (List Key × V)) : It :=
  ⟨fun i H => H d = some (.frz o (.dT kvs)) ∧ i < kvs.length, fun i H x H' => ∃ T k v q, kvs[i]? = some (k, v) ∧ x = .ref T ∧ H T = none ∧ H q = some (.tup (k.map kV)) ∧ H' = upd H T (.tup [.ref q, v]), fun i H => H d = some (.frz o (.dT kvs)) ∧ kvs.length ≤ i⟩
theorem turn_itemsT {P : Program} {w : World} {K : PySem.W.Frag} {elts : List Expr} {kk : Nat} {tpos : Pos} {d : Addr} {o : Obj} {es : Array DictEntry} {ep : Nat} {kvs : List (List Key × V)} (it : Addr) (hod : o.data = .dict es ep) :
    Turn P w K (.Tuple elts kk tpos) (ItiT d o kvs) [it] it (fun i h => ∃ ok ov, IsItemIter h it d i kvs.length ep ok ov) where
  mem := by simp
  obj := fun i h st b hb => by
    have e : b = it := by simpa using hb
    subst e
    obtain ⟨ok, ov, e⟩ := st
    exact ⟨_, e, fun v z => nomatch z⟩
  keep := fun i h h' st k => let ⟨ok, ov, e⟩ := st; ⟨ok, ov, k it (by simp) _ e⟩
  item := by
    intro X hP hw hK hc i pins s σ H E I hf st hg
    subst hP hw hK
    obtain ⟨hd, hi⟩ := hg
    obtain ⟨hs, hgd, hx, _, es', ep', hdt, hsz, ent⟩ := frzTV I hd
    obtain ⟨rfl, rfl⟩ := dict_ep hod hdt
    obtain ⟨⟨k, v⟩, hkv⟩ : ∃ p, kvs[i]? = some p := ⟨kvs[i], List.getElem?_eq_getElem hi⟩
    obtain ⟨en, q, hen, hk1, hq, rv⟩ := ent i k v hkv
    obtain ⟨ok, ov, he⟩ := st
    rw [← hsz] at he
    have hie : i < es'.size := by omega
    have ee : es'[i] = en := by rw [Array.getElem?_eq_getElem hie] at hen; exact Option.some.inj hen
    have hlt : it < s.heap.objs.size := Heap.lt_size he
    refine DT.nextI he ⟨o, hgd, hx, hod⟩ hie fun h' ho hT hz hk => ?_
    refine ⟨_, rfl, wpAny_letOwnedTupleGo_items (s := { s with heap := h' }) ho fun h'' he' sb => ?_⟩
    have hT2 : h''.get? s.heap.objs.size = some { cls := .type "tuple", data := .seq #[.ref q, en.val] } := by
      refine (sb.2 _ (Nat.ne_of_gt hlt)).trans ?_
      rw [← hk1, ← ee]
      exact hT
    have new : ObjOk X.prog X.w (upd H s.heap.objs.size (.tup [.ref q, v])) h'' s.heap.objs.size (.tup [.ref q, v]) :=
      ⟨by show 2 ≤ sizeLine; decide, [.ref q, en.val], .cons rfl (.cons rv .nil), ⟨_, hT2, rfl, _, rfl⟩⟩
    have I1 : Inv X pins σ (upd H s.heap.objs.size (.tup [.ref q, v])) { s with heap := h'' } :=
      I.turnedNew (t' := s.toks) (ch := [it]) (fun b ob hb e => (sb.2 b (by simpa using hb)).trans (hk b ob (by simpa using hb) e)) hf (Nat.le_refl _) new
    refine ⟨.ref s.heap.objs.size, _, I1, rfl, ⟨_, k, v, q, hkv, rfl, I.hok.fresh (Nat.le_refl _), hq, rfl⟩, ⟨es'[i].key, es'[i].val, ?_⟩, fun b hb => ?_⟩
    · rw [← hsz]; exact he'
    · have e : b = it := by simpa using hb
      rw [e, upd_ne (Nat.ne_of_lt hlt)]
      exact (hf it (by simp)).1
  done := by
    intro X hP hw hK hc i pins s σ H E I hf st hg
    subst hP hw hK
    obtain ⟨hd, hi⟩ := hg
    obtain ⟨f0, f1, f2, f3, f4, f5⟩ := hf it (by simp)
    obtain ⟨hs, hgd, hx, _, es', ep', hdt, hsz, ent⟩ := frzTV I hd
    obtain ⟨rfl, rfl⟩ := dict_ep hod hdt
    obtain ⟨ok, ov, he⟩ := st
    rw [← hsz] at he
    exact DT.endI (I.ok.hd hc) he ⟨o, hgd, hx, hod⟩ (by omega) fun h' eb => ⟨rfl, I.turned (t' := s.toks) (fun b ob hb e => eb b ob hb e) f0 f1 f3 f4 f5⟩
  self := fun A i s Q E st h => let ⟨_, _, e⟩ := st; PySem.W.kcp_self e h
def iItemsT (td : TE) : TI := fun σ H R => td σ H fun x H1 => ∃ d o kvs, x = .ref d ∧ H1 d = some (.frz o (.dT kvs)) ∧ R (ItiT d o kvs) H1
theorem pi_itemsT {X : Cx} {e : Expr} {td : TE} {apos cpos tpos : Pos} {elts : List Expr} {kk : Nat} (he : PE X e td) (hbase : attributeBase e "items" X.env (eval e X.env) = eval e X.env := by rfl) (hline : (apos.endLine == cpos.line) = true := by rfl) :
    PI X (.Tuple elts kk tpos) (.Call (.Attribute e "items" apos) [] [] cpos) (iItemsT td) := by
  refine ⟨fun pins s σ H R I h => ?_⟩
  refine wpAny_Call_method (T := "dict") (id := "dict.items") hbase rfl hline F.plainAttrs_dict F.slot_dict_items F.type_dict_items (thn (he.run pins s σ H _ I h) fun u s1 ⟨x, H1, I1, rx, d, o, kvs, ex, hd, q⟩ => ?_)
  subst ex
  obtain rfl : u = Value.ref d := rx
  obtain ⟨hs, hgd, hx, _, es, ep, hdt, hsz, ent⟩ := frzTV I1 hd
  have raw : DT.Raw s1.heap d es ep := ⟨o, hgd, hx, hdt⟩
  refine ⟨⟨o, hgd, hx.1⟩, fun a ea => by cases ea; exact ⟨o, hgd, hx.2.1⟩, ?_⟩
  have I2 : Inv X pins σ H1 { s1 with heap := s1.heap.push { cls := .type "dict_items", data := .fields #[.ref d] } } := I1.kept (t' := s1.toks) fun b ob q => Heap.get?_push_of_some _ q
  show wpAny _ _ (callWith cpos (.builtin "dict.items") [.ref d] [] []) _ X.xe s1
  refine method_meetsIn F.slot_dict_items F.entry_dict_items rfl (PySem.evalArgs_none ⟨rfl, ⟨o, hgd, hx.1⟩, F.args_dict_items_1 _, _, DT.meetsItems (es := es) (ep := ep) hs, ⟨raw, ?_⟩⟩)
  have raw2 : DT.Raw (s1.heap.push { cls := .type "dict_items", data := .fields #[.ref d] }) d es ep := ⟨o, Heap.get?_push_of_some _ hgd, hx, hdt⟩
  show wpAny (model X.prog X.w) X.A (pyIter (.ref s1.heap.objs.size)) (PIE X pins σ (.Tuple elts kk tpos) R) X.xe { s1 with heap := s1.heap.push { cls := .type "dict_items", data := .fields #[.ref d] } }
  refine DT.iterI (s := { s1 with heap := s1.heap.push { cls := .type "dict_items", data := .fields #[.ref d] } }) (d := d) ⟨_, Heap.get?_push_size _ rfl, rfl, rfl⟩ raw2 (pi_one (tk := s1.toks) I2 _ (turn_itemsT _ hdt) ⟨.none, .none, ?_⟩ q)
  rw [← hsz]
  exact Heap.get?_push_size _ rfl
section
variable {X : Cx} {ξ : Iv} {W : WX} {e : Expr} {fa : FE} {apos cpos tpos : Pos} {elts : List Expr} {kk : Nat}
@[simp] def fItems (fa : FE) : FI := fun env => bnd (fa env) fun x => match x with
  | .dit kvs => ret (kvs.map fun p => .tup [dRow p.1, p.2])
  | _ => stuck
theorem it_itemsT {w : Wd} {G : Gp} {d : Addr} {od : Obj} {kvs' : List (List Key × V)} {kvs : List (List Key × Dv)} (hd : w.H d = some (.frz od (.dT kvs'))) (n : d ∉ w.as) (hk : kvs'.map Prod.fst = kvs.map Prod.fst) (ra : RpAll G w (kvs'.map Prod.snd) (kvs.map Prod.snd)) : ItOk G w (ItiT d od kvs') (kvs.map fun p => .tup [dRow p.1, p.2]) := fun w2 S2 e2 s2 => by
  have hd2 := e2.kp id n hd
  have ra2 := ra.mono e2
  have hl : kvs'.length = kvs.length := by have := congrArg List.length hk; simpa using this
  refine ⟨fun i hi => ⟨hd2, by simpa [hl] using hi⟩, ⟨hd2, by simp [hl]⟩, fun i x v H' hx hy => ?_⟩
  obtain ⟨T, k, u, q, h1, rfl, hT, h2, rfl⟩ := hy
  have h3 : (kvs.map Prod.fst)[i]? = some k := by rw [← hk]; simp [h1]
  rw [List.getElem?_map] at hx h3
  cases h : kvs[i]? with
  | none => rw [h] at h3; cases h3
  | some p =>
    rw [h] at h3 hx
    cases h3
    cases hx
    obtain ⟨u2, g1, g2⟩ := ra2.get (i := i) (d := p.2) (by rw [List.getElem?_map, h]; rfl)
    rw [List.getElem?_map, h1] at g1
    cases g1
    exact new_pair s2 hT (.tup (.inl ⟨h2, s2.ntup h2⟩) (rp_keys p.1)) g2
theorem i_items (ha : DE X ξ W e fa) (hbase : attributeBase e "items" X.env (eval e X.env) = eval e X.env := by rfl) (hline : (apos.endLine == cpos.line) = true := by rfl) : DI X ξ W (.Tuple elts kk tpos) (.Call (.Attribute e "items" apos) [] [] cpos) (fItems fa) := PI.imp (pi_itemsT (pe_fz ha) hbase hline) fun σ H R ⟨w, env, S, res, eH, s, en, h, p⟩ => by
  subst eH
  refine seqR s en h p.px fun x S1 v w1 e1 s1 en1 r1 h1 => ?_
  cases r1 <;> first | (cases h1; done) | skip
  rename_i a kvs' kvs hr hm hk ra
  cases h1
  have na : a ∉ w1.as := fun z => hm (.inr z)
  rcases hr with hr | ⟨o, hr⟩
  · exact .inr ⟨a, _, rfl, hr, True.intro, fun od => ⟨a, od, kvs', rfl, upd_same, p.ok_ (w' := w1.fz a (.frz od (.dT kvs'))) (e1.trans (.fz hr True.intro hm)) (s1.fz hr True.intro hm) (it_itemsT (w := w1.fz a (.frz od (.dT kvs'))) upd_same na hk (ra.mono (.fz hr True.intro hm)))⟩⟩
  · exact .inl ⟨a, o, kvs', rfl, hr, p.ok_ e1 s1 (it_itemsT hr na hk ra)⟩
end
end FC

set_option Elab.async false
set_option linter.all false
set_option maxRecDepth 100000
set_option maxHeartbeats 4000000
namespace FC
open PySem PySem.Spec L2
/-! ### a, b, c = x, y, z -/
def sPar3 (i j l : Nat) (fa : FA) : FS := sBnd fa fun ds env S => match ds with
  | [a, b, c] => some (.nx (((env.set i (some a)).set j (some b)).set l (some c)) S)
  | _ => none
section
variable {X : Cx} {ξ : Iv} {W : WX}
theorem s_par3 {i j l : Nat} {x y z : Str} {a b c : Expr} {fa : FA} {px py pz pt pos : Pos} {kt k2 pt2} (hc : X.calm = true) (hN : X.N.Nodup) (ha : DA X ξ W [a, b, c] fa) (hi : X.N[i]? = some x := by rfl) (hj : X.N[j]? = some y := by rfl) (hl : X.N[l]? = some z := by rfl) (hij : i ≠ j := by decide) (hil : i ≠ l := by decide) (hjl : j ≠ l := by decide)
    (hx : X.env.scope.names.lookup x = some .local := by rfl) (hy : X.env.scope.names.lookup y = some .local := by rfl) (hz : X.env.scope.names.lookup z = some .local := by rfl)
    (hw : swappedStores [.Tuple [.Name x px, .Name y py, .Name z pz] kt pt] (.Tuple [a, b, c] k2 pt2) X.env = pure (some [x, y, z]) := by rfl)
    (hs : swapsWithSole [.Tuple [.Name x px, .Name y py, .Name z pz] kt pt] (.Tuple [a, b, c] k2 pt2) pos.line X.env = pure false := by rfl) (oi : ξ.ok i := by first | trivial | decide) (oj : ξ.ok j := by first | trivial | decide) (ol : ξ.ok l := by first | trivial | decide) :
    DS X ξ W (.Assign [.Tuple [.Name x px, .Name y py, .Name z pz] kt pt] (.Tuple [a, b, c] k2 pt2) pos) (sPar3 i j l fa) := PS.imp (ps_par3 hc hN hi hj hl hij hil hjl hx hy hz ha hw hs) fun D σ H h => by
  obtain ⟨w, env, S, r, eH, s, en, h, p⟩ := h
  subst eH
  refine seqS s en h p.px fun ds S1 vs w1 e1 s1 en1 r1 h1 => ?_
  cases r1 with
  | nil => cases h1
  | cons ra rr =>
    cases rr with
    | nil => cases h1
    | cons rb rr =>
      cases rr with
      | nil => cases h1
      | cons rc rr =>
        cases rr with
        | cons _ _ => cases h1
        | nil =>
          cases h1
          exact ⟨_, _, _, rfl, p _ w1 e1 s1 (((en1.set oi ra).set oj rb).set ol rc)⟩
end
end FC

set_option Elab.async false
set_option linter.all false
set_option maxRecDepth 100000
set_option maxHeartbeats 4000000
namespace FCL
open PySem PySem.Spec L2 FC
open PySem.SupX (SupTxt)
noncomputable section
def fsM__law_pool : FS := (sSeq (sAsg (fC (.int 0)) (bName 2))
    (sSeq (sIf (fTest (fOp oLt (fVar 1) (fCall oLen (fCons (fVar 0) fNil)))) (sAsg (fCall oAbs (fCons (fCall oInt1 (fCons (fOp oIx (fVar 0) (fVar 1)) fNil)) fNil)) (bName 2)) sNext)
    (sSeq (sIf (fTest (fOp oGe (fVar 2) (fOp oPow (fC (.int 10)) (fC (.int 18))))) (sRet (fLst true (fCons (fOp oSub (fVar 2) (fOp oPow (fC (.int 10)) (fC (.int 18)))) (fCons (fC (.int 0)) (fCons (fOp oMod (fCall oInt1 (fCons (fVar 2) fNil)) (fC (.int 999999937))) fNil))))) sNext)
    (sRet (fLst true (fCons (fC (.int 0)) (fCons (fC (.int 0)) (fCons (fOp oMod (fCall oInt1 (fCons (fVar 2) fNil)) (fC (.int 999999937))) fNil))))))))
def M__law_pool : DFn := gcM (bodyF 3 fsM__law_pool)
def fsF__law_draw : FS := (sSeq (sSetIx (fVar 0) (fC (.int 1)) (fOp oAdd (fOp oIx (fVar 0) (fC (.int 1))) (fC (.int 1))))
    (sSeq (sIf (fTest (fOp oGt (fOp oIx (fVar 0) (fC (.int 0))) (fC (.int 0)))) (sSeq (sAsg (fOp oMod (fCall oInt1 (fCons (fOp oIx (fVar 0) (fC (.int 0))) fNil)) (fVar 1)) (bName 2))
    (sSeq (sSetIx (fVar 0) (fC (.int 0)) (fOp oDiv (fOp oIx (fVar 0) (fC (.int 0))) (fVar 1)))
    (sRet (fVar 2)))) sNext)
    (sSeq (sAsg (fOp oMod (fCall oInt1 (fCons (fOp oAdd (fOp oAdd (fOp oMul (fOp oIx (fVar 0) (fC (.int 2))) (fC (.int 7919))) (fOp oMul (fOp oIx (fVar 0) (fC (.int 1))) (fC (.int 104729)))) (fC (.int 12345))) fNil)) (fC (.int 1000003))) (bName 3))
    (sSeq (sAsg (fOp oMod (fCall oInt1 (fCons (fOp oAdd (fOp oAdd (fOp oAdd (fOp oMul (fVar 3) (fVar 3)) (fOp oMul (fOp oIx (fVar 0) (fC (.int 1))) (fC (.int 31)))) (fOp oDiv (fOp oIx (fVar 0) (fC (.int 2))) (fC (.int 1000)))) (fC (.int 7))) fNil)) (fC (.int 998244353))) (bName 4))
    (sSeq (sAsg (fOp oMod (fCall oInt1 (fCons (fOp oAdd (fOp oAdd (fOp oMul (fVar 4) (fC (.int 48271))) (fOp oDiv (fVar 4) (fC (.int 1009)))) (fOp oMul (fOp oIx (fVar 0) (fC (.int 1))) (fOp oIx (fVar 0) (fC (.int 1))))) fNil)) (fC (.int 2147483647))) (bName 5))
    (sRet (fOp oMod (fCall oInt1 (fCons (fOp oDiv (fVar 5) (fC (.int 7))) fNil)) (fVar 1))))))))
def F__law_draw : DFn := gcD (bodyF 6 fsF__law_draw)
def LF__law_house_1 : FS := (sCl [6] (sIf (fAnd (fTest (fOp oEq (fVar 4) (fC (.int 0)))) (fTest (fOp oGe (fVar 2) (fOp oAdd (fVar 3) (fC (.int 2)))))) (sExpr (fMeth1 appK (fVar 5) (fCons (fC (.int 1)) fNil))) (sIf (fTest (fOp oLt (fVar 4) (fC (.int 2)))) (sExpr (fMeth1 appK (fVar 5) (fCons (fOp oAdd (fC (.int 1)) (fCall (clF 2 F__law_draw) (fCons (fVar 0) (fCons (fOp oAdd (fVar 3) (fC (.int 3))) fNil)))) fNil))) (sExpr (fMeth1 appK (fVar 5) (fCons (fOp oPow (fC (.int 10)) (fC (.int 18))) fNil))))))
def fsF__law_house : FS := (sSeq (sAsg (fLst false (fCons (fTup (fCons (fC (.int 2)) (fCons (fC (.int 2)) fNil))) (fCons (fTup (fCons (fC (.int 3)) (fCons (fC (.int 2)) fNil))) (fCons (fTup (fCons (fC (.int 3)) (fCons (fC (.int 1)) fNil))) (fCons (fTup (fCons (fC (.int 4)) (fCons (fC (.int 2)) fNil))) (fCons (fTup (fCons (fC (.int 2)) (fCons (fC (.int 3)) fNil))) (fCons (fTup (fCons (fC (.int 4)) (fCons (fC (.int 1)) fNil))) (fCons (fTup (fCons (fC (.int 3)) (fCons (fC (.int 3)) fNil))) (fCons (fTup (fCons (fC (.int 5)) (fCons (fC (.int 2)) fNil))) fNil))))))))) (bName 1))
    (sSeq (sAsg (fOp (oAddX false) (fVar 1) (fLst false (fCons (fTup (fCons (fC (.int 2)) (fCons (fC (.int 1)) fNil))) (fCons (fTup (fCons (fC (.int 5)) (fCons (fC (.int 1)) fNil))) (fCons (fTup (fCons (fC (.int 3)) (fCons (fC (.int 4)) fNil))) (fCons (fTup (fCons (fC (.int 1)) (fCons (fC (.int 2)) fNil))) (fCons (fTup (fCons (fC (.int 2)) (fCons (fC (.int 5)) fNil))) (fCons (fTup (fCons (fC (.int 5)) (fCons (fC (.int 3)) fNil))) (fCons (fTup (fCons (fC (.int 6)) (fCons (fC (.int 1)) fNil))) (fCons (fTup (fCons (fC (.int 6)) (fCons (fC (.int 2)) fNil))) fNil)))))))))) (bName 1))
    (sSeq (sAsg (fOp oIx (fVar 1) (fCall (clF 2 F__law_draw) (fCons (fVar 0) (fCons (fC (.int 16)) fNil)))) (bTup 2 (bCons (bName 2) (bCons (bName 3) bNil))))
    (sSeq (sAsg (fCall (clF 2 F__law_draw) (fCons (fVar 0) (fCons (fC (.int 4)) fNil))) (bName 4))
    (sSeq (sAsg (fLst true fNil) (bName 5))
    (sSeq (sFor (fRng1 (fCons (fVar 2) fNil)) (bName 6) LF__law_house_1)
    (sRet (fTup (fCons (fVar 2) (fCons (fVar 3) (fCons (fCall oTuple (fCons (fVar 5) fNil)) fNil)))))))))))
def F__law_house : DFn := gcD (bodyF 7 fsF__law_house)
def LF__law_any_house_1 : FS := (sCl [4] (sIf (fTest (fOp oEq (fCall (clF 2 F__law_draw) (fCons (fVar 0) (fCons (fC (.int 3)) fNil))) (fC (.int 0)))) (sExpr (fMeth1 appK (fVar 3) (fCons (fOp oAdd (fC (.int 1)) (fCall (clF 2 F__law_draw) (fCons (fVar 0) (fCons (fOp oPow (fC (.int 10)) (fC (.int 18))) fNil)))) fNil))) (sExpr (fMeth1 appK (fVar 3) (fCons (fOp oAdd (fC (.int 1)) (fCall (clF 2 F__law_draw) (fCons (fVar 0) (fCons (fOp oAdd (fVar 2) (fC (.int 3))) fNil)))) fNil)))))
def fsF__law_any_house : FS := (sSeq (sIf (fTest (fOp oGt (fCall (clF 2 F__law_draw) (fCons (fVar 0) (fCons (fC (.int 8)) fNil))) (fC (.int 0)))) (sRet (fCall (clF 1 F__law_house) (fCons (fVar 0) fNil))) sNext)
    (sSeq (sAsg (fOp oAdd (fC (.int 1)) (fCall (clF 2 F__law_draw) (fCons (fVar 0) (fCons (fC (.int 6)) fNil)))) (bName 1))
    (sSeq (sAsg (fOp oAdd (fC (.int 1)) (fCall (clF 2 F__law_draw) (fCons (fVar 0) (fCons (fC (.int 5)) fNil)))) (bName 2))
    (sSeq (sAsg (fLst true fNil) (bName 3))
    (sSeq (sFor (fRng1 (fCons (fVar 1) fNil)) (bName 4) LF__law_any_house_1)
    (sRet (fTup (fCons (fVar 1) (fCons (fVar 2) (fCons (fCall oTuple (fCons (fVar 3) fNil)) fNil))))))))))
def F__law_any_house : DFn := gcD (bodyF 5 fsF__law_any_house)
def fsF_House___init__ : FS := (sSeq (sIf (fNot (fTest (fChain oLe oLe (fC (.int 1)) (fVar 1) (fC (.int 6))))) (sRaise "BadHouse" ["what"] (fCons (fC (.str "kinds")) fNil)) sNext)
    (sSeq (sIf (fNot (fTest (fChain oLe oLe (fC (.int 1)) (fVar 2) (fC (.int 5))))) (sRaise "BadHouse" ["what"] (fCons (fC (.str "chairs")) fNil)) sNext)
    (sSeq (sAsg (fOrT (fCall oTuple (fCons (fVar 3) fNil)) (fOp oMulT (fTup (fCons (fC (.int 1000000000000000000)) fNil)) (fVar 1))) (bName 4))
    (sSeq (sIf (fOr (fTest (fOp oNe (fCall oLen (fCons (fVar 4) fNil)) (fVar 1))) (fNot (fTru (fCall oAllL (fCons (fLc false (fIt (fVar 4)) [5] (bName 5) fYes (fChain oLe oLe (fC (.int 1)) (fVar 5) (fC (.int 1000000000000000000)))) fNil))))) (sRaise "BadHouse" ["what"] (fCons (fC (.str "most")) fNil)) sNext)
    (sSeq (sSetFld "House" "kinds" (fVar 0) (fVar 1))
    (sSeq (sSetFld "House" "chairs" (fVar 0) (fVar 2))
    (sSetFld "House" "most" (fVar 0) (fVar 4))))))))
def F_House___init__ : DFn := gcD (bodyF 6 fsF_House___init__)
def LF__law_parts_1 : FS := (sCl [6] (sExpr (fMeth1 appK (fVar 4) (fCons (fOp (oAddX false) (fVar 5) (fTup (fCons (fVar 6) fNil))) fNil))))
def LF__law_parts_2 : FS := (sCl [5, 6] (sFor (fRng1 (fCons (fOp oAdd (fCall oMin2 (fCons (fOp oIx (fVar 0) (fVar 3)) (fCons (fOp oSub (fVar 1) (fCall oSum (fCons (fVar 5) fNil))) fNil))) (fC (.int 1))) fNil)) (bName 6) LF__law_parts_1))
def LF__law_parts_3 : FS := (sGc [3, 4, 5, 6] (sSeq (sAsg (fLst true fNil) (bName 4))
    (sSeq (sFor (fIt (fCall (oList false) (fCons (fVar 2) fNil))) (bName 5) LF__law_parts_2)
    (sAsg (fCall (oList false) (fCons (fVar 4) fNil)) (bName 2)))))
def fsF__law_parts : FS := (sSeq (sAsg (fLst false (fCons (fTup fNil) fNil)) (bName 2))
    (sSeq (sFor (fRng1 (fCons (fCall oLen (fCons (fVar 0) fNil)) fNil)) (bName 3) LF__law_parts_3)
    (sRet (fLc false (fIt (fVar 2)) [5] (bName 5) (fTest (fOp oEq (fCall oSum (fCons (fVar 5) fNil)) (fVar 1))) (fVar 5)))))
def F__law_parts : DFn := gcD (bodyF 7 fsF__law_parts)
def LF__law_table_1 : FS := (sCl [4, 5] (sSeq (sAsg (fLc false (fRng1 (fCons (fCall oLen (fCons (fVar 1) fNil)) fNil)) [6] (bName 6) (fTest (fOp oGt (fOp oIx (fVar 4) (fVar 6)) (fC (.int 0)))) (fVar 6)) (bName 5))
    (sDput (fVar 3) (fVar 4) (fOp oIx (fVar 5) (fCall (clF 2 F__law_draw) (fCons (fVar 0) (fCons (fCall oLen (fCons (fVar 5) fNil)) fNil)))))))
def fsF__law_table : FS := (sSeq (sAsg (fDnew true true) (bName 3))
    (sSeq (sFor (fIt (fCall (clF 2 F__law_parts) (fCons (fVar 1) (fCons (fOp oAdd (fVar 2) (fC (.int 1))) fNil)))) (bName 4) LF__law_table_1)
    (sRet (fVar 3))))
def F__law_table : DFn := gcD (bodyF 7 fsF__law_table)
def fsF__law_inside : FS := (sRet (fLc false (fRng1 (fCons (fCall oLen (fCons (fVar 0) fNil)) fNil)) [1] (bName 1) (fTest (fOp oGt (fOp oIx (fVar 0) (fVar 1)) (fC (.int 0)))) (fVar 1)))
def F__law_inside : DFn := gcD (bodyF 2 fsF__law_inside)
def LF__law_number_1 : FS := (sCl [4, 5, 6] (sSeq (sAsg (fOp oSub (fOp oSub (fCall oLen (fCons (fVar 0) fNil)) (fC (.int 1))) (fVar 4)) (bName 5))
    (sSeq (sAsg (fCall (clF 1 F__law_inside) (fCons (fOp oIx (fVar 0) (fVar 5)) fNil)) (bName 6))
    (sSeq (sAsg (fOp oAdd (fVar 2) (fOp oMul (fVar 3) (fMR idxK (fVar 6) (fCons (fOp oIx (fVar 1) (fVar 5)) fNil)))) (bName 2))
    (sAsg (fOp oMul (fVar 3) (fCall oLen (fCons (fVar 6) fNil))) (bName 3))))))
def fsF__law_number : FS := (sSeq (sAsg (fC (.int 0)) (bName 2))
    (sSeq (sAsg (fC (.int 1)) (bName 3))
    (sSeq (sFor (fRng1 (fCons (fCall oLen (fCons (fVar 0) fNil)) fNil)) (bName 4) LF__law_number_1)
    (sRet (fTup (fCons (fVar 2) (fCons (fVar 3) fNil)))))))
def F__law_number : DFn := gcD (bodyF 7 fsF__law_number)
def LF__law_same_1 (F : DFn) : FS := (sCl [2] (sIf (fNot (fTru (fCall (clF 2 F) (fCons (fOp oIx (fVar 0) (fVar 2)) (fCons (fOp oIx (fVar 1) (fVar 2)) fNil))))) (sRet (fC (.bl false))) sNext))
def fsF__law_same (F : DFn) : FS := (sSeq (sIf (fTest (fOp oIs (fVar 1) (fC .non))) (sRet (fOp oIs (fVar 0) (fC .non))) sNext)
    (sSeq (sIf (fTru (fIsi "bool" (fVar 1))) (sRet (fAndV (fIsi "bool" (fVar 0)) (fOp oEq (fVar 0) (fVar 1)))) sNext)
    (sSeq (sIf (fTru (fIsi "int" (fVar 1))) (sRet (fAndV (fIsi "int" (fVar 0)) (fAndV (fNotV (fIsi "bool" (fVar 0))) (fOp oEq (fVar 0) (fVar 1))))) sNext)
    (sSeq (sIf (fTru (fIsi "str" (fVar 1))) (sRet (fAndV (fIsi "str" (fVar 0)) (fOp oEq (fVar 0) (fVar 1)))) sNext)
    (sSeq (sIf (fTru (fIsi "tuple" (fVar 1))) (sIf (fOr (fNot (fTru (fIsi "tuple" (fVar 0)))) (fTest (fOp oNe (fCall oLen (fCons (fVar 0) fNil)) (fCall oLen (fCons (fVar 1) fNil))))) (sRet (fC (.bl false))) sNext) (sIf (fOr (fNot (fTru (fIsi "list" (fVar 0)))) (fTest (fOp oNe (fCall oLen (fCons (fVar 0) fNil)) (fCall oLen (fCons (fVar 1) fNil))))) (sRet (fC (.bl false))) sNext))
    (sSeq (sFor (fRng1 (fCons (fCall oLen (fCons (fVar 1) fNil)) fNil)) (bName 2) (LF__law_same_1 F))
    (sRet (fC (.bl true)))))))))
def itF__law_same : Nat → DFn
  | 0 => fun _ _ => none
  | n + 1 => gcD (bodyF 3 (fsF__law_same (itF__law_same n)))
def F__law_same : DFn := itF__law_same 5
def fsF_size : FS := (sRet (fCall oSum (fCons (fVar 0) fNil)))
def F_size : DFn := gcD (bodyF 1 fsF_size)
def LF__first_part_1 : FS := (sCl [4] (sSeq (sExpr (fMeth1 appK (fVar 2) (fCons (fCall oMin2 (fCons (fVar 4) (fCons (fVar 3) fNil))) fNil)))
    (sAsg (fOp oSub (fVar 3) (fCall oMin2 (fCons (fVar 4) (fCons (fVar 3) fNil)))) (bName 3))))
def fsF__first_part : FS := (sSeq (sIf (fNot (fTest (fChain oLe oLe (fC (.int 0)) (fVar 1) (fCall (clF 1 F_size) (fCons (fVar 0) fNil))))) (sRet (fC .non)) sNext)
    (sSeq (sAsg (fLst true fNil) (bName 2))
    (sSeq (sAsg (fVar 1) (bName 3))
    (sSeq (sFor (fRev (fCall (oList false) (fCons (fVar 0) fNil))) (bName 4) LF__first_part_1)
    (sRet (fCall oTuple (fCons (fRevL false (fVar 2)) fNil)))))))
def F__first_part : DFn := gcD (bodyF 5 fsF__first_part)
def LF__next_part_1 : FS := (sCl [3] (sSeq (sIf (fAnd (fTest (fOp oGt (fVar 2) (fC (.int 0)))) (fTest (fOp oLt (fOp oIx (fVar 1) (fVar 3)) (fOp oIx (fVar 0) (fVar 3))))) (sRet (fOp (oAddX false) (fOp (oAddX false) (fSl false (fVar 1) fNo (fSo (fVar 3))) (fTup (fCons (fOp oAdd (fOp oIx (fVar 1) (fVar 3)) (fC (.int 1))) fNil))) (fCall (clF 2 F__first_part) (fCons (fSl false (fVar 0) (fSo (fOp oAdd (fVar 3) (fC (.int 1)))) fNo) (fCons (fOp oSub (fVar 2) (fC (.int 1))) fNil))))) sNext)
    (sAsg (fOp oAdd (fVar 2) (fOp oIx (fVar 1) (fVar 3))) (bName 2))))
def fsF__next_part : FS := (sSeq (sAsg (fC (.int 0)) (bName 2))
    (sSeq (sFor (fRevR (fR1 (fCall oLen (fCons (fVar 1) fNil)))) (bName 3) LF__next_part_1)
    (sRet (fC .non))))
def F__next_part : DFn := gcD (bodyF 4 fsF__next_part)
def LF_part_list_1 : FS := (sSeq (sExpr (fMeth1 appK (fVar 2) (fCons (fVar 3) fNil)))
    (sAsg (fCall (clF 2 F__next_part) (fCons (fVar 0) (fCons (fVar 3) fNil))) (bName 3)))
def fsF_part_list : FS := (sSeq (sAsg (fLst true fNil) (bName 2))
    (sSeq (sAsg (fCall (clF 2 F__first_part) (fCons (fVar 0) (fCons (fVar 1) fNil))) (bName 3))
    (sSeq (sWhile big (fTest (fOp oNis (fVar 3) (fC .non))) LF_part_list_1)
    (sRet (fVar 2)))))
def F_part_list : DFn := gcD (bodyF 4 fsF_part_list)
def fsF_House_crowds : FS := (sRet (fCall (clF 2 F_part_list) (fCons (fFld "House" "most" (fVar 0)) (fCons (fVar 1) fNil))))
def F_House_crowds : DFn := gcD (bodyF 2 fsF_House_crowds)
def fsF_House_meetings : FS := (sRet (fMt "House" "crowds" 1 F_House_crowds (fVar 0) (fCons (fOp oAdd (fFld "House" "chairs" (fVar 0)) (fC (.int 1))) fNil)))
def F_House_meetings : DFn := gcD (bodyF 1 fsF_House_meetings)
def fsF_kinds_in : FS := (sRet (fLc false (fEnum (fCons (fVar 0) fNil)) [1, 2] (bTup 2 (bCons (bName 1) (bCons (bName 2) bNil))) (fTest (fOp oGt (fVar 2) (fC (.int 0)))) (fVar 1)))
def F_kinds_in : DFn := gcD (bodyF 3 fsF_kinds_in)
def LF_count_customs_1 : FS := (sCl [2] (sAsg (fOp oMul (fVar 1) (fCall oLen (fCons (fCall (clF 1 F_kinds_in) (fCons (fVar 2) fNil)) fNil))) (bName 1)))
def fsF_count_customs : FS := (sSeq (sAsg (fC (.int 1)) (bName 1))
    (sSeq (sFor (fIt (fMt "House" "meetings" 0 F_House_meetings (fVar 0) fNil)) (bName 2) LF_count_customs_1)
    (sRet (fVar 1))))
def F_count_customs : DFn := gcD (bodyF 3 fsF_count_customs)
def LF_check_answers_1 : FS := (sCl [2, 3, 4] (sIf (fTest (fOp oNin (fVar 4) (fVar 3))) (sRaise "BadCustom" ["at"] (fCons (fVar 2) fNil)) sNext))
def fsF_check_answers : FS := (sSeq (sFor (fEnumZip (fCons (fVar 0) (fCons (fVar 1) fNil))) (bTup 2 (bCons (bName 2) (bCons (bTup 2 (bCons (bName 3) (bCons (bName 4) bNil))) bNil))) LF_check_answers_1)
    (sIf (fTest (fOp oNe (fCall oLen (fCons (fVar 1) fNil)) (fCall oLen (fCons (fVar 0) fNil)))) (sRaise "BadCustom" ["at"] (fCons (fCall oMin2 (fCons (fCall oLen (fCons (fVar 1) fNil)) (fCons (fCall oLen (fCons (fVar 0) fNil)) fNil))) fNil)) sNext))
def F_check_answers : DFn := gcD (bodyF 5 fsF_check_answers)
def fsF_Custom___init__ : FS := (sSeq (sAsg (fMt "House" "meetings" 0 F_House_meetings (fVar 1) fNil) (bName 3))
    (sSeq (sExpr (fCall (clF 2 F_check_answers) (fCons (fLc false (fIt (fVar 3)) [4] (bName 4) fYes (fCall (clF 1 F_kinds_in) (fCons (fVar 4) fNil))) (fCons (fVar 2) fNil))))
    (sSeq (sSetFld "Custom" "house" (fVar 0) (fVar 1))
    (sSeq (sSetFld "Custom" "answers" (fVar 0) (fCall oTuple (fCons (fVar 2) fNil)))
    (sSetFld "Custom" "_goes" (fVar 0) (fDcT (fZip (fCons (fVar 3) (fCons (fVar 2) fNil))) [4, 5] (bTup 2 (bCons (bName 4) (bCons (bName 5) bNil))) fYes (fVar 4) (fVar 5)))))))
def F_Custom___init__ : DFn := gcD (bodyF 6 fsF_Custom___init__)
def fsF_Custom_table : FS := (sRet (fDcT (fKeys (fFld "Custom" "_goes" (fVar 0))) [1] (bName 1) fYes (fVar 1) (fOp oDget (fFld "Custom" "_goes" (fVar 0)) (fVar 1))))
def F_Custom_table : DFn := gcD (bodyF 2 fsF_Custom_table)
def LF_number_of_1 : FS := (sCl [2, 3, 4] (sSeq (sAsg (fCall (clF 1 F_kinds_in) (fCons (fVar 2) fNil)) (bName 4))
    (sAsg (fOp oAdd (fOp oMul (fVar 1) (fCall oLen (fCons (fVar 4) fNil))) (fMR idxK (fVar 4) (fCons (fVar 3) fNil))) (bName 1))))
def fsF_number_of : FS := (sSeq (sAsg (fC (.int 0)) (bName 1))
    (sSeq (sFor (fItems (fMt "Custom" "table" 0 F_Custom_table (fVar 0) fNil)) (bTup 2 (bCons (bName 2) (bCons (bName 3) bNil))) LF_number_of_1)
    (sRet (fVar 1))))
def F_number_of : DFn := gcD (bodyF 5 fsF_number_of)
def LF_custom_at_1 : FS := (sCl [4, 5, 6] (sSeq (sAsg (fCall (clF 1 F_kinds_in) (fCons (fVar 4) fNil)) (bName 5))
    (sSeq (sAsg (fCall oDivmod (fCons (fVar 3) (fCons (fCall oLen (fCons (fVar 5) fNil)) fNil))) (bTup 2 (bCons (bName 3) (bCons (bName 6) bNil))))
    (sExpr (fMeth1 appK (fVar 2) (fCons (fOp oIx (fVar 5) (fVar 6)) fNil))))))
def fsF_custom_at : FS := (sSeq (sIf (fNot (fTest (fChain oLe oLt (fC (.int 0)) (fVar 1) (fCall (clF 1 F_count_customs) (fCons (fVar 0) fNil))))) (sRaise "BadNumber" ["number"] (fCons (fVar 1) fNil)) sNext)
    (sSeq (sAsg (fLst true fNil) (bName 2))
    (sSeq (sAsg (fVar 1) (bName 3))
    (sSeq (sFor (fIt (fRevL false (fMt "House" "meetings" 0 F_House_meetings (fVar 0) fNil))) (bName 4) LF_custom_at_1)
    (sRet (fGc (fMk "Custom" 2 [] F_Custom___init__ (fCons (fVar 0) (fCons (fRevL false (fVar 2)) fNil)))))))))
def F_custom_at : DFn := gcD (bodyF 7 fsF_custom_at)
def fsF__law_refused_number : FS := (sSeq (sTryAs (sExpr (fCall (clF 2 F_custom_at) (fCons (fVar 0) (fCons (fVar 1) fNil)))) (cnL [("BadNumber", true)]) 2 (fun _ flds => (sRet (fTup (fCons (fXf flds "number") (fCons (fC (.bl true)) (fCons (fC (.bl true)) (fCons (fC (.bl false)) fNil))))))))
    (sRet (fC .non)))
def F__law_refused_number : DFn := gcD (bodyF 3 fsF__law_refused_number)
def LF__law_answers_1 : FS := (sCl [6, 7, 8] (sSeq (sAsg (fCall (clF 1 F__law_inside) (fCons (fVar 6) fNil)) (bName 7))
    (sSeq (sAsg (fOp oDiv (fVar 5) (fCall oLen (fCons (fVar 7) fNil))) (bName 5))
    (sSeq (sAsg (fOp oDiv (fVar 4) (fVar 5)) (bName 8))
    (sSeq (sExpr (fMeth1 appK (fVar 3) (fCons (fOp oIx (fVar 7) (fVar 8)) fNil)))
    (sAsg (fOp oSub (fVar 4) (fOp oMul (fVar 8) (fVar 5))) (bName 4)))))))
def fsF__law_answers : FS := (sSeq (sAsg (fLst true fNil) (bName 3))
    (sSeq (sAsg (fVar 1) (bName 4))
    (sSeq (sAsg (fVar 2) (bName 5))
    (sSeq (sFor (fIt (fVar 0)) (bName 6) LF__law_answers_1)
    (sRet (fCall oTuple (fCons (fVar 3) fNil)))))))
def F__law_answers : DFn := gcD (bodyF 9 fsF__law_answers)
def fsF_House___eq__ : FS := (sRet (fAndV (fIsc [("House", true)] (fVar 1)) (fAndV (fOp oEq (fFld "House" "kinds" (fVar 0)) (fFld "House" "kinds" (fVar 1))) (fAndV (fOp oEq (fFld "House" "chairs" (fVar 0)) (fFld "House" "chairs" (fVar 1))) (fOp oEq (fFld "House" "most" (fVar 0)) (fFld "House" "most" (fVar 1)))))))
def F_House___eq__ : DFn := gcD (bodyF 2 fsF_House___eq__)
def fsF__law_number_holds : FS := (sSeq (sIf (fNot (fTest (fChain oLe oLt (fC (.int 0)) (fVar 2) (fVar 3)))) (sRet (fCall (clF 2 F__law_same) (fCons (fCall (clF 2 F__law_refused_number) (fCons (fVar 0) (fCons (fVar 2) fNil))) (fCons (fTup (fCons (fVar 2) (fCons (fC (.bl true)) (fCons (fC (.bl true)) (fCons (fC (.bl false)) fNil))))) fNil)))) sNext)
    (sSeq (sAsg (fCall (clF 2 F_custom_at) (fCons (fVar 0) (fCons (fVar 2) fNil))) (bName 4))
    (sSeq (sAsg (fCall (clF 3 F__law_answers) (fCons (fVar 1) (fCons (fVar 2) (fCons (fVar 3) fNil)))) (bName 5))
    (sSeq (sIf (fOr (fNot (fTru (fCall (clF 2 F__law_same) (fCons (fFld "Custom" "answers" (fVar 4)) (fCons (fVar 5) fNil))))) (fNot (fTru (fCall oBool1 (fCons (fOp (oOwn "House" F_House___eq__) (fFld "Custom" "house" (fVar 4)) (fVar 0)) fNil))))) (sRet (fC (.bl false))) sNext)
    (sRet (fCall (clF 2 F__law_same) (fCons (fCall (clF 1 F_number_of) (fCons (fVar 4) fNil)) (fCons (fVar 2) fNil))))))))
def F__law_number_holds : DFn := gcD (bodyF 6 fsF__law_number_holds)
def LF_law_1 : FS := (sCl [18] (sIf (fNot (fTru (fCall (clF 4 F__law_number_holds) (fCons (fVar 5) (fCons (fVar 6) (fCons (fVar 18) (fCons (fVar 11) fNil))))))) (sRet (fC (.bl false))) sNext))
def fsF_law : FS := (sSeq (sAsg (fCall (clF 2 M__law_pool) (fCons (fVar 0) (fCons (fC (.int 0)) fNil))) (bName 1))
    (sSeq (sIf (fTest (fOp oEq (fCall (clF 2 F__law_draw) (fCons (fVar 1) (fCons (fC (.int 32)) fNil))) (fC (.int 0)))) (sPar3 2 3 4 (fCons (fC (.int 6)) (fCons (fC (.int 5)) (fCons (fCall oTuple (fCons (fLc false (fRng1 (fCons (fC (.int 6)) fNil)) [20] (bName 20) fYes (fOp oPow (fC (.int 10)) (fC (.int 18)))) fNil)) fNil)))) (sAsg (fCall (clF 1 F__law_any_house) (fCons (fVar 1) fNil)) (bTup 3 (bCons (bName 2) (bCons (bName 3) (bCons (bName 4) bNil))))))
    (sSeq (sAsg (fGc (fMkK "House" 2 1 (fun x y => x ++ y) F_House___init__ (fCons (fVar 2) (fCons (fVar 3) fNil)) (fCons (fVar 4) fNil))) (bName 5))
    (sSeq (sAsg (fCall (clF 2 F__law_parts) (fCons (fVar 4) (fCons (fOp oAdd (fVar 3) (fC (.int 1))) fNil))) (bName 6))
    (sSeq (sAsg (fCall (clF 3 F__law_table) (fCons (fCall (clF 2 M__law_pool) (fCons (fVar 0) (fCons (fC (.int 1)) fNil))) (fCons (fVar 4) (fCons (fVar 3) fNil)))) (bName 7))
    (sSeq (sAsg (fLc false (fIt (fVar 6)) [19] (bName 19) fYes (fOp oDget (fVar 7) (fVar 19))) (bName 8))
    (sSeq (sAsg (fCall (clF 2 M__law_pool) (fCons (fVar 0) (fCons (fC (.int 2)) fNil))) (bName 1))
    (sSeq (sAsg (fCall (clF 3 F__law_table) (fCons (fVar 1) (fCons (fVar 4) (fCons (fVar 3) fNil)))) (bName 7))
    (sSeq (sAsg (fLc false (fIt (fVar 6)) [19] (bName 19) fYes (fOp oDget (fVar 7) (fVar 19))) (bName 9))
    (sSeq (sAsg (fCall (clF 2 F__law_number) (fCons (fVar 6) (fCons (fVar 8) fNil))) (bTup 2 (bCons (bName 10) (bCons (bName 11) bNil))))
    (sSeq (sAsg (fCall (clF 2 F__law_number) (fCons (fVar 6) (fCons (fVar 9) fNil))) (bTup 2 (bCons (bName 12) (bCons (bName 13) bNil))))
    (sSeq (sIf (fOr (fTest (fOp oNe (fVar 13) (fVar 11))) (fNot (fTru (fCall (clF 2 F__law_same) (fCons (fCall (clF 1 F_count_customs) (fCons (fVar 5) fNil)) (fCons (fVar 11) fNil)))))) (sRet (fC (.bl false))) sNext)
    (sSeq (sAsg (fGc (fMk "Custom" 2 [] F_Custom___init__ (fCons (fVar 5) (fCons (fCall (oList false) (fCons (fVar 8) fNil)) fNil)))) (bName 14))
    (sSeq (sAsg (fGc (fMk "Custom" 2 [] F_Custom___init__ (fCons (fVar 5) (fCons (fCall (oList false) (fCons (fVar 9) fNil)) fNil)))) (bName 15))
    (sSeq (sIf (fOr (fNot (fTru (fCall (clF 2 F__law_same) (fCons (fCall (clF 1 F_number_of) (fCons (fVar 14) fNil)) (fCons (fVar 10) fNil))))) (fNot (fTru (fCall (clF 2 F__law_same) (fCons (fCall (clF 1 F_number_of) (fCons (fVar 15) fNil)) (fCons (fVar 12) fNil)))))) (sRet (fC (.bl false))) sNext)
    (sSeq (sIf (fTest (fOp oNe (fOp oLt (fCall (clF 1 F_number_of) (fCons (fVar 14) fNil)) (fCall (clF 1 F_number_of) (fCons (fVar 15) fNil))) (fOp oLtX (fFld "Custom" "answers" (fVar 14)) (fFld "Custom" "answers" (fVar 15))))) (sRet (fC (.bl false))) sNext)
    (sSeq (sAsg (fCall (clF 2 M__law_pool) (fCons (fVar 0) (fCons (fC (.int 3)) fNil))) (bName 1))
    (sSeq (sAsg (fCall (clF 2 F__law_draw) (fCons (fVar 1) (fCons (fVar 11) fNil))) (bName 16))
    (sSeq (sAsg (fCall (clF 2 F__law_draw) (fCons (fVar 1) (fCons (fOp oPow (fC (.int 10)) (fC (.int 18))) fNil))) (bName 17))
    (sSeq (sFor (fIt (fLst false (fCons (fVar 10) (fCons (fOp oAdd (fVar 10) (fC (.int 1))) (fCons (fOp oSub (fVar 10) (fC (.int 1))) (fCons (fC (.int 0)) (fCons (fOp oSub (fVar 11) (fC (.int 1))) (fCons (fVar 16) (fCons (fVar 11) (fCons (fOp oAdd (fVar 11) (fVar 17)) (fCons (fOp oSub (fUn oNeg (fC (.int 1))) (fVar 17)) fNil))))))))))) (bName 18) LF_law_1)
    (sSeq (sIf (fAnd (fTest (fOp oLt (fOp oAdd (fVar 10) (fC (.int 1))) (fVar 11))) (fNot (fTest (fOp oLtX (fFld "Custom" "answers" (fVar 14)) (fFld "Custom" "answers" (fCall (clF 2 F_custom_at) (fCons (fVar 5) (fCons (fOp oAdd (fVar 10) (fC (.int 1))) fNil)))))))) (sRet (fC (.bl false))) sNext)
    (sRet (fAndV (fCall (clF 2 F__law_same) (fCons (fCall (clF 1 F_number_of) (fCons (fVar 14) fNil)) (fCons (fVar 10) fNil))) (fCall (clF 2 F__law_same) (fCons (fCall (clF 1 F_count_customs) (fCons (fVar 5) fNil)) (fCons (fVar 11) fNil))))))))))))))))))))))))))
def F_law : DFn := bodyF 21 fsF_law
end
end FCL

set_option Elab.async false
set_option linter.all false
set_option maxRecDepth 100000
set_option maxHeartbeats 4000000
namespace FCL
open PySem PySem.Spec L2 FC
open PySem.SupX (SupTxt)
/-! ### the text -/
def topS (i : Nat) : Stmt := PySem.Challenge.pw_fewchairs_k04_custom_numbers.main.body.getD i (.Pass ⟨0, 0, 0, 0⟩)
def clsBody : Stmt → List Stmt
  | .ClassDef _ _ _ b _ _ _ _ _ _ _ => b
  | _ => []
def clsS (i j : Nat) : Stmt := (clsBody (topS i)).getD j (.Pass ⟨0, 0, 0, 0⟩)
abbrev s__law_pool : Stmt := topS 24
abbrev N__law_pool : List Str := ["script", "at", "cell"]
theorem sc__law_pool : FnScope N__law_pool ["script", "at"] (defScope s__law_pool) := ⟨rfl, rfl, rfl, by decide +kernel, rfl, by decide +kernel, by decide +kernel⟩
abbrev s__law_draw : Stmt := topS 25
abbrev N__law_draw : List Str := ["pool", "many", "got", "first", "second", "third"]
theorem sc__law_draw : FnScope N__law_draw ["pool", "many"] (defScope s__law_draw) := ⟨rfl, rfl, rfl, by decide +kernel, rfl, by decide +kernel, by decide +kernel⟩
abbrev s__law_house : Stmt := topS 28
abbrev N__law_house : List Str := ["pool", "pairs", "kinds", "chairs", "way", "limits", "x"]
theorem sc__law_house : FnScope N__law_house ["pool"] (defScope s__law_house) := ⟨rfl, rfl, rfl, by decide +kernel, rfl, by decide +kernel, by decide +kernel⟩
abbrev s__law_any_house : Stmt := topS 29
abbrev N__law_any_house : List Str := ["pool", "kinds", "chairs", "limits", "x"]
theorem sc__law_any_house : FnScope N__law_any_house ["pool"] (defScope s__law_any_house) := ⟨rfl, rfl, rfl, by decide +kernel, rfl, by decide +kernel, by decide +kernel⟩
abbrev s_House___init__ : Stmt := clsS 16 3
abbrev N_House___init__ : List Str := ["self", "kinds", "chairs", "most", "bounds", "bound"]
theorem sc_House___init__ : FnScope N_House___init__ ["self", "kinds", "chairs", "most"] (defScope s_House___init__) := ⟨rfl, rfl, rfl, by decide +kernel, rfl, by decide +kernel, by decide +kernel⟩
abbrev s__law_parts : Stmt := topS 26
abbrev N__law_parts : List Str := ["limits", "number", "rows", "x", "later", "row", "count"]
theorem sc__law_parts : FnScope N__law_parts ["limits", "number"] (defScope s__law_parts) := ⟨rfl, rfl, rfl, by decide +kernel, rfl, by decide +kernel, by decide +kernel⟩
abbrev s__law_table : Stmt := topS 27
abbrev N__law_table : List Str := ["pool", "limits", "chairs", "goes", "meeting", "inside", "x"]
theorem sc__law_table : FnScope N__law_table ["pool", "limits", "chairs"] (defScope s__law_table) := ⟨rfl, rfl, rfl, by decide +kernel, rfl, by decide +kernel, by decide +kernel⟩
abbrev s__law_inside : Stmt := topS 31
abbrev N__law_inside : List Str := ["meeting", "x"]
theorem sc__law_inside : FnScope N__law_inside ["meeting"] (defScope s__law_inside) := ⟨rfl, rfl, rfl, by decide +kernel, rfl, by decide +kernel, by decide +kernel⟩
abbrev s__law_number : Stmt := topS 32
abbrev N__law_number : List Str := ["meetings", "answers", "number", "weight", "j", "at", "inside"]
theorem sc__law_number : FnScope N__law_number ["meetings", "answers"] (defScope s__law_number) := ⟨rfl, rfl, rfl, by decide +kernel, rfl, by decide +kernel, by decide +kernel⟩
abbrev s__law_same : Stmt := topS 30
abbrev N__law_same : List Str := ["got", "due", "k"]
theorem sc__law_same : FnScope N__law_same ["got", "due"] (defScope s__law_same) := ⟨rfl, rfl, rfl, by decide +kernel, rfl, by decide +kernel, by decide +kernel⟩
abbrev s_size : Stmt := topS 8
abbrev N_size : List Str := ["crowd"]
theorem sc_size : FnScope N_size ["crowd"] (defScope s_size) := ⟨rfl, rfl, rfl, by decide +kernel, rfl, by decide +kernel, by decide +kernel⟩
abbrev s__first_part : Stmt := topS 11
abbrev N__first_part : List Str := ["crowd", "number", "counts", "missing", "room"]
theorem sc__first_part : FnScope N__first_part ["crowd", "number"] (defScope s__first_part) := ⟨rfl, rfl, rfl, by decide +kernel, rfl, by decide +kernel, by decide +kernel⟩
abbrev s__next_part : Stmt := topS 12
abbrev N__next_part : List Str := ["crowd", "part", "behind", "kind"]
theorem sc__next_part : FnScope N__next_part ["crowd", "part"] (defScope s__next_part) := ⟨rfl, rfl, rfl, by decide +kernel, rfl, by decide +kernel, by decide +kernel⟩
abbrev s_part_list : Stmt := topS 10
abbrev N_part_list : List Str := ["crowd", "number", "found", "part"]
theorem sc_part_list : FnScope N_part_list ["crowd", "number"] (defScope s_part_list) := ⟨rfl, rfl, rfl, by decide +kernel, rfl, by decide +kernel, by decide +kernel⟩
abbrev s_House_crowds : Stmt := clsS 16 7
abbrev N_House_crowds : List Str := ["self", "number"]
theorem sc_House_crowds : FnScope N_House_crowds ["self", "number"] (defScope s_House_crowds) := ⟨rfl, rfl, rfl, by decide +kernel, rfl, by decide +kernel, by decide +kernel⟩
abbrev s_House_meetings : Stmt := clsS 16 8
abbrev N_House_meetings : List Str := ["self"]
theorem sc_House_meetings : FnScope N_House_meetings ["self"] (defScope s_House_meetings) := ⟨rfl, rfl, rfl, by decide +kernel, rfl, by decide +kernel, by decide +kernel⟩
abbrev s_kinds_in : Stmt := topS 9
abbrev N_kinds_in : List Str := ["crowd", "kind", "count"]
theorem sc_kinds_in : FnScope N_kinds_in ["crowd"] (defScope s_kinds_in) := ⟨rfl, rfl, rfl, by decide +kernel, rfl, by decide +kernel, by decide +kernel⟩
abbrev s_count_customs : Stmt := topS 20
abbrev N_count_customs : List Str := ["house", "number", "meeting"]
theorem sc_count_customs : FnScope N_count_customs ["house"] (defScope s_count_customs) := ⟨rfl, rfl, rfl, by decide +kernel, rfl, by decide +kernel, by decide +kernel⟩
abbrev s_check_answers : Stmt := topS 14
abbrev N_check_answers : List Str := ["choices", "answers", "at", "allowed", "kind"]
theorem sc_check_answers : FnScope N_check_answers ["choices", "answers"] (defScope s_check_answers) := ⟨rfl, rfl, rfl, by decide +kernel, rfl, by decide +kernel, by decide +kernel⟩
abbrev s_Custom___init__ : Stmt := clsS 18 0
abbrev N_Custom___init__ : List Str := ["self", "house", "answers", "meetings", "meeting", "kind"]
theorem sc_Custom___init__ : FnScope N_Custom___init__ ["self", "house", "answers"] (defScope s_Custom___init__) := ⟨rfl, rfl, rfl, by decide +kernel, rfl, by decide +kernel, by decide +kernel⟩
abbrev s_Custom_table : Stmt := clsS 18 5
abbrev N_Custom_table : List Str := ["self", "meeting"]
theorem sc_Custom_table : FnScope N_Custom_table ["self"] (defScope s_Custom_table) := ⟨rfl, rfl, rfl, by decide +kernel, rfl, by decide +kernel, by decide +kernel⟩
abbrev s_number_of : Stmt := topS 22
abbrev N_number_of : List Str := ["custom", "number", "meeting", "kind", "kinds"]
theorem sc_number_of : FnScope N_number_of ["custom"] (defScope s_number_of) := ⟨rfl, rfl, rfl, by decide +kernel, rfl, by decide +kernel, by decide +kernel⟩
abbrev s_custom_at : Stmt := topS 21
abbrev N_custom_at : List Str := ["house", "number", "answers", "rest", "meeting", "kinds", "digit"]
theorem sc_custom_at : FnScope N_custom_at ["house", "number"] (defScope s_custom_at) := ⟨rfl, rfl, rfl, by decide +kernel, rfl, by decide +kernel, by decide +kernel⟩
abbrev s__law_refused_number : Stmt := topS 34
abbrev N__law_refused_number : List Str := ["house", "number", "e"]
theorem sc__law_refused_number : FnScope N__law_refused_number ["house", "number"] (defScope s__law_refused_number) := ⟨rfl, rfl, rfl, by decide +kernel, rfl, by decide +kernel, by decide +kernel⟩
abbrev s__law_answers : Stmt := topS 33
abbrev N__law_answers : List Str := ["meetings", "number", "count", "answers", "rest", "weight", "meeting", "inside", "place"]
theorem sc__law_answers : FnScope N__law_answers ["meetings", "number", "count"] (defScope s__law_answers) := ⟨rfl, rfl, rfl, by decide +kernel, rfl, by decide +kernel, by decide +kernel⟩
abbrev s_House___eq__ : Stmt := clsS 16 5
abbrev N_House___eq__ : List Str := ["self", "other"]
theorem sc_House___eq__ : FnScope N_House___eq__ ["self", "other"] (defScope s_House___eq__) := ⟨rfl, rfl, rfl, by decide +kernel, rfl, by decide +kernel, by decide +kernel⟩
abbrev s__law_number_holds : Stmt := topS 35
abbrev N__law_number_holds : List Str := ["house", "meetings", "number", "count", "custom", "answers"]
theorem sc__law_number_holds : FnScope N__law_number_holds ["house", "meetings", "number", "count"] (defScope s__law_number_holds) := ⟨rfl, rfl, rfl, by decide +kernel, rfl, by decide +kernel, by decide +kernel⟩
abbrev s_law : Stmt := topS 36
abbrev N_law : List Str := ["script", "pool", "kinds", "chairs", "limits", "house", "meetings", "goes", "first", "second", "low", "count", "high", "weight", "one", "other", "drawn", "far", "number", "meeting", "x"]
theorem sc_law : FnScope N_law ["script"] (defScope s_law) := ⟨rfl, rfl, rfl, by decide +kernel, rfl, by decide +kernel, by decide +kernel⟩
/-- what the top leaves -/
structure Txt (P : Program) (K : PySem.W.Frag) (mg : Str → Option Value) where
  m_ValueError : mg "ValueError" = none
  m_abs : mg "abs" = none
  m_all : mg "all" = none
  m_bool : mg "bool" = none
  m_divmod : mg "divmod" = none
  m_enumerate : mg "enumerate" = none
  m_int : mg "int" = none
  m_isinstance : mg "isinstance" = none
  m_len : mg "len" = none
  m_list : mg "list" = none
  m_min : mg "min" = none
  m_range : mg "range" = none
  m_reversed : mg "reversed" = none
  m_str : mg "str" = none
  m_sum : mg "sum" = none
  m_tuple : mg "tuple" = none
  m_zip : mg "zip" = none
  f__law_pool : Addr
  d__law_pool : FuncData
  F__law_pool : Fun K "_law_pool" "_law_pool" s__law_pool f__law_pool d__law_pool
  g__law_pool : mg "_law_pool" = some (.ref f__law_pool)
  B__law_pool : Binds K d__law_pool ["script", "at"] []
  f__law_draw : Addr
  d__law_draw : FuncData
  F__law_draw : Fun K "_law_draw" "_law_draw" s__law_draw f__law_draw d__law_draw
  g__law_draw : mg "_law_draw" = some (.ref f__law_draw)
  B__law_draw : Binds K d__law_draw ["pool", "many"] []
  f__law_house : Addr
  d__law_house : FuncData
  F__law_house : Fun K "_law_house" "_law_house" s__law_house f__law_house d__law_house
  g__law_house : mg "_law_house" = some (.ref f__law_house)
  B__law_house : Binds K d__law_house ["pool"] []
  f__law_any_house : Addr
  d__law_any_house : FuncData
  F__law_any_house : Fun K "_law_any_house" "_law_any_house" s__law_any_house f__law_any_house d__law_any_house
  g__law_any_house : mg "_law_any_house" = some (.ref f__law_any_house)
  B__law_any_house : Binds K d__law_any_house ["pool"] []
  f_House___init__ : Addr
  d_House___init__ : FuncData
  F_House___init__ : Fun K "__init__" "House.__init__" s_House___init__ f_House___init__ d_House___init__
  dds_House___init__ : List Value
  dvs_House___init__ : List V
  DB_House___init__ : Binds K d_House___init__ ["self", "kinds", "chairs", "most"] dds_House___init__
  DV_House___init__ : Vals dvs_House___init__ dds_House___init__
  DD_House___init__ : ∀ cA : Str → Addr, DfOk ⟨K, cA⟩ dvs_House___init__ [(.tup [])]
  DN_House___init__ : dvs_House___init__.length = 1
  KB_House___init__ : KBn K d_House___init__ ["self", "kinds", "chairs", "most"] 3 ["most"] (fun x y => x ++ y) (fun x y => x ++ y)
  fn_House___init__ : PySem.W.isFn K (.ref f_House___init__) = true
  f__law_parts : Addr
  d__law_parts : FuncData
  F__law_parts : Fun K "_law_parts" "_law_parts" s__law_parts f__law_parts d__law_parts
  g__law_parts : mg "_law_parts" = some (.ref f__law_parts)
  B__law_parts : Binds K d__law_parts ["limits", "number"] []
  f__law_table : Addr
  d__law_table : FuncData
  F__law_table : Fun K "_law_table" "_law_table" s__law_table f__law_table d__law_table
  g__law_table : mg "_law_table" = some (.ref f__law_table)
  B__law_table : Binds K d__law_table ["pool", "limits", "chairs"] []
  f__law_inside : Addr
  d__law_inside : FuncData
  F__law_inside : Fun K "_law_inside" "_law_inside" s__law_inside f__law_inside d__law_inside
  g__law_inside : mg "_law_inside" = some (.ref f__law_inside)
  B__law_inside : Binds K d__law_inside ["meeting"] []
  f__law_number : Addr
  d__law_number : FuncData
  F__law_number : Fun K "_law_number" "_law_number" s__law_number f__law_number d__law_number
  g__law_number : mg "_law_number" = some (.ref f__law_number)
  B__law_number : Binds K d__law_number ["meetings", "answers"] []
  f__law_same : Addr
  d__law_same : FuncData
  F__law_same : Fun K "_law_same" "_law_same" s__law_same f__law_same d__law_same
  g__law_same : mg "_law_same" = some (.ref f__law_same)
  B__law_same : Binds K d__law_same ["got", "due"] []
  f_size : Addr
  d_size : FuncData
  F_size : Fun K "size" "size" s_size f_size d_size
  g_size : mg "size" = some (.ref f_size)
  B_size : Binds K d_size ["crowd"] []
  f__first_part : Addr
  d__first_part : FuncData
  F__first_part : Fun K "_first_part" "_first_part" s__first_part f__first_part d__first_part
  g__first_part : mg "_first_part" = some (.ref f__first_part)
  B__first_part : Binds K d__first_part ["crowd", "number"] []
  f__next_part : Addr
  d__next_part : FuncData
  F__next_part : Fun K "_next_part" "_next_part" s__next_part f__next_part d__next_part
  g__next_part : mg "_next_part" = some (.ref f__next_part)
  B__next_part : Binds K d__next_part ["crowd", "part"] []
  f_part_list : Addr
  d_part_list : FuncData
  F_part_list : Fun K "part_list" "part_list" s_part_list f_part_list d_part_list
  g_part_list : mg "part_list" = some (.ref f_part_list)
  B_part_list : Binds K d_part_list ["crowd", "number"] []
  f_House_crowds : Addr
  d_House_crowds : FuncData
  F_House_crowds : Fun K "crowds" "House.crowds" s_House_crowds f_House_crowds d_House_crowds
  B_House_crowds : Binds K d_House_crowds ["self", "number"] []
  fn_House_crowds : PySem.W.isFn K (.ref f_House_crowds) = true
  f_House_meetings : Addr
  d_House_meetings : FuncData
  F_House_meetings : Fun K "meetings" "House.meetings" s_House_meetings f_House_meetings d_House_meetings
  B_House_meetings : Binds K d_House_meetings ["self"] []
  fn_House_meetings : PySem.W.isFn K (.ref f_House_meetings) = true
  f_kinds_in : Addr
  d_kinds_in : FuncData
  F_kinds_in : Fun K "kinds_in" "kinds_in" s_kinds_in f_kinds_in d_kinds_in
  g_kinds_in : mg "kinds_in" = some (.ref f_kinds_in)
  B_kinds_in : Binds K d_kinds_in ["crowd"] []
  f_count_customs : Addr
  d_count_customs : FuncData
  F_count_customs : Fun K "count_customs" "count_customs" s_count_customs f_count_customs d_count_customs
  g_count_customs : mg "count_customs" = some (.ref f_count_customs)
  B_count_customs : Binds K d_count_customs ["house"] []
  f_check_answers : Addr
  d_check_answers : FuncData
  F_check_answers : Fun K "check_answers" "check_answers" s_check_answers f_check_answers d_check_answers
  g_check_answers : mg "check_answers" = some (.ref f_check_answers)
  B_check_answers : Binds K d_check_answers ["choices", "answers"] []
  f_Custom___init__ : Addr
  d_Custom___init__ : FuncData
  F_Custom___init__ : Fun K "__init__" "Custom.__init__" s_Custom___init__ f_Custom___init__ d_Custom___init__
  B_Custom___init__ : Binds K d_Custom___init__ ["self", "house", "answers"] []
  fn_Custom___init__ : PySem.W.isFn K (.ref f_Custom___init__) = true
  f_Custom_table : Addr
  d_Custom_table : FuncData
  F_Custom_table : Fun K "table" "Custom.table" s_Custom_table f_Custom_table d_Custom_table
  B_Custom_table : Binds K d_Custom_table ["self"] []
  fn_Custom_table : PySem.W.isFn K (.ref f_Custom_table) = true
  f_number_of : Addr
  d_number_of : FuncData
  F_number_of : Fun K "number_of" "number_of" s_number_of f_number_of d_number_of
  g_number_of : mg "number_of" = some (.ref f_number_of)
  B_number_of : Binds K d_number_of ["custom"] []
  f_custom_at : Addr
  d_custom_at : FuncData
  F_custom_at : Fun K "custom_at" "custom_at" s_custom_at f_custom_at d_custom_at
  g_custom_at : mg "custom_at" = some (.ref f_custom_at)
  B_custom_at : Binds K d_custom_at ["house", "number"] []
  f__law_refused_number : Addr
  d__law_refused_number : FuncData
  F__law_refused_number : Fun K "_law_refused_number" "_law_refused_number" s__law_refused_number f__law_refused_number d__law_refused_number
  g__law_refused_number : mg "_law_refused_number" = some (.ref f__law_refused_number)
  B__law_refused_number : Binds K d__law_refused_number ["house", "number"] []
  f__law_answers : Addr
  d__law_answers : FuncData
  F__law_answers : Fun K "_law_answers" "_law_answers" s__law_answers f__law_answers d__law_answers
  g__law_answers : mg "_law_answers" = some (.ref f__law_answers)
  B__law_answers : Binds K d__law_answers ["meetings", "number", "count"] []
  f_House___eq__ : Addr
  d_House___eq__ : FuncData
  F_House___eq__ : Fun K "__eq__" "House.__eq__" s_House___eq__ f_House___eq__ d_House___eq__
  B_House___eq__ : Binds K d_House___eq__ ["self", "other"] []
  fn_House___eq__ : PySem.W.isFn K (.ref f_House___eq__) = true
  f__law_number_holds : Addr
  d__law_number_holds : FuncData
  F__law_number_holds : Fun K "_law_number_holds" "_law_number_holds" s__law_number_holds f__law_number_holds d__law_number_holds
  g__law_number_holds : mg "_law_number_holds" = some (.ref f__law_number_holds)
  B__law_number_holds : Binds K d__law_number_holds ["house", "meetings", "number", "count"] []
  g_Custom : mg "Custom" = some (.ref (cOf mg "Custom"))
  cl_Custom : Cls K (cOf mg "Custom")
  cr_Custom : ClX.CRead K (cOf mg "Custom") (.type "type")
  mk_Custom : Mk K (cOf mg "Custom") f_Custom___init__
  g_House : mg "House" = some (.ref (cOf mg "House"))
  cl_House : Cls K (cOf mg "House")
  cr_House : ClX.CRead K (cOf mg "House") (.type "type")
  mk_House : Mk K (cOf mg "House") f_House___init__
  eq_House : PySem.W.findIn K (.ref (cOf mg "House")) "__eq__" = some (some (.ref f_House___eq__))
  na_Custom__goes : NoAttr K (cOf mg "Custom") "_goes"
  na_Custom_answers : NoAttr K (cOf mg "Custom") "answers"
  na_Custom_house : NoAttr K (cOf mg "Custom") "house"
  na_House_chairs : NoAttr K (cOf mg "House") "chairs"
  na_House_kinds : NoAttr K (cOf mg "House") "kinds"
  na_House_most : NoAttr K (cOf mg "House") "most"
  mt_Custom_table : Meth K (cOf mg "Custom") "table" f_Custom_table
  mt_House_crowds : Meth K (cOf mg "House") "crowds" f_House_crowds
  mt_House_meetings : Meth K (cOf mg "House") "meetings" f_House_meetings
  cct_House_CHAIRS : Tok
  cc_House_CHAIRS : PySem.W.findCls K (.ref (cOf mg "House")) (.type "type") "CHAIRS" = some (.val (.int 5 cct_House_CHAIRS))
  cct_House_KINDS : Tok
  cc_House_KINDS : PySem.W.findCls K (.ref (cOf mg "House")) (.type "type") "KINDS" = some (.val (.int 6 cct_House_KINDS))
  cct_House_MANY : Tok
  cc_House_MANY : PySem.W.findCls K (.ref (cOf mg "House")) (.type "type") "MANY" = some (.val (.int 1000000000000000000 cct_House_MANY))
  isc_House_House : ∀ c' b, ([("House", true)] : List (Str × Bool)).lookup c' = some b → InsC' K (cOf mg c') ∧ PySem.W.kitOne K (.ref (cOf mg c')) (.ref (cOf mg "House")) = some b
  C_HallError : Addr
  g_HallError : mg "HallError" = some (.ref C_HallError)
  C_BadHouse : Addr
  I_BadHouse : Addr
  g_BadHouse : mg "BadHouse" = some (.ref C_BadHouse)
  T_BadHouse : SupTxt P K mg "BadHouse" "what" C_BadHouse I_BadHouse
  C_BadCustom : Addr
  I_BadCustom : Addr
  g_BadCustom : mg "BadCustom" = some (.ref C_BadCustom)
  T_BadCustom : SupTxt P K mg "BadCustom" "at" C_BadCustom I_BadCustom
  C_BadNumber : Addr
  I_BadNumber : Addr
  g_BadNumber : mg "BadNumber" = some (.ref C_BadNumber)
  T_BadNumber : SupTxt P K mg "BadNumber" "number" C_BadNumber I_BadNumber
  xf_BadNumber : XfC K (cOf mg "BadNumber")
  xn_BadNumber : PySem.W.findIn K (.ref (cOf mg "BadNumber")) "number" = some none
  ec_BadNumber : ExcC K (cOf mg "BadNumber")
  exm_BadNumber_BadNumber : PySem.W.exmOne K (.ref (cOf mg "BadNumber")) (.ref C_BadNumber) = some true
  kit_BadNumber_BadCustom : PySem.W.kitOne K (.ref (cOf mg "BadNumber")) (.ref C_BadCustom) = some false
  kit_BadNumber_HallError : PySem.W.kitOne K (.ref (cOf mg "BadNumber")) (.ref C_HallError) = some true
  kit_BadNumber_ValueError : PySem.W.kitOne K (.ref (cOf mg "BadNumber")) (.type "ValueError") = some true
section
variable {P : Program} {w : World} {K : PySem.W.Frag} {mg : Str → Option Value} {base : Heap}
theorem okM__law_pool (T : Txt P K mg) : FnOk P w K mg base (L2.CX P w) 1 T.f__law_pool T.d__law_pool ["script", "at"] (spD K mg 2 M__law_pool) :=
  fn_gcM (fn_ok T.F__law_pool sc__law_pool (fun cdv A outer s H E hr => (ss_cons (s_set (i := 2) sc__law_pool.nd d_int)
      (ss_cons (s_if (t_lt (d_var 1) (d_callB call_len_seq cd_len T.m_len PySem.boot_len (a_cons (d_var 0) a_nil))) (ss_one (s_set (i := 2) sc__law_pool.nd (d_callB call_abs cd_abs T.m_abs (by decide +kernel) (a_cons (d_callTy call_int1 cd_int1 T.m_int (by decide +kernel) (a_cons (d_ix (d_var 0) (d_var 1)) a_nil)) a_nil)))) ss_nil)
      (ss_cons (s_if (t_ge (d_var 2) (d_pow d_int d_int)) (ss_one (s_ret (d_lst true (a_cons (d_sub (d_var 2) (d_pow d_int d_int)) (a_cons d_int (a_cons (d_mod (d_callTy call_int1 cd_int1 T.m_int (by decide +kernel) (a_cons (d_var 2) a_nil)) d_int) a_nil)))))) ss_nil)
      (ss_one (s_ret (d_lst true (a_cons d_int (a_cons d_int (a_cons (d_mod (d_callTy call_int1 cd_int1 T.m_int (by decide +kernel) (a_cons (d_var 2) a_nil)) d_int) a_nil)))))))))))
theorem okF__law_draw (T : Txt P K mg) : FnOk P w K mg base (L2.CX P w) 1 T.f__law_draw T.d__law_draw ["pool", "many"] (spD K mg 2 F__law_draw) :=
  fn_gcD (fn_ok T.F__law_draw sc__law_draw (fun cdv A outer s H E hr => (ss_cons (s_setIx (d_add (d_ix (d_var 0) d_int) d_int) (d_var 0) d_int)
      (ss_cons (s_if (t_gt (d_ix (d_var 0) d_int) d_int) (ss_cons (s_set (i := 2) sc__law_draw.nd (d_mod (d_callTy call_int1 cd_int1 T.m_int (by decide +kernel) (a_cons (d_ix (d_var 0) d_int) a_nil)) (d_var 1)))
      (ss_cons (s_setIx (d_div (d_ix (d_var 0) d_int) (d_var 1)) (d_var 0) d_int)
      (ss_one (s_ret (d_var 2))))) ss_nil)
      (ss_cons (s_set (i := 3) sc__law_draw.nd (d_mod (d_callTy call_int1 cd_int1 T.m_int (by decide +kernel) (a_cons (d_add (d_add (d_mul (d_ix (d_var 0) d_int) d_int) (d_mul (d_ix (d_var 0) d_int) d_int)) d_int) a_nil)) d_int))
      (ss_cons (s_set (i := 4) sc__law_draw.nd (d_mod (d_callTy call_int1 cd_int1 T.m_int (by decide +kernel) (a_cons (d_add (d_add (d_add (d_mul (d_var 3) (d_var 3)) (d_mul (d_ix (d_var 0) d_int) d_int)) (d_div (d_ix (d_var 0) d_int) d_int)) d_int) a_nil)) d_int))
      (ss_cons (s_set (i := 5) sc__law_draw.nd (d_mod (d_callTy call_int1 cd_int1 T.m_int (by decide +kernel) (a_cons (d_add (d_add (d_mul (d_var 4) d_int) (d_div (d_var 4) d_int)) (d_mul (d_ix (d_var 0) d_int) (d_ix (d_var 0) d_int))) a_nil)) d_int))
      (ss_one (s_ret (d_mod (d_callTy call_int1 cd_int1 T.m_int (by decide +kernel) (a_cons (d_div (d_var 5) d_int) a_nil)) (d_var 1)))))))))))
theorem okF__law_house (T : Txt P K mg) : FnOk P w K mg base (L2.CX P w) 2 T.f__law_house T.d__law_house ["pool"] (spD K mg 1 F__law_house) :=
  fn_gcD (fn_ok T.F__law_house sc__law_house (fun cdv A outer s H E hr => (ss_cons (s_set (i := 1) sc__law_house.nd (d_lst false (a_cons (d_tup (a_cons d_int (a_cons d_int a_nil))) (a_cons (d_tup (a_cons d_int (a_cons d_int a_nil))) (a_cons (d_tup (a_cons d_int (a_cons d_int a_nil))) (a_cons (d_tup (a_cons d_int (a_cons d_int a_nil))) (a_cons (d_tup (a_cons d_int (a_cons d_int a_nil))) (a_cons (d_tup (a_cons d_int (a_cons d_int a_nil))) (a_cons (d_tup (a_cons d_int (a_cons d_int a_nil))) (a_cons (d_tup (a_cons d_int (a_cons d_int a_nil))) a_nil))))))))))
      (ss_cons (s_set (i := 1) sc__law_house.nd (d_addX false (d_var 1) (d_lst false (a_cons (d_tup (a_cons d_int (a_cons d_int a_nil))) (a_cons (d_tup (a_cons d_int (a_cons d_int a_nil))) (a_cons (d_tup (a_cons d_int (a_cons d_int a_nil))) (a_cons (d_tup (a_cons d_int (a_cons d_int a_nil))) (a_cons (d_tup (a_cons d_int (a_cons d_int a_nil))) (a_cons (d_tup (a_cons d_int (a_cons d_int a_nil))) (a_cons (d_tup (a_cons d_int (a_cons d_int a_nil))) (a_cons (d_tup (a_cons d_int (a_cons d_int a_nil))) a_nil)))))))))))
      (ss_cons (s_asg (d_ix (d_var 1) (d_callF (n := 2) (okF__law_draw T) rfl (hr.mono (by decide)) T.g__law_draw T.F__law_draw.kp T.B__law_draw (takes_of rfl rfl rfl rfl) (a_cons (d_var 0) (a_cons d_int a_nil)))) (g_tup rfl (gs_cons (g_name (i := 2) sc__law_house.nd) (gs_cons (g_name (i := 3) sc__law_house.nd) gs_nil))))
      (ss_cons (s_set (i := 4) sc__law_house.nd (d_callF (n := 2) (okF__law_draw T) rfl (hr.mono (by decide)) T.g__law_draw T.F__law_draw.kp T.B__law_draw (takes_of rfl rfl rfl rfl) (a_cons (d_var 0) (a_cons d_int a_nil))))
      (ss_cons (s_set (i := 5) sc__law_house.nd (d_lst true a_nil))
      (ss_cons (s_for (passes_of rfl) rfl (i_rng1 T.m_range (a_cons (d_var 2) a_nil)) (g_name (i := 6) sc__law_house.nd) (ss_cl [6] (ss_one (s_if (t_of (w_and (t_eq hr.units (d_var 4) d_int) (w_and1 (t_ge (d_var 2) (d_add (d_var 3) d_int))))) (ss_one (s_expr (d_append (d_var 5) (a_cons d_int a_nil)))) (ss_one (s_if (t_lt (d_var 4) d_int) (ss_one (s_expr (d_append (d_var 5) (a_cons (d_add d_int (d_callF (n := 2) (okF__law_draw T) rfl (hr.mono (by decide)) T.g__law_draw T.F__law_draw.kp T.B__law_draw (takes_of rfl rfl rfl rfl) (a_cons (d_var 0) (a_cons (d_add (d_var 3) d_int) a_nil)))) a_nil)))) (ss_one (s_expr (d_append (d_var 5) (a_cons (d_pow d_int d_int) a_nil))))))))))
      (ss_one (s_ret (d_tup (a_cons (d_var 2) (a_cons (d_var 3) (a_cons (d_callTy call_tuple_of cd_tuple T.m_tuple (by decide +kernel) (a_cons (d_var 5) a_nil)) a_nil))))))))))))))
theorem okF__law_any_house (T : Txt P K mg) : FnOk P w K mg base (L2.CX P w) 3 T.f__law_any_house T.d__law_any_house ["pool"] (spD K mg 1 F__law_any_house) :=
  fn_gcD (fn_ok T.F__law_any_house sc__law_any_house (fun cdv A outer s H E hr => (ss_cons (s_if (t_gt (d_callF (n := 2) (okF__law_draw T) rfl (hr.mono (by decide)) T.g__law_draw T.F__law_draw.kp T.B__law_draw (takes_of rfl rfl rfl rfl) (a_cons (d_var 0) (a_cons d_int a_nil))) d_int) (ss_one (s_ret (d_callF (n := 1) (okF__law_house T) rfl (hr.mono (by decide)) T.g__law_house T.F__law_house.kp T.B__law_house (takes_of rfl rfl rfl rfl) (a_cons (d_var 0) a_nil)))) ss_nil)
      (ss_cons (s_set (i := 1) sc__law_any_house.nd (d_add d_int (d_callF (n := 2) (okF__law_draw T) rfl (hr.mono (by decide)) T.g__law_draw T.F__law_draw.kp T.B__law_draw (takes_of rfl rfl rfl rfl) (a_cons (d_var 0) (a_cons d_int a_nil)))))
      (ss_cons (s_set (i := 2) sc__law_any_house.nd (d_add d_int (d_callF (n := 2) (okF__law_draw T) rfl (hr.mono (by decide)) T.g__law_draw T.F__law_draw.kp T.B__law_draw (takes_of rfl rfl rfl rfl) (a_cons (d_var 0) (a_cons d_int a_nil)))))
      (ss_cons (s_set (i := 3) sc__law_any_house.nd (d_lst true a_nil))
      (ss_cons (s_for (passes_of rfl) rfl (i_rng1 T.m_range (a_cons (d_var 1) a_nil)) (g_name (i := 4) sc__law_any_house.nd) (ss_cl [4] (ss_one (s_if (t_eq hr.units (d_callF (n := 2) (okF__law_draw T) rfl (hr.mono (by decide)) T.g__law_draw T.F__law_draw.kp T.B__law_draw (takes_of rfl rfl rfl rfl) (a_cons (d_var 0) (a_cons d_int a_nil))) d_int) (ss_one (s_expr (d_append (d_var 3) (a_cons (d_add d_int (d_callF (n := 2) (okF__law_draw T) rfl (hr.mono (by decide)) T.g__law_draw T.F__law_draw.kp T.B__law_draw (takes_of rfl rfl rfl rfl) (a_cons (d_var 0) (a_cons (d_pow d_int d_int) a_nil)))) a_nil)))) (ss_one (s_expr (d_append (d_var 3) (a_cons (d_add d_int (d_callF (n := 2) (okF__law_draw T) rfl (hr.mono (by decide)) T.g__law_draw T.F__law_draw.kp T.B__law_draw (takes_of rfl rfl rfl rfl) (a_cons (d_var 0) (a_cons (d_add (d_var 2) d_int) a_nil)))) a_nil))))))))
      (ss_one (s_ret (d_tup (a_cons (d_var 1) (a_cons (d_var 2) (a_cons (d_callTy call_tuple_of cd_tuple T.m_tuple (by decide +kernel) (a_cons (d_var 3) a_nil)) a_nil)))))))))))))
theorem okF_House___init__ (T : Txt P K mg) : FnOk P w K mg base (L2.CX P w) 1 T.f_House___init__ T.d_House___init__ ["self", "kinds", "chairs", "most"] (spD K mg 4 F_House___init__) :=
  fn_gcD (fn_ok T.F_House___init__ sc_House___init__ (fun cdv A outer s H E hr => (ss_cons (s_if (t_not (t_chain op_le op_le od_le od_le d_int (d_var 1) (d_ccon (v := .int 6) T.g_House T.cr_House ⟨T.cc_House_KINDS, ⟨_, rfl⟩⟩ (fun _ => .int 6)))) (ss_one (s_raise1 rfl T.T_BadHouse hr (takes_of rfl rfl rfl rfl) (a_cons d_str a_nil))) ss_nil)
      (ss_cons (s_if (t_not (t_chain op_le op_le od_le od_le d_int (d_var 2) (d_ccon (v := .int 5) T.g_House T.cr_House ⟨T.cc_House_CHAIRS, ⟨_, rfl⟩⟩ (fun _ => .int 5)))) (ss_one (s_raise1 rfl T.T_BadHouse hr (takes_of rfl rfl rfl rfl) (a_cons d_str a_nil))) ss_nil)
      (ss_cons (s_set (i := 4) sc_House___init__.nd (d_orT (d_callTy call_tuple_of cd_tuple T.m_tuple (by decide +kernel) (a_cons (d_var 3) a_nil)) (d_one (d_mulT (d_tup (a_cons (d_ccon (v := .int 1000000000000000000) T.g_House T.cr_House ⟨T.cc_House_MANY, ⟨_, rfl⟩⟩ (fun _ => .int 1000000000000000000)) a_nil)) (d_var 1)))))
      (ss_cons (s_if (t_of (w_or (t_ne hr.units (d_callB call_len_seq cd_len T.m_len PySem.boot_len (a_cons (d_var 4) a_nil)) (d_var 1)) (w_or1 (t_not (t_tru (d_callB (cr_all rfl) cd_all T.m_all (by decide +kernel) (a_cons (d_lcV false rfl sc_House___init__.nd (i_seq (d_var 4)) (blkOk_by (own := [("bound", 5)]) (N := N_House___init__) (sc := defScope s_House___init__) (by decide +kernel)) (fun _ _ _ _ _ => (g_name (i := 5) sc_House___init__.nd)) (fun _ _ _ _ _ => ts_nil) (fun _ _ _ _ _ => (d_chain op_le op_le od_le od_le d_int (d_var 5) (d_ccon (v := .int 1000000000000000000) T.g_House T.cr_House ⟨T.cc_House_MANY, ⟨_, rfl⟩⟩ (fun _ => .int 1000000000000000000))))) a_nil))))))) (ss_one (s_raise1 rfl T.T_BadHouse hr (takes_of rfl rfl rfl rfl) (a_cons d_str a_nil))) ss_nil)
      (ss_cons (s_setFld T.cl_House T.na_House_kinds (d_var 0) (d_var 1))
      (ss_cons (s_setFld T.cl_House T.na_House_chairs (d_var 0) (d_var 2))
      (ss_one (s_setFld T.cl_House T.na_House_most (d_var 0) (d_var 4)))))))))))
theorem okF__law_parts (T : Txt P K mg) : FnOk P w K mg base (L2.CX P w) 1 T.f__law_parts T.d__law_parts ["limits", "number"] (spD K mg 2 F__law_parts) :=
  fn_gcD (fn_ok T.F__law_parts sc__law_parts (fun cdv A outer s H E hr => (ss_cons (s_set (i := 2) sc__law_parts.nd (d_lst false (a_cons (d_tup a_nil) a_nil)))
      (ss_cons (s_for (passes_of rfl) rfl (i_rng1 T.m_range (a_cons (d_callB call_len_seq cd_len T.m_len PySem.boot_len (a_cons (d_var 0) a_nil)) a_nil)) (g_name (i := 3) sc__law_parts.nd) (ss_gc IvC.no [3, 4, 5, 6] (ss_cons (s_set (i := 4) sc__law_parts.nd (d_lst true a_nil))
      (ss_cons (s_for (passes_of rfl) rfl (i_seq (d_callTy call_list_of (cd_list false) T.m_list (by decide +kernel) (a_cons (d_var 2) a_nil))) (g_name (i := 5) sc__law_parts.nd) (ss_cl [5, 6] (ss_one (s_for (passes_of rfl) rfl (i_rng1 T.m_range (a_cons (d_add (d_callB (call_min2 rfl) cd_min2 T.m_min (by decide +kernel) (a_cons (d_ix (d_var 0) (d_var 3)) (a_cons (d_sub (d_var 1) (d_callB (FC.CallR.or (cr_sum rfl) (cr_sumT rfl)) cd_sum T.m_sum (by decide +kernel) (a_cons (d_var 5) a_nil))) a_nil))) d_int) a_nil)) (g_name (i := 6) sc__law_parts.nd) (ss_cl [6] (ss_one (s_expr (d_append (d_var 4) (a_cons (d_addX false (d_var 5) (d_tup (a_cons (d_var 6) a_nil))) a_nil)))))))))
      (ss_one (s_set (i := 2) sc__law_parts.nd (d_callTy call_list_of (cd_list false) T.m_list (by decide +kernel) (a_cons (d_var 4) a_nil))))))))
      (ss_one (s_ret (d_lcV false rfl sc__law_parts.nd (i_seq (d_var 2)) (blkOk_by (own := [("row", 5)]) (N := N__law_parts) (sc := defScope s__law_parts) (by decide +kernel)) (fun _ _ _ _ _ => (g_name (i := 5) sc__law_parts.nd)) (fun _ _ _ _ _ => (ts_one (t_eq hr.units (d_callB (FC.CallR.or (cr_sum rfl) (cr_sumT rfl)) cd_sum T.m_sum (by decide +kernel) (a_cons (d_var 5) a_nil)) (d_var 1)))) (fun _ _ _ _ _ => (d_var 5)))))))))
theorem okF__law_table (T : Txt P K mg) : FnOk P w K mg base (L2.CX P w) 2 T.f__law_table T.d__law_table ["pool", "limits", "chairs"] (spD K mg 3 F__law_table) :=
  fn_gcD (fn_ok T.F__law_table sc__law_table (fun cdv A outer s H E hr => (ss_cons (s_set (i := 3) sc__law_table.nd (d_dnewT true))
      (ss_cons (s_for (passes_of rfl) rfl (i_seq (d_callF (n := 2) (okF__law_parts T) rfl (hr.mono (by decide)) T.g__law_parts T.F__law_parts.kp T.B__law_parts (takes_of rfl rfl rfl rfl) (a_cons (d_var 1) (a_cons (d_add (d_var 2) d_int) a_nil)))) (g_name (i := 4) sc__law_table.nd) (ss_cl [4, 5] (ss_cons (s_setLcV (i := 5) false rfl sc__law_table.nd (sw_true rfl rfl rfl (by decide +kernel)) (i_rng1 T.m_range (a_cons (d_callB call_len_seq cd_len T.m_len PySem.boot_len (a_cons (d_var 1) a_nil)) a_nil)) (blkOk_by (own := [("x", 6)]) (N := N__law_table) (sc := defScope s__law_table) (by decide +kernel)) (fun _ _ _ _ _ => (g_name (i := 6) sc__law_table.nd)) (fun _ _ _ _ _ => (ts_one (t_gt (d_ix (d_var 4) (d_var 6)) d_int))) (fun _ _ _ _ _ => (d_var 6)))
      (ss_one (s_dput hr.units (d_ix (d_var 5) (d_callF (n := 2) (okF__law_draw T) rfl (hr.mono (by decide)) T.g__law_draw T.F__law_draw.kp T.B__law_draw (takes_of rfl rfl rfl rfl) (a_cons (d_var 0) (a_cons (d_callB call_len_seq cd_len T.m_len PySem.boot_len (a_cons (d_var 5) a_nil)) a_nil)))) (d_var 3) (d_var 4))))))
      (ss_one (s_ret (d_var 3)))))))
theorem okF__law_inside (T : Txt P K mg) : FnOk P w K mg base (L2.CX P w) 1 T.f__law_inside T.d__law_inside ["meeting"] (spD K mg 1 F__law_inside) :=
  fn_gcD (fn_ok T.F__law_inside sc__law_inside (fun cdv A outer s H E hr => (ss_one (s_ret (d_lcV false rfl sc__law_inside.nd (i_rng1 T.m_range (a_cons (d_callB call_len_seq cd_len T.m_len PySem.boot_len (a_cons (d_var 0) a_nil)) a_nil)) (blkOk_by (own := [("x", 1)]) (N := N__law_inside) (sc := defScope s__law_inside) (by decide +kernel)) (fun _ _ _ _ _ => (g_name (i := 1) sc__law_inside.nd)) (fun _ _ _ _ _ => (ts_one (t_gt (d_ix (d_var 0) (d_var 1)) d_int))) (fun _ _ _ _ _ => (d_var 1)))))))
theorem okF__law_number (T : Txt P K mg) : FnOk P w K mg base (L2.CX P w) 2 T.f__law_number T.d__law_number ["meetings", "answers"] (spD K mg 2 F__law_number) :=
  fn_gcD (fn_ok T.F__law_number sc__law_number (fun cdv A outer s H E hr => (ss_cons (s_set (i := 2) sc__law_number.nd d_int)
      (ss_cons (s_set (i := 3) sc__law_number.nd d_int)
      (ss_cons (s_for (passes_of rfl) rfl (i_rng1 T.m_range (a_cons (d_callB call_len_seq cd_len T.m_len PySem.boot_len (a_cons (d_var 0) a_nil)) a_nil)) (g_name (i := 4) sc__law_number.nd) (ss_cl [4, 5, 6] (ss_cons (s_set (i := 5) sc__law_number.nd (d_sub (d_sub (d_callB call_len_seq cd_len T.m_len PySem.boot_len (a_cons (d_var 0) a_nil)) d_int) (d_var 4)))
      (ss_cons (s_set (i := 6) sc__law_number.nd (d_callF (n := 1) (okF__law_inside T) rfl (hr.mono (by decide)) T.g__law_inside T.F__law_inside.kp T.B__law_inside (takes_of rfl rfl rfl rfl) (a_cons (d_ix (d_var 0) (d_var 5)) a_nil)))
      (ss_cons (s_set (i := 2) sc__law_number.nd (d_add (d_var 2) (d_mul (d_var 3) (d_index (d_var 6) (a_cons (d_ix (d_var 1) (d_var 5)) a_nil)))))
      (ss_one (s_set (i := 3) sc__law_number.nd (d_mul (d_var 3) (d_callB call_len_seq cd_len T.m_len PySem.boot_len (a_cons (d_var 6) a_nil))))))))))
      (ss_one (s_ret (d_tup (a_cons (d_var 2) (a_cons (d_var 3) a_nil))))))))))
theorem okr_F__law_same (T : Txt P K mg) {k : Nat} {F : DFn} (hk : 0 ≤ k) (hF : FnOk P w K mg base (L2.CX P w) k T.f__law_same T.d__law_same ["got", "due"] (spD K mg 2 F)) : FnOk P w K mg base (L2.CX P w) (k + 1) T.f__law_same T.d__law_same ["got", "due"] (spD K mg 2 (gcD (bodyF 3 (fsF__law_same F)))) :=
  fn_gcD (fn_ok T.F__law_same sc__law_same (fun cdv A outer s H E hr => (ss_cons (s_if (t_is (d_var 1) d_non) (ss_one (s_ret (d_is (d_var 0) d_non))) ss_nil)
      (ss_cons (s_if (t_tru (d_isi (b := "bool") (d_var 1) T.m_isinstance (by decide +kernel) T.m_bool (by decide +kernel) (by decide))) (ss_one (s_ret (d_and (d_isi (b := "bool") (d_var 0) T.m_isinstance (by decide +kernel) T.m_bool (by decide +kernel) (by decide)) (d_one (d_eq hr.units (d_var 0) (d_var 1)))))) ss_nil)
      (ss_cons (s_if (t_tru (d_isi (b := "int") (d_var 1) T.m_isinstance (by decide +kernel) T.m_int (by decide +kernel) (by decide))) (ss_one (s_ret (d_and (d_isi (b := "int") (d_var 0) T.m_isinstance (by decide +kernel) T.m_int (by decide +kernel) (by decide)) (d_and (d_not (d_isi (b := "bool") (d_var 0) T.m_isinstance (by decide +kernel) T.m_bool (by decide +kernel) (by decide))) (d_one (d_eq hr.units (d_var 0) (d_var 1))))))) ss_nil)
      (ss_cons (s_if (t_tru (d_isi (b := "str") (d_var 1) T.m_isinstance (by decide +kernel) T.m_str (by decide +kernel) (by decide))) (ss_one (s_ret (d_and (d_isi (b := "str") (d_var 0) T.m_isinstance (by decide +kernel) T.m_str (by decide +kernel) (by decide)) (d_one (d_eq hr.units (d_var 0) (d_var 1)))))) ss_nil)
      (ss_cons (s_if (t_tru (d_isi (b := "tuple") (d_var 1) T.m_isinstance (by decide +kernel) T.m_tuple (by decide +kernel) (by decide))) (ss_one (s_if (t_of (w_or (t_not (t_tru (d_isi (b := "tuple") (d_var 0) T.m_isinstance (by decide +kernel) T.m_tuple (by decide +kernel) (by decide)))) (w_or1 (t_ne hr.units (d_callB call_len_seq cd_len T.m_len PySem.boot_len (a_cons (d_var 0) a_nil)) (d_callB call_len_seq cd_len T.m_len PySem.boot_len (a_cons (d_var 1) a_nil)))))) (ss_one (s_ret d_bl)) ss_nil)) (ss_one (s_if (t_of (w_or (t_not (t_tru (d_isi (b := "list") (d_var 0) T.m_isinstance (by decide +kernel) T.m_list (by decide +kernel) (by decide)))) (w_or1 (t_ne hr.units (d_callB call_len_seq cd_len T.m_len PySem.boot_len (a_cons (d_var 0) a_nil)) (d_callB call_len_seq cd_len T.m_len PySem.boot_len (a_cons (d_var 1) a_nil)))))) (ss_one (s_ret d_bl)) ss_nil)))
      (ss_cons (s_for (passes_of rfl) rfl (i_rng1 T.m_range (a_cons (d_callB call_len_seq cd_len T.m_len PySem.boot_len (a_cons (d_var 1) a_nil)) a_nil)) (g_name (i := 2) sc__law_same.nd) (ss_cl [2] (ss_one (s_if (t_not (t_tru (d_callF (n := 2) hF rfl hr T.g__law_same T.F__law_same.kp T.B__law_same (takes_of rfl rfl rfl rfl) (a_cons (d_ix (d_var 0) (d_var 2)) (a_cons (d_ix (d_var 1) (d_var 2)) a_nil))))) (ss_one (s_ret d_bl)) ss_nil))))
      (ss_one (s_ret d_bl))))))))))
theorem okn_F__law_same (T : Txt P K mg) : ∀ n : Nat, FnOk P w K mg base (L2.CX P w) (0 + n) T.f__law_same T.d__law_same ["got", "due"] (spD K mg 2 (itF__law_same n))
  | 0 => fn_none rfl
  | n + 1 => okr_F__law_same T (by omega) (okn_F__law_same T n)
theorem okF__law_same (T : Txt P K mg) : FnOk P w K mg base (L2.CX P w) 5 T.f__law_same T.d__law_same ["got", "due"] (spD K mg 2 F__law_same) := okn_F__law_same T 5
theorem okF_size (T : Txt P K mg) : FnOk P w K mg base (L2.CX P w) 1 T.f_size T.d_size ["crowd"] (spD K mg 1 F_size) :=
  fn_gcD (fn_ok T.F_size sc_size (fun cdv A outer s H E hr => (ss_one (s_ret (d_callB (FC.CallR.or (cr_sum rfl) (cr_sumT rfl)) cd_sum T.m_sum (by decide +kernel) (a_cons (d_var 0) a_nil))))))
theorem okF__first_part (T : Txt P K mg) : FnOk P w K mg base (L2.CX P w) 2 T.f__first_part T.d__first_part ["crowd", "number"] (spD K mg 2 F__first_part) :=
  fn_gcD (fn_ok T.F__first_part sc__first_part (fun cdv A outer s H E hr => (ss_cons (s_if (t_not (t_chain op_le op_le od_le od_le d_int (d_var 1) (d_callF (n := 1) (okF_size T) rfl (hr.mono (by decide)) T.g_size T.F_size.kp T.B_size (takes_of rfl rfl rfl rfl) (a_cons (d_var 0) a_nil)))) (ss_one (s_ret d_non)) ss_nil)
      (ss_cons (s_set (i := 2) sc__first_part.nd (d_lst true a_nil))
      (ss_cons (s_set (i := 3) sc__first_part.nd (d_var 1))
      (ss_cons (s_for (passes_of rfl) rfl (i_rev T.m_reversed (d_callTy call_list_of (cd_list false) T.m_list (by decide +kernel) (a_cons (d_var 0) a_nil))) (g_name (i := 4) sc__first_part.nd) (ss_cl [4] (ss_cons (s_expr (d_append (d_var 2) (a_cons (d_callB (call_min2 rfl) cd_min2 T.m_min (by decide +kernel) (a_cons (d_var 4) (a_cons (d_var 3) a_nil))) a_nil)))
      (ss_one (s_set (i := 3) sc__first_part.nd (d_sub (d_var 3) (d_callB (call_min2 rfl) cd_min2 T.m_min (by decide +kernel) (a_cons (d_var 4) (a_cons (d_var 3) a_nil)))))))))
      (ss_one (s_ret (d_callTy call_tuple_of cd_tuple T.m_tuple (by decide +kernel) (a_cons (d_revL false (d_var 2)) a_nil))))))))))
theorem okF__next_part (T : Txt P K mg) : FnOk P w K mg base (L2.CX P w) 3 T.f__next_part T.d__next_part ["crowd", "part"] (spD K mg 2 F__next_part) :=
  fn_gcD (fn_ok T.F__next_part sc__next_part (fun cdv A outer s H E hr => (ss_cons (s_set (i := 2) sc__next_part.nd d_int)
      (ss_cons (s_for (passes_of rfl) rfl (i_revR1 T.m_reversed T.m_range (d_callB call_len_seq cd_len T.m_len PySem.boot_len (a_cons (d_var 1) a_nil))) (g_name (i := 3) sc__next_part.nd) (ss_cl [3] (ss_cons (s_if (t_of (w_and (t_gt (d_var 2) d_int) (w_and1 (t_lt (d_ix (d_var 1) (d_var 3)) (d_ix (d_var 0) (d_var 3)))))) (ss_one (s_ret (d_addX false (d_addX false (d_slice false (d_var 1) o_none (o_some (d_var 3))) (d_tup (a_cons (d_add (d_ix (d_var 1) (d_var 3)) d_int) a_nil))) (d_callF (n := 2) (okF__first_part T) rfl (hr.mono (by decide)) T.g__first_part T.F__first_part.kp T.B__first_part (takes_of rfl rfl rfl rfl) (a_cons (d_slice false (d_var 0) (o_some (d_add (d_var 3) d_int)) o_none) (a_cons (d_sub (d_var 2) d_int) a_nil)))))) ss_nil)
      (ss_one (s_set (i := 2) sc__next_part.nd (d_add (d_var 2) (d_ix (d_var 1) (d_var 3))))))))
      (ss_one (s_ret d_non))))))
theorem okF_part_list (T : Txt P K mg) : FnOk P w K mg base (L2.CX P w) 4 T.f_part_list T.d_part_list ["crowd", "number"] (spD K mg 2 F_part_list) :=
  fn_gcD (fn_ok T.F_part_list sc_part_list (fun cdv A outer s H E hr => (ss_cons (s_set (i := 2) sc_part_list.nd (d_lst true a_nil))
      (ss_cons (s_set (i := 3) sc_part_list.nd (d_callF (n := 2) (okF__first_part T) rfl (hr.mono (by decide)) T.g__first_part T.F__first_part.kp T.B__first_part (takes_of rfl rfl rfl rfl) (a_cons (d_var 0) (a_cons (d_var 1) a_nil))))
      (ss_cons (s_while big (passes_of rfl) (t_nis (d_var 3) d_non) (ss_cons (s_expr (d_append (d_var 2) (a_cons (d_var 3) a_nil)))
      (ss_one (s_set (i := 3) sc_part_list.nd (d_callF (n := 2) (okF__next_part T) rfl (hr.mono (by decide)) T.g__next_part T.F__next_part.kp T.B__next_part (takes_of rfl rfl rfl rfl) (a_cons (d_var 0) (a_cons (d_var 3) a_nil)))))))
      (ss_one (s_ret (d_var 2))))))))
theorem okF_House_crowds (T : Txt P K mg) : FnOk P w K mg base (L2.CX P w) 5 T.f_House_crowds T.d_House_crowds ["self", "number"] (spD K mg 2 F_House_crowds) :=
  fn_gcD (fn_ok T.F_House_crowds sc_House_crowds (fun cdv A outer s H E hr => (ss_one (s_ret (d_callF (n := 2) (okF_part_list T) rfl (hr.mono (by decide)) T.g_part_list T.F_part_list.kp T.B_part_list (takes_of rfl rfl rfl rfl) (a_cons (d_fld T.cl_House T.na_House_most (d_var 0)) (a_cons (d_var 1) a_nil)))))))
theorem okF_House_meetings (T : Txt P K mg) : FnOk P w K mg base (L2.CX P w) 6 T.f_House_meetings T.d_House_meetings ["self"] (spD K mg 1 F_House_meetings) :=
  fn_gcD (fn_ok T.F_House_meetings sc_House_meetings (fun cdv A outer s H E hr => (ss_one (s_ret (d_meth (n := 1) T.cl_House T.mt_House_crowds (okF_House_crowds T) (hr.mono (by decide)) T.B_House_crowds (takes_of rfl rfl rfl rfl) (d_var 0) (a_cons (d_add (d_fld T.cl_House T.na_House_chairs (d_var 0)) d_int) a_nil))))))
theorem okF_kinds_in (T : Txt P K mg) : FnOk P w K mg base (L2.CX P w) 1 T.f_kinds_in T.d_kinds_in ["crowd"] (spD K mg 1 F_kinds_in) :=
  fn_gcD (fn_ok T.F_kinds_in sc_kinds_in (fun cdv A outer s H E hr => (ss_one (s_ret (d_lcV false rfl sc_kinds_in.nd (i_enum T.m_enumerate (a_cons (d_var 0) a_nil)) (blkOk_by (own := [("kind", 1), ("count", 2)]) (N := N_kinds_in) (sc := defScope s_kinds_in) (by decide +kernel)) (fun _ _ _ _ _ => (g_tup rfl (gs_cons (g_name (i := 1) sc_kinds_in.nd) (gs_cons (g_name (i := 2) sc_kinds_in.nd) gs_nil)))) (fun _ _ _ _ _ => (ts_one (t_gt (d_var 2) d_int))) (fun _ _ _ _ _ => (d_var 1)))))))
theorem okF_count_customs (T : Txt P K mg) : FnOk P w K mg base (L2.CX P w) 7 T.f_count_customs T.d_count_customs ["house"] (spD K mg 1 F_count_customs) :=
  fn_gcD (fn_ok T.F_count_customs sc_count_customs (fun cdv A outer s H E hr => (ss_cons (s_set (i := 1) sc_count_customs.nd d_int)
      (ss_cons (s_for (passes_of rfl) rfl (i_seq (d_meth0 T.cl_House T.mt_House_meetings (okF_House_meetings T) (hr.mono (by decide)) T.B_House_meetings (takes_of rfl rfl rfl rfl) (d_var 0))) (g_name (i := 2) sc_count_customs.nd) (ss_cl [2] (ss_one (s_set (i := 1) sc_count_customs.nd (d_mul (d_var 1) (d_callB call_len_seq cd_len T.m_len PySem.boot_len (a_cons (d_callF (n := 1) (okF_kinds_in T) rfl (hr.mono (by decide)) T.g_kinds_in T.F_kinds_in.kp T.B_kinds_in (takes_of rfl rfl rfl rfl) (a_cons (d_var 2) a_nil)) a_nil)))))))
      (ss_one (s_ret (d_var 1)))))))
theorem okF_check_answers (T : Txt P K mg) : FnOk P w K mg base (L2.CX P w) 1 T.f_check_answers T.d_check_answers ["choices", "answers"] (spD K mg 2 F_check_answers) :=
  fn_gcD (fn_ok T.F_check_answers sc_check_answers (fun cdv A outer s H E hr => (ss_cons (s_for (passes_of rfl) rfl (i_enumZip T.m_enumerate T.m_zip (a_cons (d_var 0) (a_cons (d_var 1) a_nil))) (g_tup rfl (gs_cons (g_name (i := 2) sc_check_answers.nd) (gs_cons (g_tup rfl (gs_cons (g_name (i := 3) sc_check_answers.nd) (gs_cons (g_name (i := 4) sc_check_answers.nd) gs_nil))) gs_nil))) (ss_cl [2, 3, 4] (ss_one (s_if (t_nin (d_var 4) (d_var 3)) (ss_one (s_raise1 rfl T.T_BadCustom hr (takes_of rfl rfl rfl rfl) (a_cons (d_var 2) a_nil))) ss_nil))))
      (ss_one (s_if (t_ne hr.units (d_callB call_len_seq cd_len T.m_len PySem.boot_len (a_cons (d_var 1) a_nil)) (d_callB call_len_seq cd_len T.m_len PySem.boot_len (a_cons (d_var 0) a_nil))) (ss_one (s_raise1 rfl T.T_BadCustom hr (takes_of rfl rfl rfl rfl) (a_cons (d_callB (call_min2 rfl) cd_min2 T.m_min (by decide +kernel) (a_cons (d_callB call_len_seq cd_len T.m_len PySem.boot_len (a_cons (d_var 1) a_nil)) (a_cons (d_callB call_len_seq cd_len T.m_len PySem.boot_len (a_cons (d_var 0) a_nil)) a_nil))) a_nil))) ss_nil)))))
theorem okF_Custom___init__ (T : Txt P K mg) : FnOk P w K mg base (L2.CX P w) 7 T.f_Custom___init__ T.d_Custom___init__ ["self", "house", "answers"] (spD K mg 3 F_Custom___init__) :=
  fn_gcD (fn_ok T.F_Custom___init__ sc_Custom___init__ (fun cdv A outer s H E hr => (ss_cons (s_set (i := 3) sc_Custom___init__.nd (d_meth0 T.cl_House T.mt_House_meetings (okF_House_meetings T) (hr.mono (by decide)) T.B_House_meetings (takes_of rfl rfl rfl rfl) (d_var 1)))
      (ss_cons (s_expr (d_callF (n := 2) (okF_check_answers T) rfl (hr.mono (by decide)) T.g_check_answers T.F_check_answers.kp T.B_check_answers (takes_of rfl rfl rfl rfl) (a_cons (d_lcV false rfl sc_Custom___init__.nd (i_seq (d_var 3)) (blkOk_by (own := [("meeting", 4)]) (N := N_Custom___init__) (sc := defScope s_Custom___init__) (by decide +kernel)) (fun _ _ _ _ _ => (g_name (i := 4) sc_Custom___init__.nd)) (fun _ _ _ _ _ => ts_nil) (fun _ _ _ _ _ => (d_callF (n := 1) (okF_kinds_in T) rfl (hr.mono (by decide)) T.g_kinds_in T.F_kinds_in.kp T.B_kinds_in takes0 (a_cons (d_var 4) a_nil)))) (a_cons (d_var 2) a_nil))))
      (ss_cons (s_setFld T.cl_Custom T.na_Custom_house (d_var 0) (d_var 1))
      (ss_cons (s_setFld T.cl_Custom T.na_Custom_answers (d_var 0) (d_callTy call_tuple_of cd_tuple T.m_tuple (by decide +kernel) (a_cons (d_var 2) a_nil)))
      (ss_one (s_setFld T.cl_Custom T.na_Custom__goes (d_var 0) (d_dcT hr.units rfl sc_Custom___init__.nd (i_zip T.m_zip (a_cons (d_var 3) (a_cons (d_var 2) a_nil))) (blkOk_by (own := [("meeting", 4), ("kind", 5)]) (N := N_Custom___init__) (sc := defScope s_Custom___init__) (by decide +kernel)) (fun _ _ _ _ _ => (g_tup rfl (gs_cons (g_name (i := 4) sc_Custom___init__.nd) (gs_cons (g_name (i := 5) sc_Custom___init__.nd) gs_nil)))) (fun _ _ _ _ _ => ts_nil) (fun _ _ _ _ _ => (d_var 4)) (fun _ _ _ _ _ => (d_var 5)))))))))))
theorem okF_Custom_table (T : Txt P K mg) : FnOk P w K mg base (L2.CX P w) 1 T.f_Custom_table T.d_Custom_table ["self"] (spD K mg 1 F_Custom_table) :=
  fn_gcD (fn_ok T.F_Custom_table sc_Custom_table (fun cdv A outer s H E hr => (ss_one (s_ret (d_dcT hr.units rfl sc_Custom_table.nd (i_keys (d_fld T.cl_Custom T.na_Custom__goes (d_var 0))) (blkOk_by (own := [("meeting", 1)]) (N := N_Custom_table) (sc := defScope s_Custom_table) (by decide +kernel)) (fun _ _ _ _ _ => (g_name (i := 1) sc_Custom_table.nd)) (fun _ _ _ _ _ => ts_nil) (fun _ _ _ _ _ => (d_var 1)) (fun _ _ _ _ _ => (d_dget hr.units (d_fld T.cl_Custom T.na_Custom__goes (d_var 0)) (d_var 1))))))))
theorem okF_number_of (T : Txt P K mg) : FnOk P w K mg base (L2.CX P w) 2 T.f_number_of T.d_number_of ["custom"] (spD K mg 1 F_number_of) :=
  fn_gcD (fn_ok T.F_number_of sc_number_of (fun cdv A outer s H E hr => (ss_cons (s_set (i := 1) sc_number_of.nd d_int)
      (ss_cons (s_for (passes_of rfl) rfl (i_items (d_meth0 T.cl_Custom T.mt_Custom_table (okF_Custom_table T) (hr.mono (by decide)) T.B_Custom_table (takes_of rfl rfl rfl rfl) (d_var 0))) (g_tup rfl (gs_cons (g_name (i := 2) sc_number_of.nd) (gs_cons (g_name (i := 3) sc_number_of.nd) gs_nil))) (ss_cl [2, 3, 4] (ss_cons (s_set (i := 4) sc_number_of.nd (d_callF (n := 1) (okF_kinds_in T) rfl (hr.mono (by decide)) T.g_kinds_in T.F_kinds_in.kp T.B_kinds_in (takes_of rfl rfl rfl rfl) (a_cons (d_var 2) a_nil)))
      (ss_one (s_set (i := 1) sc_number_of.nd (d_add (d_mul (d_var 1) (d_callB call_len_seq cd_len T.m_len PySem.boot_len (a_cons (d_var 4) a_nil))) (d_index (d_var 4) (a_cons (d_var 3) a_nil))))))))
      (ss_one (s_ret (d_var 1)))))))
theorem okF_custom_at (T : Txt P K mg) : FnOk P w K mg base (L2.CX P w) 9 T.f_custom_at T.d_custom_at ["house", "number"] (spD K mg 2 F_custom_at) :=
  fn_gcD (fn_ok T.F_custom_at sc_custom_at (fun cdv A outer s H E hr => (ss_cons (s_if (t_not (t_chain op_le op_lt od_le od_lt d_int (d_var 1) (d_callF (n := 1) (okF_count_customs T) rfl (hr.mono (by decide)) T.g_count_customs T.F_count_customs.kp T.B_count_customs (takes_of rfl rfl rfl rfl) (a_cons (d_var 0) a_nil)))) (ss_one (s_raise1 rfl T.T_BadNumber hr (takes_of rfl rfl rfl rfl) (a_cons (d_var 1) a_nil))) ss_nil)
      (ss_cons (s_set (i := 2) sc_custom_at.nd (d_lst true a_nil))
      (ss_cons (s_set (i := 3) sc_custom_at.nd (d_var 1))
      (ss_cons (s_for (passes_of rfl) rfl (i_seq (d_revL false (d_meth0 T.cl_House T.mt_House_meetings (okF_House_meetings T) (hr.mono (by decide)) T.B_House_meetings (takes_of rfl rfl rfl rfl) (d_var 0)))) (g_name (i := 4) sc_custom_at.nd) (ss_cl [4, 5, 6] (ss_cons (s_set (i := 5) sc_custom_at.nd (d_callF (n := 1) (okF_kinds_in T) rfl (hr.mono (by decide)) T.g_kinds_in T.F_kinds_in.kp T.B_kinds_in (takes_of rfl rfl rfl rfl) (a_cons (d_var 4) a_nil)))
      (ss_cons (s_asg (d_callB call_divmod cd_divmod T.m_divmod (by decide +kernel) (a_cons (d_var 3) (a_cons (d_callB call_len_seq cd_len T.m_len PySem.boot_len (a_cons (d_var 5) a_nil)) a_nil))) (g_tup rfl (gs_cons (g_name (i := 3) sc_custom_at.nd) (gs_cons (g_name (i := 6) sc_custom_at.nd) gs_nil))))
      (ss_one (s_expr (d_append (d_var 2) (a_cons (d_ix (d_var 5) (d_var 6)) a_nil))))))))
      (ss_one (s_ret (d_gc (d_mk (n := 2) (dds := []) T.g_Custom (T.mk_Custom) (okF_Custom___init__ T) (hr.mono (by decide)) T.B_Custom___init__ .nil .nil rfl (takes_of rfl rfl rfl rfl) (a_cons (d_var 0) (a_cons (d_revL false (d_var 2)) a_nil))))))))))))
theorem okF__law_refused_number (T : Txt P K mg) : FnOk P w K mg base (L2.CX P w) 10 T.f__law_refused_number T.d__law_refused_number ["house", "number"] (spD K mg 2 F__law_refused_number) :=
  fn_gcD (fn_ok T.F__law_refused_number sc__law_refused_number (fun cdv A outer s H E hr => (ss_cons (s_try_as (i := 2) (cn := cnL [("BadNumber", true)]) sc__law_refused_number.nd ⟨rfl, by decide, .inl T.T_BadNumber.gC⟩ (takes_of rfl rfl rfl rfl) (fun W1 pn1 xe1 tk1 po1 => (ss_one (s_expr (d_callF (n := 2) (okF_custom_at T) rfl (hr.mono (by decide)) T.g_custom_at T.F_custom_at.kp T.B_custom_at tk1 (a_cons (d_var 0) (a_cons (d_var 1) a_nil)))))) (cnL_ok (by intro p hp; simp only [List.mem_cons, List.not_mem_nil, or_false] at hp; subst hp; exact T.exm_BadNumber_BadNumber)) (fun a oe dd c1 flds pn hc1 hz hf => by have ec : c1 = "BadNumber" := cnL_one hc1; subst ec; exact (ss_one (s_ret (d_tup (a_cons (d_xf (i := 2) (c := "BadNumber") T.xf_BadNumber T.xn_BadNumber hz hf) (a_cons (d_isE (i := 2) (c := "BadNumber") T.ec_BadNumber hz hf T.m_isinstance (pe_glob (v := .ref T.C_HallError) rfl T.g_HallError rfl) (fun _ h => h) T.kit_BadNumber_HallError (by decide +kernel)) (a_cons (d_isE (i := 2) (c := "BadNumber") T.ec_BadNumber hz hf T.m_isinstance (pe_bltn (v := .ty "ValueError") rfl T.m_ValueError (by decide +kernel) rfl) (fun _ h => h) T.kit_BadNumber_ValueError (by decide +kernel)) (a_cons (d_isE (i := 2) (c := "BadNumber") T.ec_BadNumber hz hf T.m_isinstance (pe_glob (v := .ref T.C_BadCustom) rfl T.g_BadCustom rfl) (fun _ h => h) T.kit_BadNumber_BadCustom (by decide +kernel)) a_nil)))))))))
      (ss_one (s_ret d_non)))))
theorem okF__law_answers (T : Txt P K mg) : FnOk P w K mg base (L2.CX P w) 2 T.f__law_answers T.d__law_answers ["meetings", "number", "count"] (spD K mg 3 F__law_answers) :=
  fn_gcD (fn_ok T.F__law_answers sc__law_answers (fun cdv A outer s H E hr => (ss_cons (s_set (i := 3) sc__law_answers.nd (d_lst true a_nil))
      (ss_cons (s_set (i := 4) sc__law_answers.nd (d_var 1))
      (ss_cons (s_set (i := 5) sc__law_answers.nd (d_var 2))
      (ss_cons (s_for (passes_of rfl) rfl (i_seq (d_var 0)) (g_name (i := 6) sc__law_answers.nd) (ss_cl [6, 7, 8] (ss_cons (s_set (i := 7) sc__law_answers.nd (d_callF (n := 1) (okF__law_inside T) rfl (hr.mono (by decide)) T.g__law_inside T.F__law_inside.kp T.B__law_inside (takes_of rfl rfl rfl rfl) (a_cons (d_var 6) a_nil)))
      (ss_cons (s_set (i := 5) sc__law_answers.nd (d_div (d_var 5) (d_callB call_len_seq cd_len T.m_len PySem.boot_len (a_cons (d_var 7) a_nil))))
      (ss_cons (s_set (i := 8) sc__law_answers.nd (d_div (d_var 4) (d_var 5)))
      (ss_cons (s_expr (d_append (d_var 3) (a_cons (d_ix (d_var 7) (d_var 8)) a_nil)))
      (ss_one (s_set (i := 4) sc__law_answers.nd (d_sub (d_var 4) (d_mul (d_var 8) (d_var 5)))))))))))
      (ss_one (s_ret (d_callTy call_tuple_of cd_tuple T.m_tuple (by decide +kernel) (a_cons (d_var 3) a_nil))))))))))
theorem okF_House___eq__ (T : Txt P K mg) : FnOk P w K mg base (L2.CX P w) 1 T.f_House___eq__ T.d_House___eq__ ["self", "other"] (spD K mg 2 F_House___eq__) :=
  fn_gcD (fn_ok T.F_House___eq__ sc_House___eq__ (fun cdv A outer s H E hr => (ss_one (s_ret (d_and (d_isc (l := [("House", true)]) T.isc_House_House (d_var 1) T.m_isinstance (by decide +kernel) T.g_House) (d_and (d_eq hr.units (d_fld T.cl_House T.na_House_kinds (d_var 0)) (d_fld T.cl_House T.na_House_kinds (d_var 1))) (d_and (d_eq hr.units (d_fld T.cl_House T.na_House_chairs (d_var 0)) (d_fld T.cl_House T.na_House_chairs (d_var 1))) (d_one (d_eq hr.units (d_fld T.cl_House T.na_House_most (d_var 0)) (d_fld T.cl_House T.na_House_most (d_var 1)))))))))))
theorem okF__law_number_holds (T : Txt P K mg) : FnOk P w K mg base (L2.CX P w) 11 T.f__law_number_holds T.d__law_number_holds ["house", "meetings", "number", "count"] (spD K mg 4 F__law_number_holds) :=
  fn_gcD (fn_ok T.F__law_number_holds sc__law_number_holds (fun cdv A outer s H E hr => (ss_cons (s_if (t_not (t_chain op_le op_lt od_le od_lt d_int (d_var 2) (d_var 3))) (ss_one (s_ret (d_callF (n := 2) (okF__law_same T) rfl (hr.mono (by decide)) T.g__law_same T.F__law_same.kp T.B__law_same (takes_of rfl rfl rfl rfl) (a_cons (d_callF (n := 2) (okF__law_refused_number T) rfl (hr.mono (by decide)) T.g__law_refused_number T.F__law_refused_number.kp T.B__law_refused_number (takes_of rfl rfl rfl rfl) (a_cons (d_var 0) (a_cons (d_var 2) a_nil))) (a_cons (d_tup (a_cons (d_var 2) (a_cons d_bl (a_cons d_bl (a_cons d_bl a_nil))))) a_nil))))) ss_nil)
      (ss_cons (s_set (i := 4) sc__law_number_holds.nd (d_callF (n := 2) (okF_custom_at T) rfl (hr.mono (by decide)) T.g_custom_at T.F_custom_at.kp T.B_custom_at (takes_of rfl rfl rfl rfl) (a_cons (d_var 0) (a_cons (d_var 2) a_nil))))
      (ss_cons (s_set (i := 5) sc__law_number_holds.nd (d_callF (n := 3) (okF__law_answers T) rfl (hr.mono (by decide)) T.g__law_answers T.F__law_answers.kp T.B__law_answers (takes_of rfl rfl rfl rfl) (a_cons (d_var 1) (a_cons (d_var 2) (a_cons (d_var 3) a_nil)))))
      (ss_cons (s_if (t_of (w_or (t_not (t_tru (d_callF (n := 2) (okF__law_same T) rfl (hr.mono (by decide)) T.g__law_same T.F__law_same.kp T.B__law_same (takes_of rfl rfl rfl rfl) (a_cons (d_fld T.cl_Custom T.na_Custom_answers (d_var 4)) (a_cons (d_var 5) a_nil))))) (w_or1 (t_not (t_tru (d_callTy call_bool1 cd_bool1 T.m_bool (by decide +kernel) (a_cons (d_cmp (op_own (okF_House___eq__ T) (hr.mono (by decide)) T.eq_House T.fn_House___eq__ T.B_House___eq__) od_own (d_fld T.cl_Custom T.na_Custom_house (d_var 4)) (d_var 0) rfl) a_nil))))))) (ss_one (s_ret d_bl)) ss_nil)
      (ss_one (s_ret (d_callF (n := 2) (okF__law_same T) rfl (hr.mono (by decide)) T.g__law_same T.F__law_same.kp T.B__law_same (takes_of rfl rfl rfl rfl) (a_cons (d_callF (n := 1) (okF_number_of T) rfl (hr.mono (by decide)) T.g_number_of T.F_number_of.kp T.B_number_of (takes_of rfl rfl rfl rfl) (a_cons (d_var 4) a_nil)) (a_cons (d_var 2) a_nil)))))))))))
theorem ok_law (T : Txt P K mg) {f : Addr} {fd : FuncData} (FL : Fun K "law" "law" s_law f fd) : FnOk P w K mg base (L2.CX P w) 12 f fd ["script"] (spD K mg 1 F_law) :=
  fn_ok FL sc_law (fun cdv A outer s H E hr => (ss_cons (s_set (i := 1) sc_law.nd (d_callF (n := 2) (okM__law_pool T) rfl (hr.mono (by decide)) T.g__law_pool T.F__law_pool.kp T.B__law_pool (takes_of rfl rfl rfl rfl) (a_cons (d_var 0) (a_cons d_int a_nil))))
      (ss_cons (s_if (t_eq hr.units (d_callF (n := 2) (okF__law_draw T) rfl (hr.mono (by decide)) T.g__law_draw T.F__law_draw.kp T.B__law_draw (takes_of rfl rfl rfl rfl) (a_cons (d_var 1) (a_cons d_int a_nil))) d_int) (ss_one (s_par3 (i := 2) (j := 3) (l := 4) rfl sc_law.nd (a_cons d_int (a_cons d_int (a_cons (d_callTy call_tuple_of cd_tuple T.m_tuple (by decide +kernel) (a_cons (d_lcV false rfl sc_law.nd (i_rng1 T.m_range (a_cons d_int a_nil)) (blkOk_by (own := [("x", 20)]) (N := N_law) (sc := defScope s_law) (by decide +kernel)) (fun _ _ _ _ _ => (g_name (i := 20) sc_law.nd)) (fun _ _ _ _ _ => ts_nil) (fun _ _ _ _ _ => (d_pow d_int d_int))) a_nil)) a_nil))))) (ss_one (s_asg (d_callF (n := 1) (okF__law_any_house T) rfl (hr.mono (by decide)) T.g__law_any_house T.F__law_any_house.kp T.B__law_any_house (takes_of rfl rfl rfl rfl) (a_cons (d_var 1) a_nil)) (g_tup rfl (gs_cons (g_name (i := 2) sc_law.nd) (gs_cons (g_name (i := 3) sc_law.nd) (gs_cons (g_name (i := 4) sc_law.nd) gs_nil)))))))
      (ss_cons (s_set (i := 5) sc_law.nd (d_gc (d_mkK (n := 2) (ks := ["most"]) T.g_House (T.mk_House) (okF_House___init__ T) (hr.mono (by decide)) T.KB_House___init__ (takes_of rfl rfl rfl rfl) (fun vs zs h1 h2 => by rw [List.length_append, h1, h2]; rfl) (fun _ _ _ _ _ h1 h2 => h1.append h2) (a_cons (d_var 2) (a_cons (d_var 3) a_nil)) (k_cons (d_var 4) k_nil))))
      (ss_cons (s_set (i := 6) sc_law.nd (d_callF (n := 2) (okF__law_parts T) rfl (hr.mono (by decide)) T.g__law_parts T.F__law_parts.kp T.B__law_parts (takes_of rfl rfl rfl rfl) (a_cons (d_var 4) (a_cons (d_add (d_var 3) d_int) a_nil))))
      (ss_cons (s_set (i := 7) sc_law.nd (d_callF (n := 3) (okF__law_table T) rfl (hr.mono (by decide)) T.g__law_table T.F__law_table.kp T.B__law_table (takes_of rfl rfl rfl rfl) (a_cons (d_callF (n := 2) (okM__law_pool T) rfl (hr.mono (by decide)) T.g__law_pool T.F__law_pool.kp T.B__law_pool (takes_of rfl rfl rfl rfl) (a_cons (d_var 0) (a_cons d_int a_nil))) (a_cons (d_var 4) (a_cons (d_var 3) a_nil)))))
      (ss_cons (s_setLcV (i := 8) false rfl sc_law.nd (sw_true rfl rfl rfl (by decide +kernel)) (i_seq (d_var 6)) (blkOk_by (own := [("meeting", 19)]) (N := N_law) (sc := defScope s_law) (by decide +kernel)) (fun _ _ _ _ _ => (g_name (i := 19) sc_law.nd)) (fun _ _ _ _ _ => ts_nil) (fun _ _ _ _ _ => (d_dget hr.units (d_var 7) (d_var 19))))
      (ss_cons (s_set (i := 1) sc_law.nd (d_callF (n := 2) (okM__law_pool T) rfl (hr.mono (by decide)) T.g__law_pool T.F__law_pool.kp T.B__law_pool (takes_of rfl rfl rfl rfl) (a_cons (d_var 0) (a_cons d_int a_nil))))
      (ss_cons (s_set (i := 7) sc_law.nd (d_callF (n := 3) (okF__law_table T) rfl (hr.mono (by decide)) T.g__law_table T.F__law_table.kp T.B__law_table (takes_of rfl rfl rfl rfl) (a_cons (d_var 1) (a_cons (d_var 4) (a_cons (d_var 3) a_nil)))))
      (ss_cons (s_setLcV (i := 9) false rfl sc_law.nd (sw_true rfl rfl rfl (by decide +kernel)) (i_seq (d_var 6)) (blkOk_by (own := [("meeting", 19)]) (N := N_law) (sc := defScope s_law) (by decide +kernel)) (fun _ _ _ _ _ => (g_name (i := 19) sc_law.nd)) (fun _ _ _ _ _ => ts_nil) (fun _ _ _ _ _ => (d_dget hr.units (d_var 7) (d_var 19))))
      (ss_cons (s_asg (d_callF (n := 2) (okF__law_number T) rfl (hr.mono (by decide)) T.g__law_number T.F__law_number.kp T.B__law_number (takes_of rfl rfl rfl rfl) (a_cons (d_var 6) (a_cons (d_var 8) a_nil))) (g_tup rfl (gs_cons (g_name (i := 10) sc_law.nd) (gs_cons (g_name (i := 11) sc_law.nd) gs_nil))))
      (ss_cons (s_asg (d_callF (n := 2) (okF__law_number T) rfl (hr.mono (by decide)) T.g__law_number T.F__law_number.kp T.B__law_number (takes_of rfl rfl rfl rfl) (a_cons (d_var 6) (a_cons (d_var 9) a_nil))) (g_tup rfl (gs_cons (g_name (i := 12) sc_law.nd) (gs_cons (g_name (i := 13) sc_law.nd) gs_nil))))
      (ss_cons (s_if (t_of (w_or (t_ne hr.units (d_var 13) (d_var 11)) (w_or1 (t_not (t_tru (d_callF (n := 2) (okF__law_same T) rfl (hr.mono (by decide)) T.g__law_same T.F__law_same.kp T.B__law_same (takes_of rfl rfl rfl rfl) (a_cons (d_callF (n := 1) (okF_count_customs T) rfl (hr.mono (by decide)) T.g_count_customs T.F_count_customs.kp T.B_count_customs (takes_of rfl rfl rfl rfl) (a_cons (d_var 5) a_nil)) (a_cons (d_var 11) a_nil)))))))) (ss_one (s_ret d_bl)) ss_nil)
      (ss_cons (s_set (i := 14) sc_law.nd (d_gc (d_mk (n := 2) (dds := []) T.g_Custom (T.mk_Custom) (okF_Custom___init__ T) (hr.mono (by decide)) T.B_Custom___init__ .nil .nil rfl (takes_of rfl rfl rfl rfl) (a_cons (d_var 5) (a_cons (d_callTy call_list_of (cd_list false) T.m_list (by decide +kernel) (a_cons (d_var 8) a_nil)) a_nil)))))
      (ss_cons (s_set (i := 15) sc_law.nd (d_gc (d_mk (n := 2) (dds := []) T.g_Custom (T.mk_Custom) (okF_Custom___init__ T) (hr.mono (by decide)) T.B_Custom___init__ .nil .nil rfl (takes_of rfl rfl rfl rfl) (a_cons (d_var 5) (a_cons (d_callTy call_list_of (cd_list false) T.m_list (by decide +kernel) (a_cons (d_var 9) a_nil)) a_nil)))))
      (ss_cons (s_if (t_of (w_or (t_not (t_tru (d_callF (n := 2) (okF__law_same T) rfl (hr.mono (by decide)) T.g__law_same T.F__law_same.kp T.B__law_same (takes_of rfl rfl rfl rfl) (a_cons (d_callF (n := 1) (okF_number_of T) rfl (hr.mono (by decide)) T.g_number_of T.F_number_of.kp T.B_number_of (takes_of rfl rfl rfl rfl) (a_cons (d_var 14) a_nil)) (a_cons (d_var 10) a_nil))))) (w_or1 (t_not (t_tru (d_callF (n := 2) (okF__law_same T) rfl (hr.mono (by decide)) T.g__law_same T.F__law_same.kp T.B__law_same (takes_of rfl rfl rfl rfl) (a_cons (d_callF (n := 1) (okF_number_of T) rfl (hr.mono (by decide)) T.g_number_of T.F_number_of.kp T.B_number_of (takes_of rfl rfl rfl rfl) (a_cons (d_var 15) a_nil)) (a_cons (d_var 12) a_nil)))))))) (ss_one (s_ret d_bl)) ss_nil)
      (ss_cons (s_if (t_ne hr.units (d_lt (d_callF (n := 1) (okF_number_of T) rfl (hr.mono (by decide)) T.g_number_of T.F_number_of.kp T.B_number_of (takes_of rfl rfl rfl rfl) (a_cons (d_var 14) a_nil)) (d_callF (n := 1) (okF_number_of T) rfl (hr.mono (by decide)) T.g_number_of T.F_number_of.kp T.B_number_of (takes_of rfl rfl rfl rfl) (a_cons (d_var 15) a_nil))) (d_ltX hr.units (d_fld T.cl_Custom T.na_Custom_answers (d_var 14)) (d_fld T.cl_Custom T.na_Custom_answers (d_var 15)))) (ss_one (s_ret d_bl)) ss_nil)
      (ss_cons (s_set (i := 1) sc_law.nd (d_callF (n := 2) (okM__law_pool T) rfl (hr.mono (by decide)) T.g__law_pool T.F__law_pool.kp T.B__law_pool (takes_of rfl rfl rfl rfl) (a_cons (d_var 0) (a_cons d_int a_nil))))
      (ss_cons (s_set (i := 16) sc_law.nd (d_callF (n := 2) (okF__law_draw T) rfl (hr.mono (by decide)) T.g__law_draw T.F__law_draw.kp T.B__law_draw (takes_of rfl rfl rfl rfl) (a_cons (d_var 1) (a_cons (d_var 11) a_nil))))
      (ss_cons (s_set (i := 17) sc_law.nd (d_callF (n := 2) (okF__law_draw T) rfl (hr.mono (by decide)) T.g__law_draw T.F__law_draw.kp T.B__law_draw (takes_of rfl rfl rfl rfl) (a_cons (d_var 1) (a_cons (d_pow d_int d_int) a_nil))))
      (ss_cons (s_for (passes_of rfl) rfl (i_seq (d_lst false (a_cons (d_var 10) (a_cons (d_add (d_var 10) d_int) (a_cons (d_sub (d_var 10) d_int) (a_cons d_int (a_cons (d_sub (d_var 11) d_int) (a_cons (d_var 16) (a_cons (d_var 11) (a_cons (d_add (d_var 11) (d_var 17)) (a_cons (d_sub (d_neg d_int) (d_var 17)) a_nil))))))))))) (g_name (i := 18) sc_law.nd) (ss_cl [18] (ss_one (s_if (t_not (t_tru (d_callF (n := 4) (okF__law_number_holds T) rfl (hr.mono (by decide)) T.g__law_number_holds T.F__law_number_holds.kp T.B__law_number_holds (takes_of rfl rfl rfl rfl) (a_cons (d_var 5) (a_cons (d_var 6) (a_cons (d_var 18) (a_cons (d_var 11) a_nil))))))) (ss_one (s_ret d_bl)) ss_nil))))
      (ss_cons (s_if (t_of (w_and (t_lt (d_add (d_var 10) d_int) (d_var 11)) (w_and1 (t_not (t_ltX hr.units (d_fld T.cl_Custom T.na_Custom_answers (d_var 14)) (d_fld T.cl_Custom T.na_Custom_answers (d_callF (n := 2) (okF_custom_at T) rfl (hr.mono (by decide)) T.g_custom_at T.F_custom_at.kp T.B_custom_at (takes_of rfl rfl rfl rfl) (a_cons (d_var 5) (a_cons (d_add (d_var 10) d_int) a_nil))))))))) (ss_one (s_ret d_bl)) ss_nil)
      (ss_one (s_ret (d_and (d_callF (n := 2) (okF__law_same T) rfl (hr.mono (by decide)) T.g__law_same T.F__law_same.kp T.B__law_same (takes_of rfl rfl rfl rfl) (a_cons (d_callF (n := 1) (okF_number_of T) rfl (hr.mono (by decide)) T.g_number_of T.F_number_of.kp T.B_number_of (takes_of rfl rfl rfl rfl) (a_cons (d_var 14) a_nil)) (a_cons (d_var 10) a_nil))) (d_one (d_callF (n := 2) (okF__law_same T) rfl (hr.mono (by decide)) T.g__law_same T.F__law_same.kp T.B__law_same (takes_of rfl rfl rfl rfl) (a_cons (d_callF (n := 1) (okF_count_customs T) rfl (hr.mono (by decide)) T.g_count_customs T.F_count_customs.kp T.B_count_customs (takes_of rfl rfl rfl rfl) (a_cons (d_var 5) a_nil)) (a_cons (d_var 11) a_nil)))))))))))))))))))))))))))))
end
end FCL

set_option Elab.async false
set_option linter.all false
set_option maxRecDepth 100000
namespace FC
open PySem PySem.Spec L2
section
variable {ft : FT} {fe fo fi : FE} {f g : FS} {fI : FI} {b : Bd} {fa : FA} {env : DEnv} {S : Store} {ds : List Dv}
@[simp] theorem sIf_e : sIf ft f g env S = sBnd ft (fun c => if c = true then f else g) env S := rfl
@[simp] theorem sRet_e : sRet fe env S = sBnd fe (fun d _ S => some (.rt d S)) env S := rfl
@[simp] theorem sExpr_e : sExpr fe env S = sBnd fe (fun _ => sNext) env S := rfl
@[simp] theorem sAsg_e : sAsg fe b env S = sBnd fe (fun d env S => match b d env with
  | some env' => some (.nx env' S)
  | none => none) env S := rfl
@[simp] theorem sFor_e : sFor fI b f env S = sBnd fI (fun items => forM' b f items) env S := rfl
@[simp] theorem sRaise_e {name : Str} {flds : List Str} : sRaise name flds fa env S = sBnd fa (fun ds env S => if ds.length = flds.length then some (.exc name (flds.zip ds) env S) else none) env S := rfl
@[simp] theorem sSetIx_e : sSetIx fo fi fe env S = sBnd fe (fun v => sBnd fo fun o => sBnd fi fun i => fun env S => match setIx o i v S with
  | some S' => some (.nx env S')
  | none => none) env S := rfl
@[simp] theorem oSum_e : oSum ds S = oSeq (fun xs => bnd (ofO (asInts xs)) fun ns => FC.ret (.int ns.sum)) ds S := rfl
@[simp] theorem oAllL_e : oAllL ds S = oSeqL (fun xs => bnd (ofO (asBls xs)) fun ns => FC.ret (.bl (ns.all id))) ds S := rfl
@[simp] theorem oAnyL_e : oAnyL ds S = oSeqL (fun xs => bnd (ofO (asBls xs)) fun ns => FC.ret (.bl (ns.any id))) ds S := rfl
@[simp] theorem oTuple_e : oTuple ds S = oSeq (fun xs => FC.ret (.tup xs)) ds S := rfl
end
section
variable {i j : Int} {S : Store}
@[simp] theorem oSub_i : oSub (.int i) (.int j) S = some (.ok (.int (i - j)) S) := rfl
@[simp] theorem oLt_i : oLt (.int i) (.int j) S = some (.ok (.bl (decide (i < j))) S) := rfl
@[simp] theorem oLe_i : oLe (.int i) (.int j) S = some (.ok (.bl (decide (i ≤ j))) S) := rfl
@[simp] theorem oGt_i : oGt (.int i) (.int j) S = some (.ok (.bl (decide (j < i))) S) := rfl
@[simp] theorem oGe_i : oGe (.int i) (.int j) S = some (.ok (.bl (decide (j ≤ i))) S) := rfl
@[simp] theorem oBAnd_i : oBAnd (.int i) (.int j) S = some (.ok (.int (Builtin.bitAnd i j)) S) := rfl
theorem oIC_i {C : Int → Int → Prop} [∀ i j, Decidable (C i j)] {g : Int → Int → Dv} (h : C i j) : oIC C g (.int i) (.int j) S = some (.ok (g i j) S) := by simp [oIC, ret, h]
@[simp] theorem oMod_i (h : 0 < j) : oMod (.int i) (.int j) S = some (.ok (.int (i % j)) S) := oIC_i h
theorem oDiv_i (h : 0 < j) (h2 : j.natAbs.log2 < 9000) : oDiv (.int i) (.int j) S = some (.ok (.int (i / j)) S) := oIC_i ⟨h, h2⟩
theorem oMul_i (h : i.natAbs.log2 + j.natAbs.log2 < 1000000) : oMul (.int i) (.int j) S = some (.ok (.int (i * j)) S) := oIC_i h
theorem log2_lt {i : Int} {k n : Nat} (h : i.natAbs < 2 ^ k) (hk : k ≤ n) (hn : 0 < n) : i.natAbs.log2 < n := by
  rcases Nat.eq_zero_or_pos i.natAbs with z | z
  · rw [z]; simpa using hn
  · have := (Nat.log2_lt (by omega)).2 h
    omega
theorem oMul_b (h : 0 ≤ i) (h2 : i < 2 ^ 64) (h3 : 0 ≤ j) (h4 : j < 2 ^ 64) : oMul (.int i) (.int j) S = some (.ok (.int (i * j)) S) := oMul_i (by
  have a := log2_lt (i := i) (k := 64) (n := 64) (by omega) (by decide) (by decide)
  have b := log2_lt (i := j) (k := 64) (n := 64) (by omega) (by decide) (by decide)
  omega)
theorem oDiv_b (h : 0 < j) (h2 : j < 2 ^ 64) : oDiv (.int i) (.int j) S = some (.ok (.int (i / j)) S) := oDiv_i h (log2_lt (k := 64) (by omega) (by decide) (by decide))
theorem oPow_i (h : 0 ≤ j) (h2 : j ≤ 1000000) (h3 : i.natAbs < 2 ^ 64) : oPow (.int i) (.int j) S = some (.ok (.int (i ^ j.toNat)) S) := oIC_i ⟨h, h2, h3⟩
theorem oShl_i (h : 0 ≤ j) (h2 : j ≤ 1000000) (h3 : i.natAbs < 2 ^ 64) : oShl (.int i) (.int j) S = some (.ok (.int (i * 2 ^ j.toNat)) S) := oIC_i ⟨h, h2, h3⟩
theorem oShr_i (h : 0 ≤ j) : oShr (.int i) (.int j) S = some (.ok (.int (i / 2 ^ j.toNat)) S) := oIC_i h
@[simp] theorem ten18 : oPow (.int 10) (.int 18) S = some (.ok (.int 1000000000000000000) S) := oPow_i (by decide) (by decide) (by decide)
@[simp] theorem ten7 : oPow (.int 10) (.int 7) S = some (.ok (.int 10000000) S) := oPow_i (by decide) (by decide) (by decide)
@[simp] theorem ten6 : oPow (.int 10) (.int 6) S = some (.ok (.int 1000000) S) := oPow_i (by decide) (by decide) (by decide)
@[simp] theorem oMin2_i : oMin2 [.int i, .int j] S = some (.ok (.int (min i j)) S) := by
  have : (if j < i then j else i) = min i j := by split <;> omega
  simp [oMin2, FC.ret, this]
@[simp] theorem oMax2_i : oMax2 [.int i, .int j] S = some (.ok (.int (max i j)) S) := by
  have : (if j > i then j else i) = max i j := by split <;> omega
  simp only [oMax2, FC.ret, this]
theorem abs_if (i : Int) : (if i < 0 then -i else i) = (i.natAbs : Int) := by split <;> omega
@[simp] theorem oAbs_i : oAbs [.int i] S = some (.ok (.int (i.natAbs : Int)) S) := by simp only [oAbs, FC.ret, abs_if]
@[simp] theorem oInt1_i : oInt1 [.int i] S = some (.ok (.int i) S) := rfl
theorem ite_app {c : Prop} [Decidable c] {α : Type} {f g : Mm α} {r : Option (Rs α)} (h : c) (e : f S = r) : (if c then f else g) S = r := by rw [if_pos h]; exact e
theorem rng1_e (h : rngOk j) : rng1 [.int j] S = some (.ok ((upTo 0 j.toNat).map .int) S) := ite_app (f := FC.ret ((upTo 0 j.toNat).map Dv.int)) (g := stuck) h rfl
theorem rng2_e (h : rngOk i) (h2 : rngOk j) : rng2 [.int i, .int j] S = some (.ok ((upTo i (j - i).toNat).map .int) S) := ite_app (f := FC.ret ((upTo i (j - i).toNat).map Dv.int)) (g := stuck) (And.intro h h2) rfl
theorem rngOk_of {i : Int} (h : 0 ≤ i) (h2 : i ≤ 1000000) : rngOk i := by unfold rngOk; omega
@[simp] theorem rng1_len {n : Nat} (h : n ≤ 1000000) : rng1 [.int n] S = some (.ok ((upTo 0 n).map .int) S) := by
  rw [rng1_e (rngOk_of (by omega) (by omega)), Int.toNat_natCast]
theorem rgOk_of {i : Int} (h : 0 ≤ i) (h2 : i ≤ 400000) : rgOk 0 i := ⟨by decide, by omega⟩
theorem fLr1_e {fa : FE} {env : DEnv} {n : Int} (hf : fa env S = some (.ok (.int n) S)) (h : 0 ≤ n) (h2 : n ≤ 400000) : fLr1 false fa env S = some (.ok (.lst ((upTo 0 (n - 0).toNat).map .int)) S) := by
  unfold fLr1 FC.bnd
  rw [hf]
  exact ite_app (f := newL false ((upTo 0 (n - 0).toNat).map Dv.int)) (g := stuck) (rgOk_of h h2) rfl
theorem fLr1_len {fa : FE} {env : DEnv} {n : Nat} (hf : fa env S = some (.ok (.int n) S)) (h : n ≤ 400000) : fLr1 false fa env S = some (.ok (.lst ((upTo 0 n).map .int)) S) := by
  rw [fLr1_e hf (by omega) (by omega), Int.sub_zero, Int.toNat_natCast]
@[simp] theorem oEq_i : oEq (.int i) (.int j) S = some (.ok (.bl (decide (i = j))) S) := rfl
@[simp] theorem oNe_i : oNe (.int i) (.int j) S = some (.ok (.bl (!decide (i = j))) S) := rfl
end
/-- a tuple of ints; a list of ints -/
abbrev tIn (xs : List Int) : Dv := .tup (xs.map .int)
abbrev lIn (xs : List Int) : Dv := .lst (xs.map .int)
@[simp] theorem asInts_map' (xs : List Int) : asInts (xs.map Dv.int) = some xs := asInts_map xs
@[simp] theorem asBls_map' (xs : List Bool) : asBls (xs.map Dv.bl) = some xs := asBls_map xs
/-- a comprehension whose parts change nothing -/
theorem compM_pure {α : Type} {b : Bd} {ft : FT} {fe : FE} {env0 : DEnv} {S : Store} (enc : α → Dv) (p : α → Bool) (g : α → Dv) : ∀ (xs : List α) (acc : List Dv), acc.length + xs.length ≤ big →
    (∀ x ∈ xs, ∃ env1, b (enc x) env0 = some env1 ∧ ft env1 S = some (.ok (p x) S) ∧ (p x = true → fe env1 S = some (.ok (g x) S))) → compM b ft fe env0 (xs.map enc) acc S = some (.ok (acc ++ (xs.filter p).map g) S)
  | [], acc, _, _ => by simp [compM]
  | x :: xs, acc, hl, h => by
    obtain ⟨env1, h1, h2, h3⟩ := h x List.mem_cons_self
    have hl' : acc.length + (xs.length + 1) ≤ big := hl
    have ha : acc.length ≤ big := by omega
    show compM b ft fe env0 (enc x :: xs.map enc) acc S = _
    unfold compM
    simp only [h1, h2]
    cases hp : p x with
    | false =>
      simp only
      rw [compM_pure enc p g xs acc (by omega) fun y hy => h y (List.mem_cons_of_mem _ hy)]
      simp [hp]
    | true =>
      simp only [h3 hp, if_pos ha]
      rw [compM_pure enc p g xs (acc ++ [g x]) (by simp; omega) fun y hy => h y (List.mem_cons_of_mem _ hy)]
      simp [hp]
/-- .. without a test -/
theorem compM_map {α : Type} {b : Bd} {fe : FE} {env0 : DEnv} {S : Store} (enc : α → Dv) (g : α → Dv) (xs : List α) (hl : xs.length ≤ big) (h : ∀ x ∈ xs, ∃ env1, b (enc x) env0 = some env1 ∧ fe env1 S = some (.ok (g x) S)) : compM b fYes fe env0 (xs.map enc) [] S = some (.ok (xs.map g) S) := by
  have := compM_pure (b := b) (ft := fYes) (fe := fe) (env0 := env0) (S := S) enc (fun _ => true) g xs [] (by simpa using hl) fun x hx => by
    obtain ⟨env1, h1, h2⟩ := h x hx
    exact ⟨env1, h1, rfl, fun _ => h2⟩
  rw [this, List.nil_append, List.filter_eq_self.mpr (by simp)]
/-- .. whose element changes the store: P by the number of elements made -/
theorem compM_st {α : Type} {b : Bd} {fe : FE} {env0 : DEnv} (enc : α → Dv) (P : Nat → Store → Prop) (Q : α → Dv → Prop) (N : Nat) : ∀ (xs : List α) (acc : List Dv) (i : Nat) (S : Store), acc.length + xs.length ≤ big → i + xs.length ≤ N → P i S →
    (∀ x ∈ xs, ∀ j S, j < N → P j S → ∃ env1 y S', b (enc x) env0 = some env1 ∧ fe env1 S = some (.ok y S') ∧ P (j + 1) S' ∧ Q x y) →
    ∃ ys S', compM b fYes fe env0 (xs.map enc) acc S = some (.ok (acc ++ ys) S') ∧ P (i + xs.length) S' ∧ ys.length = xs.length ∧ ∀ (k : Nat) (x : α) (y : Dv), xs[k]? = some x → ys[k]? = some y → Q x y
  | [], acc, i, S, _, _, hP, _ => ⟨[], S, by simp [compM], by simpa using hP, rfl, by simp⟩
  | x :: xs, acc, i, S, hl, hN, hP, h => by
    have hN' : i + (xs.length + 1) ≤ N := hN
    obtain ⟨env1, y, S1, h1, h2, h3, h4⟩ := h x List.mem_cons_self i S (by omega) hP
    have hl' : acc.length + (xs.length + 1) ≤ big := hl
    have ha : acc.length ≤ big := by omega
    obtain ⟨ys, S', e1, e2, e3, e4⟩ := compM_st enc P Q N xs (acc ++ [y]) (i + 1) S1 (by simp; omega) (by omega) h3 fun z hz => h z (List.mem_cons_of_mem _ hz)
    refine ⟨y :: ys, S', ?_, ?_, by simp [e3], fun k => ?_⟩
    · show compM b fYes fe env0 (enc x :: xs.map enc) acc S = _
      unfold compM
      simp only [h1, fYes, FC.ret, h2, if_pos ha, e1, List.append_assoc, List.singleton_append]
    · simp only [List.length_cons]
      rw [show i + (xs.length + 1) = i + 1 + xs.length by omega]
      exact e2
    · cases k with
      | zero =>
        intro x' y' hx hy
        simp at hx hy
        subst hx; subst hy
        exact h4
      | succ k => simpa using e4 k
/-- a loop that goes through all items -/
theorem forM_all {α : Type} {b : Bd} {fb : FS} {S : Store} (enc : α → Dv) (Pe : DEnv → Prop) : ∀ (xs : List α) (env : DEnv), Pe env → (∀ x ∈ xs, ∀ env, Pe env → ∃ env1 env2, b (enc x) env = some env1 ∧ fb env1 S = some (.nx env2 S) ∧ Pe env2) →
    ∃ env', forM' b fb (xs.map enc) env S = some (.nx env' S) ∧ Pe env'
  | [], env, hP, _ => ⟨env, by simp [forM'], hP⟩
  | x :: xs, env, hP, h => by
    obtain ⟨env1, env2, h1, h2, h3⟩ := h x List.mem_cons_self env hP
    obtain ⟨env', e1, e2⟩ := forM_all enc Pe xs env2 h3 fun z hz => h z (List.mem_cons_of_mem _ hz)
    refine ⟨env', ?_, e2⟩
    show forM' b fb (enc x :: xs.map enc) env S = _
    unfold forM'
    simp only [h1, h2, e1]
/-- .. whose body changes the store -/
theorem forM_st {α : Type} {b : Bd} {fb : FS} (enc : α → Dv) (P : Nat → DEnv → Store → Prop) (N : Nat) : ∀ (xs : List α) (i : Nat) (env : DEnv) (S : Store), i + xs.length ≤ N → P i env S → (∀ x ∈ xs, ∀ j env S, j < N → P j env S → ∃ env1 env2 S2, b (enc x) env = some env1 ∧ fb env1 S = some (.nx env2 S2) ∧ P (j + 1) env2 S2) →
    ∃ env' S', forM' b fb (xs.map enc) env S = some (.nx env' S') ∧ P (i + xs.length) env' S'
  | [], i, env, S, _, hP, _ => ⟨env, S, by simp [forM'], by simpa using hP⟩
  | x :: xs, i, env, S, hN, hP, h => by
    have hN' : i + (xs.length + 1) ≤ N := hN
    obtain ⟨env1, env2, S2, h1, h2, h3⟩ := h x List.mem_cons_self i env S (by omega) hP
    obtain ⟨env', S', e1, e2⟩ := forM_st enc P N xs (i + 1) env2 S2 (by omega) h3 fun z hz => h z (List.mem_cons_of_mem _ hz)
    refine ⟨env', S', ?_, ?_⟩
    · show forM' b fb (enc x :: xs.map enc) env S = _
      unfold forM'
      simp only [h1, h2, e1]
    · simp only [List.length_cons]
      rw [show i + (xs.length + 1) = i + 1 + xs.length by omega]
      exact e2
/-! ### pairs of ints -/
def encP (p : Int × Int) : Dv := .tup [.int p.1, .int p.2]
theorem pairs_ints : ∀ xs ys : List Int, pairs (xs.map .int) (ys.map .int) = (xs.zip ys).map encP
  | [], _ => by simp [pairs]
  | _ :: _, [] => by simp [pairs]
  | x :: xs, y :: ys => by
    simp only [List.map_cons, pairs, List.zip_cons_cons, encP, pairs_ints xs ys]
theorem upTo_range (n : Nat) : upTo 0 n = (List.range n).map fun i : Nat => (i : Int) := by
  unfold upTo
  simp
theorem numbered_ints (xs : List Int) : numbered (xs.map .int) = ((upTo 0 xs.length).zip xs).map encP := by
  unfold numbered
  rw [List.length_map]
  exact pairs_ints _ _
@[simp] theorem big_e : big = 1000000 := rfl
end FC

set_option Elab.async false
set_option linter.all false
set_option maxRecDepth 100000
namespace FCP
open FC (upTo)
/-! parts of a crowd: the first one, the next one, all of them -/
def fpart : List Int → Int → List Int
  | [], _ => []
  | _ :: cs, n => (n - min n cs.sum) :: fpart cs (min n cs.sum)
def npart : List Int → List Int → Option (List Int)
  | c :: cs, p :: ps => match npart cs ps with
    | some q => some (p :: q)
    | none => if 0 < ps.sum ∧ p < c then some ((p + 1) :: fpart cs (ps.sum - 1)) else none
  | _, _ => none
def allp : List Int → Int → List (List Int)
  | [], n => if n = 0 then [[]] else []
  | c :: cs, n => (upTo 0 (min c n + 1).toNat).flatMap fun k => (allp cs (n - k)).map (k :: ·)
/-- p, next, next .. to the end -/
def Ch {α : Type} (nx : α → Option α) : List α → Prop
  | [] => True
  | [p] => nx p = none
  | p :: q :: r => nx p = some q ∧ Ch nx (q :: r)
def Nn (cs : List Int) : Prop := ∀ c ∈ cs, 0 ≤ c
theorem Nn.tail {c : Int} {cs : List Int} (h : Nn (c :: cs)) : Nn cs := fun x hx => h x (List.mem_cons_of_mem _ hx)
theorem Nn.head {c : Int} {cs : List Int} (h : Nn (c :: cs)) : 0 ≤ c := h c List.mem_cons_self
theorem Nn.sum : ∀ {cs : List Int}, Nn cs → 0 ≤ cs.sum
  | [], _ => by simp
  | c :: cs, h => by
    have := Nn.sum h.tail
    have := h.head
    simp only [List.sum_cons]
    omega
theorem mem_upTo {lo i : Int} {n : Nat} : i ∈ upTo lo n ↔ lo ≤ i ∧ i < lo + n := by
  unfold upTo
  simp only [List.mem_map, List.mem_range]
  constructor
  · rintro ⟨k, hk, rfl⟩; omega
  · rintro ⟨h1, h2⟩; exact ⟨(i - lo).toNat, by omega, by omega⟩
theorem mem_allp : ∀ {cs : List Int} {n : Int} {p : List Int}, p ∈ allp cs n → p.length = cs.length ∧ p.sum = n ∧ Nn p
  | [], n, p, h => by
    unfold allp at h
    split at h
    · rename_i e
      simp only [List.mem_singleton] at h
      subst h
      exact ⟨rfl, by simp [e], fun _ h => by cases h⟩
    · cases h
  | c :: cs, n, p, h => by
    unfold allp at h
    rw [List.mem_flatMap] at h
    obtain ⟨k, hk, h⟩ := h
    rw [List.mem_map] at h
    obtain ⟨q, hq, rfl⟩ := h
    obtain ⟨h1, h2, h3⟩ := mem_allp hq
    rw [mem_upTo] at hk
    refine ⟨by simp [h1], by simp only [List.sum_cons, h2]; omega, fun x hx => ?_⟩
    rcases List.mem_cons.1 hx with rfl | hx
    · exact hk.1
    · exact h3 x hx
theorem allp_nil : ∀ {cs : List Int} {n : Int}, Nn cs → (n < 0 ∨ cs.sum < n) → allp cs n = []
  | [], n, _, h => by
    unfold allp
    rw [if_neg (by simp at h; omega)]
  | c :: cs, n, hc, h => by
    unfold allp
    rw [List.flatMap_eq_nil_iff]
    intro k hk
    rw [mem_upTo] at hk
    have := hc.head
    simp only [List.sum_cons] at h
    rw [List.map_eq_nil_iff]
    exact allp_nil hc.tail (by omega)
/-- a run of blocks: each leads to the next one's head -/
theorem Ch.append {α : Type} {nx : α → Option α} : ∀ {xs : List α} {y : α} {ys : List α}, xs ≠ [] → (∀ (i : Nat) a b, xs[i]? = some a → xs[i + 1]? = some b → nx a = some b) → (∀ a, xs.getLast? = some a → nx a = some y) → Ch nx (y :: ys) → Ch nx (xs ++ y :: ys)
  | [], _, _, h, _, _, _ => absurd rfl h
  | [a], y, ys, _, _, h2, h3 => ⟨h2 a rfl, h3⟩
  | a :: b :: r, y, ys, _, h1, h2, h3 => ⟨h1 0 a b rfl rfl, Ch.append (xs := b :: r) (by simp) (fun i u v hu hv => h1 (i + 1) u v hu hv) (fun u hu => h2 u (by simpa using hu)) h3⟩
theorem Ch.get {α : Type} {nx : α → Option α} : ∀ {xs : List α}, Ch nx xs → ∀ (i : Nat) a b, xs[i]? = some a → xs[i + 1]? = some b → nx a = some b
  | [], _, i, a, b, h, _ => by simp at h
  | [p], _, i, a, b, _, h => by simp at h
  | p :: q :: r, h, 0, a, b, h1, h2 => by
    cases h1; cases h2
    exact h.1
  | p :: q :: r, h, i + 1, a, b, h1, h2 => Ch.get h.2 i a b h1 h2
theorem Ch.last {α : Type} {nx : α → Option α} : ∀ {xs : List α}, Ch nx xs → ∀ a, xs.getLast? = some a → nx a = none
  | [], _, a, h => by cases h
  | [p], h, a, h1 => by cases h1; exact h
  | p :: q :: r, h, a, h1 => Ch.last h.2 a (by simpa using h1)

theorem upTo_succ (k : Int) (m : Nat) : upTo k (m + 1) = k :: upTo (k + 1) m := by
  unfold upTo
  rw [List.range_succ_eq_map, List.map_cons, List.map_map]
  congr 1
  · omega
  · apply List.map_congr_left
    intro i _
    simp only [Function.comp_apply]
    omega
theorem upTo_add (k : Int) (a b : Nat) : upTo k (a + b) = upTo k a ++ upTo (k + a) b := by
  unfold upTo
  rw [List.range_add, List.map_append, List.map_map]
  congr 1
  apply List.map_congr_left
  intro i _
  simp only [Function.comp_apply]
  omega
theorem np_some {c k : Int} {cs a b : List Int} (h : npart cs a = some b) : npart (c :: cs) (k :: a) = some (k :: b) := by
  show (match npart cs a with
    | some q => some (k :: q)
    | none => if 0 < a.sum ∧ k < c then some ((k + 1) :: fpart cs (a.sum - 1)) else none) = _
  rw [h]
theorem np_none {c k : Int} {cs a : List Int} (h : npart cs a = none) : npart (c :: cs) (k :: a) = if 0 < a.sum ∧ k < c then some ((k + 1) :: fpart cs (a.sum - 1)) else none := by
  show (match npart cs a with
    | some q => some (k :: q)
    | none => if 0 < a.sum ∧ k < c then some ((k + 1) :: fpart cs (a.sum - 1)) else none) = _
  rw [h]
theorem blk {c : Int} {cs : List Int} {n : Int} (hc : Nn (c :: cs)) (ih : ∀ m, 0 ≤ m → m ≤ cs.sum → ∃ r, allp cs m = fpart cs m :: r ∧ Ch (npart cs) (allp cs m)) : ∀ (m : Nat) (k : Int), 0 ≤ k → n - cs.sum ≤ k → k + m = min c n →
    ∃ r, (upTo k (m + 1)).flatMap (fun k => (allp cs (n - k)).map (k :: ·)) = (k :: fpart cs (n - k)) :: r ∧ Ch (npart (c :: cs)) ((upTo k (m + 1)).flatMap fun k => (allp cs (n - k)).map (k :: ·)) := by
  intro m
  induction m with
  | zero =>
    intro k h0 h1 h2
    obtain ⟨r, e, h⟩ := ih (n - k) (by omega) (by omega)
    have e2 : upTo k (0 + 1) = [k] := by simp [upTo]
    rw [e2, List.flatMap_cons, List.flatMap_nil, List.append_nil]
    refine ⟨r.map (k :: ·), by rw [e]; rfl, ?_⟩
    have key : ∀ l : List (List Int), (∀ a ∈ l, a.sum = n - k) → Ch (npart cs) l → Ch (npart (c :: cs)) (l.map (k :: ·)) := by
      intro l
      induction l with
      | nil => intro _ _; trivial
      | cons a l ihl =>
        intro hs hch
        cases l with
        | nil =>
          show npart (c :: cs) (k :: a) = none
          rw [np_none hch, if_neg]
          rw [hs a List.mem_cons_self]
          omega
        | cons b l => exact ⟨np_some hch.1, ihl (fun a ha => hs a (List.mem_cons_of_mem _ ha)) hch.2⟩
    exact key _ (fun a ha => (mem_allp ha).2.1) h
  | succ m ihm =>
    intro k h0 h1 h2
    obtain ⟨r, e, h⟩ := ih (n - k) (by omega) (by omega)
    obtain ⟨r2, e2, h3⟩ := ihm (k + 1) (by omega) (by omega) (by omega)
    rw [upTo_succ k (m + 1), List.flatMap_cons, e2]
    rw [e2] at h3
    refine ⟨r.map (k :: ·) ++ ((k + 1) :: fpart cs (n - (k + 1))) :: r2, by rw [e]; rfl, ?_⟩
    refine Ch.append (by rw [e]; simp) (fun i a b ha hb => ?_) (fun a ha => ?_) h3
    · rw [List.getElem?_map] at ha hb
      cases ea : (allp cs (n - k))[i]? with
      | none => rw [ea] at ha; cases ha
      | some u =>
        cases eb : (allp cs (n - k))[i + 1]? with
        | none => rw [eb] at hb; cases hb
        | some v =>
          rw [ea] at ha; rw [eb] at hb
          cases ha; cases hb
          exact np_some (h.get i u v ea eb)
    · rw [List.getLast?_map] at ha
      cases ea : (allp cs (n - k)).getLast? with
      | none => rw [ea] at ha; cases ha
      | some u =>
        rw [ea] at ha
        cases ha
        have hs := (mem_allp (List.mem_of_getLast? ea)).2.1
        rw [np_none (h.last u ea), hs, if_pos (by omega), show n - k - 1 = n - (k + 1) by omega]
theorem allp_ch : ∀ (cs : List Int) (n : Int), Nn cs → 0 ≤ n → n ≤ cs.sum → ∃ r, allp cs n = fpart cs n :: r ∧ Ch (npart cs) (allp cs n)
  | [], n, _, h0, h1 => by
    have : n = 0 := by simp at h1; omega
    subst this
    exact ⟨[], rfl, rfl⟩
  | c :: cs, n, hc, h0, h1 => by
    have hs := hc.tail.sum
    have hh := hc.head
    simp only [List.sum_cons] at h1
    have lo : n - min n cs.sum = max 0 (n - cs.sum) := by omega
    have h := blk hc (fun m a b => allp_ch cs m hc.tail a b) (n := n) (min c n - (n - min n cs.sum)).toNat (n - min n cs.sum) (by omega) (by omega) (by omega)
    have e : allp (c :: cs) n = (upTo (n - min n cs.sum) ((min c n - (n - min n cs.sum)).toNat + 1)).flatMap fun k => (allp cs (n - k)).map (k :: ·) := by
      show (upTo 0 (min c n + 1).toNat).flatMap _ = _
      rw [show (min c n + 1).toNat = (n - min n cs.sum).toNat + ((min c n - (n - min n cs.sum)).toNat + 1) by omega, upTo_add, List.flatMap_append]
      rw [List.flatMap_eq_nil_iff.2 (fun k hk => by
        rw [mem_upTo] at hk
        rw [List.map_eq_nil_iff]
        exact allp_nil hc.tail (by omega)), List.nil_append, show (0 : Int) + ((n - min n cs.sum).toNat : Int) = n - min n cs.sum by omega]
    rw [e]
    obtain ⟨r, e1, h2⟩ := h
    refine ⟨r, ?_, h2⟩
    rw [e1]
    show _ = ((n - min n cs.sum) :: fpart cs (min n cs.sum)) :: r
    rw [show n - (n - min n cs.sum) = min n cs.sum by omega]

/-! the same list, made row by row -/
def pre : List Int → Int → List (List Int)
  | [], _ => [[]]
  | c :: cs, n => (upTo 0 (min c n + 1).toNat).flatMap fun k => (pre cs (n - k)).map (k :: ·)
def stp (n c : Int) (rows : List (List Int)) : List (List Int) := rows.flatMap fun r => (upTo 0 (min c (n - r.sum) + 1).toNat).map fun k => r ++ [k]
theorem stp_all (n : Int) : ∀ (cs : List Int) (R : List (List Int)), cs.foldl (fun rows c => stp n c rows) R = R.flatMap fun r => (pre cs (n - r.sum)).map (r ++ ·)
  | [], R => by
    simp only [List.foldl_nil, pre, List.map_cons, List.map_nil, List.append_nil]
    induction R with
    | nil => rfl
    | cons r R ih => rw [List.flatMap_cons, ← ih]; rfl
  | c :: cs, R => by
    rw [List.foldl_cons, stp_all n cs]
    unfold stp
    rw [List.flatMap_assoc]
    congr 1
    funext r
    rw [List.flatMap_map]
    show _ = (((upTo 0 (min c (n - r.sum) + 1).toNat).flatMap fun k => (pre cs (n - r.sum - k)).map (k :: ·))).map (r ++ ·)
    rw [List.map_flatMap]
    congr 1
    funext k
    rw [List.map_map]
    simp only [List.sum_append, List.sum_cons, List.sum_nil, Int.add_zero]
    rw [show n - (r.sum + k) = n - r.sum - k by omega]
    apply List.map_congr_left
    intro q _
    simp
theorem pre_allp : ∀ (cs : List Int) (n : Int), (pre cs n).filter (fun p => decide (p.sum = n)) = allp cs n
  | [], n => by
    unfold pre allp
    by_cases h : n = 0
    · subst h; rfl
    · rw [if_neg h]
      have : decide (([] : List Int).sum = n) = false := decide_eq_false fun e => h (by rw [← e]; rfl)
      simp only [List.filter_cons, this, List.filter_nil]
      rfl
  | c :: cs, n => by
    unfold pre allp
    rw [List.filter_flatMap]
    congr 1
    funext k
    rw [List.filter_map, ← pre_allp cs (n - k)]
    congr 1
    apply List.filter_congr
    intro q _
    have e : (k :: q).sum = k + q.sum := List.sum_cons
    show decide ((k :: q).sum = n) = decide (q.sum = n - k)
    by_cases z : q.sum = n - k
    · rw [decide_eq_true z, decide_eq_true (by omega)]
    · rw [decide_eq_false z, decide_eq_false (by omega)]
/-- what the law lists -/
def lparts (cs : List Int) (n : Int) : List (List Int) := (cs.foldl (fun rows c => stp n c rows) [[]]).filter fun p => decide (p.sum = n)
theorem lparts_eq (cs : List Int) (n : Int) : lparts cs n = allp cs n := by
  unfold lparts
  rw [stp_all, ← pre_allp]
  congr 1
  simp
/-- a part of just its own size -/
theorem allp_self : ∀ {p : List Int}, Nn p → allp p p.sum = [p]
  | [], _ => rfl
  | k :: ps, h => by
    have h0 := h.head
    have hs := h.tail.sum
    unfold allp
    simp only [List.sum_cons]
    rw [show (min k (k + ps.sum) + 1).toNat = k.toNat + 1 by omega, upTo_add, List.flatMap_append]
    rw [List.flatMap_eq_nil_iff.2 (fun j hj => by
      rw [mem_upTo] at hj
      rw [List.map_eq_nil_iff]
      exact allp_nil h.tail (by omega)), List.nil_append]
    have e : upTo (0 + (k.toNat : Int)) 1 = [k] := by
      have := upTo_succ (0 + (k.toNat : Int)) 0
      rw [Nat.zero_add] at this
      rw [this]
      simp [upTo]
      omega
    rw [e, List.flatMap_cons, List.flatMap_nil, List.append_nil, show k + ps.sum - k = ps.sum by omega, allp_self h.tail]
    rfl
/-! the first part, made from the last kind on -/
def fr : List Int → Int → List Int × Int
  | [], n => ([], n)
  | c :: cs, n => (min c (fr cs n).2 :: (fr cs n).1, (fr cs n).2 - min c (fr cs n).2)
def fstep (s : List Int × Int) (r : Int) : List Int × Int := (s.1 ++ [min r s.2], s.2 - min r s.2)
theorem fr_rev (n : Int) : ∀ cs : List Int, cs.reverse.foldl fstep ([], n) = ((fr cs n).1.reverse, (fr cs n).2)
  | [] => rfl
  | c :: cs => by
    rw [List.reverse_cons, List.foldl_append, fr_rev n cs]
    simp [fstep, fr]
theorem fr_eq : ∀ (cs : List Int) (n : Int), Nn cs → 0 ≤ n → (fr cs n).2 = n - min n cs.sum ∧ (fr cs n).1 = fpart cs (min n cs.sum)
  | [], n, _, h => by
    refine ⟨?_, rfl⟩
    simp [fr]
    omega
  | c :: cs, n, hc, h => by
    obtain ⟨h1, h2⟩ := fr_eq cs n hc.tail h
    have hs := hc.tail.sum
    have hh := hc.head
    unfold fr fpart
    simp only [List.sum_cons]
    constructor
    · rw [h1]; omega
    · rw [h1, h2]
      congr 1
      · omega
      · congr 1; omega
theorem fr_part (cs : List Int) (n : Int) (hc : Nn cs) (h : 0 ≤ n) (h2 : n ≤ cs.sum) : (fr cs n).1 = fpart cs n := by
  rw [(fr_eq cs n hc h).2, show min n cs.sum = n by omega]
/-! the next part, looked for from the last kind on -/
theorem np_lift : ∀ (i : Nat) (cs ps q : List Int), cs.length = ps.length → npart (cs.drop i) (ps.drop i) = some q → npart cs ps = some (ps.take i ++ q)
  | 0, cs, ps, q, _, h => by simpa using h
  | i + 1, [], [], q, _, h => by simp [npart] at h
  | i + 1, c :: cs, p :: ps, q, hl, h => by
    have := np_lift i cs ps q (by simpa using hl) (by simpa using h)
    rw [np_some this]
    simp
  | i + 1, [], _ :: _, _, hl, _ => by simp at hl
  | i + 1, _ :: _, [], _, hl, _ => by simp at hl
theorem np_at (i : Nat) (cs ps : List Int) (hl : cs.length = ps.length) (hi : i < ps.length) (h : npart (cs.drop (i + 1)) (ps.drop (i + 1)) = none) :
    npart (cs.drop i) (ps.drop i) = if 0 < (ps.drop (i + 1)).sum ∧ ps[i] < cs[i]'(by omega) then some ((ps[i] + 1) :: fpart (cs.drop (i + 1)) ((ps.drop (i + 1)).sum - 1)) else none := by
  rw [List.drop_eq_getElem_cons (show i < cs.length by omega), List.drop_eq_getElem_cons hi, np_none h]
/-- how many parts there can be -/
theorem allp_len (N : Nat) : ∀ (cs : List Int) (n : Int), n ≤ N → (allp cs n).length ≤ (N + 1) ^ (cs.length - 1)
  | [], n, _ => by
    unfold allp
    split <;> simp
  | [c], n, hn => by
    have : ∀ (m : Nat) (lo : Int), ((upTo lo m).flatMap fun k => (allp [] (n - k)).map (k :: ·)).length ≤ 1 ∧ (n < lo → ((upTo lo m).flatMap fun k => (allp [] (n - k)).map (k :: ·)).length = 0) := by
      intro m
      induction m with
      | zero => intro lo; simp [upTo]
      | succ m ih =>
        intro lo
        rw [upTo_succ, List.flatMap_cons, List.length_append, List.length_map]
        obtain ⟨a, b⟩ := ih (lo + 1)
        unfold allp at *
        by_cases z : n - lo = 0
        · rw [if_pos z]
          have := b (by omega)
          simp only [List.length_cons, List.length_nil]
          omega
        · rw [if_neg z]
          simp only [List.length_nil]
          exact ⟨by omega, fun h => by have := b (by omega); omega⟩
    exact (this (min c n + 1).toNat 0).1
  | c :: d :: cs, n, hn => by
    have h : ∀ l : List Int, (∀ k ∈ l, 0 ≤ k) → (l.flatMap fun k => (allp (d :: cs) (n - k)).map (k :: ·)).length ≤ l.length * (N + 1) ^ cs.length := by
      intro l
      induction l with
      | nil => intro _; simp
      | cons k l ih =>
        intro hk
        have h1 := ih fun x hx => hk x (List.mem_cons_of_mem _ hx)
        have h2 := allp_len N (d :: cs) (n - k) (by have := hk k List.mem_cons_self; omega)
        simp only [List.length_cons, Nat.add_sub_cancel] at h2
        rw [List.flatMap_cons, List.length_append, List.length_map, List.length_cons, Nat.succ_mul]
        omega
    have h1 := h (upTo 0 (min c n + 1).toNat) fun k hk => by rw [mem_upTo] at hk; exact hk.1
    have h2 : (upTo 0 (min c n + 1).toNat).length ≤ N + 1 := by simp [upTo]; omega
    show ((upTo 0 (min c n + 1).toNat).flatMap _).length ≤ _
    simp only [List.length_cons, Nat.add_sub_cancel]
    rw [Nat.pow_succ, Nat.mul_comm ((N + 1) ^ cs.length)]
    exact Nat.le_trans h1 (Nat.mul_le_mul_right _ h2)

theorem sums_le : ∀ {p cs : List Int}, p.length = cs.length → (∀ (i : Nat) x y, p[i]? = some x → cs[i]? = some y → x ≤ y) → p.sum ≤ cs.sum
  | [], [], _, _ => by simp
  | x :: p, c :: cs, hl, h => by
    have a := h 0 x c rfl rfl
    have b := sums_le (p := p) (cs := cs) (by simpa using hl) fun i u v hu hv => h (i + 1) u v (by simpa using hu) (by simpa using hv)
    simp only [List.sum_cons]
    omega
  | [], _ :: _, hl, _ => by simp at hl
  | _ :: _, [], hl, _ => by simp at hl
theorem allp_at : ∀ {cs : List Int} {n : Int} {p : List Int}, p ∈ allp cs n → ∀ (i : Nat) x y, p[i]? = some x → cs[i]? = some y → x ≤ y
  | [], n, p, h, i, x, y, hx, hy => by simp at hy
  | c :: cs, n, p, h, i, x, y, hx, hy => by
    unfold allp at h
    rw [List.mem_flatMap] at h
    obtain ⟨k, hk, h⟩ := h
    rw [List.mem_map] at h
    obtain ⟨q, hq, rfl⟩ := h
    rw [mem_upTo] at hk
    cases i with
    | zero => cases hx; cases hy; omega
    | succ i => exact allp_at hq i x y (by simpa using hx) (by simpa using hy)
theorem allp_le {cs : List Int} {n : Int} {p : List Int} (h : p ∈ allp cs n) (i : Nat) : (p.drop i).sum ≤ (cs.drop i).sum := by
  have hl := (mem_allp h).1
  refine sums_le (by simp [hl]) fun j x y hx hy => ?_
  rw [List.getElem?_drop] at hx hy
  exact allp_at h _ x y hx hy
end FCP

set_option Elab.async false
set_option linter.all false
set_option maxRecDepth 100000
namespace FC
open PySem PySem.Spec L2
/-! ### data without names -/
@[simp] theorem okO_non {n} : okO n .non = true := rfl
@[simp] theorem okO_bl {n b} : okO n (.bl b) = true := rfl
@[simp] theorem okO_int {n i} : okO n (.int i) = true := rfl
@[simp] theorem okO_str {n x} : okO n (.str x) = true := rfl
@[simp] theorem okO_cls {n x} : okO n (.cls x) = true := rfl
@[simp] theorem okO_tup {n xs} : okO n (.tup xs) = okOs n xs := rfl
@[simp] theorem okO_lst {n xs} : okO n (.lst xs) = okOs n xs := rfl
@[simp] theorem okO_obj {n k} : okO n (.obj k) = decide (k < n) := rfl
@[simp] theorem okO_ins {n c fs} : okO n (.ins c fs) = okOs n (fs.map Prod.snd) := okOf_eq fs
@[simp] theorem okO_dic {n fs} : okO n (.dic fs) = okOs n (fs.map Prod.snd) := okOk_eq fs
@[simp] theorem okO_dit {n fs} : okO n (.dit fs) = okOs n (fs.map Prod.snd) := okOt_eq fs
@[simp] theorem okOs_nil {n} : okOs n [] = true := rfl
@[simp] theorem okOs_cons {n d r} : okOs n (d :: r) = (okO n d && okOs n r) := rfl
@[simp] theorem okOs_app {n} : ∀ {xs ys : List Dv}, okOs n (xs ++ ys) = (okOs n xs && okOs n ys)
  | [], ys => by simp
  | x :: xs, ys => by simp [okOs_app (xs := xs), Bool.and_assoc]
theorem okOs_iff {n} : ∀ {xs : List Dv}, okOs n xs = true ↔ ∀ d ∈ xs, okO n d = true
  | [] => by simp
  | x :: xs => by simp [okOs_iff (xs := xs)]
theorem okOs_map {α : Type} {n} {enc : α → Dv} (h : ∀ x, okO n (enc x) = true) (xs : List α) : okOs n (xs.map enc) = true := okOs_iff.mpr fun d hd => by
  obtain ⟨x, _, rfl⟩ := List.mem_map.1 hd
  exact h x
@[simp] theorem okOs_ints {n} (xs : List Int) : okOs n (xs.map Dv.int) = true := okOs_map (fun _ => rfl) xs
@[simp] theorem okOs_bls {n} (xs : List Bool) : okOs n (xs.map Dv.bl) = true := okOs_map (fun _ => rfl) xs
/-- lists of tuples of ints -/
abbrev tIs (xss : List (List Int)) : List Dv := xss.map fun xs => tIn xs
@[simp] theorem okOs_tIs {n} (xss : List (List Int)) : okOs n (xss.map fun xs => Dv.tup (xs.map Dv.int)) = true := okOs_map (fun _ => by simp) xss
/-! ### what is left behind -/
theorem zip_fs {κ : Type} {fs : List (κ × Dv)} : (fs.map Prod.fst).zip (fs.map Prod.snd) = fs := by
  induction fs with
  | nil => rfl
  | cons a r ih => simp [ih]
theorem StOk.app {S G : Store} : StOk S (S ++ G) := ⟨by simp, fun i d h q => .inl (by rwa [List.getElem?_append_left h] at q)⟩
theorem StOk.refl {S : Store} : StOk S S := ⟨Nat.le_refl _, fun i d h q => .inl q⟩
theorem take_app (S G : Store) : (S ++ G).take S.length = S := by simp
theorem fzd_ok0 {n f : Nat} {S : Store} {d : Dv} (h : okO n d = true) : fzd n S f d = some d := by
  cases f <;> (unfold fzd; rw [if_pos h])
theorem fzs_id {g : Dv → Option Dv} : ∀ {xs : List Dv}, (∀ d ∈ xs, g d = some d) → fzs g xs = some xs
  | [], _ => rfl
  | x :: xs, h => by
    unfold fzs
    rw [h x List.mem_cons_self, fzs_id fun d hd => h d (List.mem_cons_of_mem _ hd)]
theorem fzs_ok0 {n f : Nat} {S : Store} {xs : List Dv} (h : okOs n xs = true) : fzs (fzd n S f) xs = some xs := fzs_id fun d hd => fzd_ok0 (okOs_iff.mp h d hd)
theorem gcR_ok0 {S G : Store} {d : Dv} (h : okO S.length d = true) : gcR S (some (.ok d (S ++ G))) = some (.ok d S) := by
  unfold gcR
  simp only [if_pos (StOk.app (S := S) (G := G)), fzd_ok0 h, take_app]
theorem gcR_okS {S S' : Store} {d : Dv} (hs : StOk S S') (hl : S'.length = S.length) (h : okO S.length d = true) : gcR S (some (.ok d S')) = some (.ok d S') := by
  unfold gcR
  simp only [if_pos hs, fzd_ok0 h]
  rw [List.take_of_length_le (by omega)]
theorem gcR_exc0 {S G : Store} {c : Str} {fs : List (Str × Dv)} (h : okOs S.length (fs.map Prod.snd) = true) : gcR S (some (.exc c fs (S ++ G))) = some (.exc c fs S) := by
  unfold gcR fzf
  simp only [if_pos (StOk.app (S := S) (G := G)), fzs_ok0 h, take_app]
  rw [zip_fs]
theorem gcR_lst {S G : Store} {xs : List Dv} (h : okOs S.length xs = true) : gcR S (some (.ok (.obj S.length) (S ++ .lst xs :: G))) = some (.ok (.lst xs) S) := by
  unfold gcR
  simp only [if_pos (StOk.app (S := S) (G := .lst xs :: G)), take_app]
  unfold fzd
  rw [if_neg (by simp)]
  simp [fzs_ok0 h]
theorem gcR_ins {S G : Store} {c : Str} {fs : List (Str × Dv)} (h : okOs S.length (fs.map Prod.snd) = true) : gcR S (some (.ok (.obj S.length) (S ++ .ins c fs :: G))) = some (.ok (.ins c fs) S) := by
  unfold gcR
  simp only [if_pos (StOk.app (S := S) (G := .ins c fs :: G)), take_app]
  unfold fzd
  rw [if_neg (by simp)]
  simp [fzs_ok0 h]
  rw [zip_fs]
theorem gcMR_lst {S G : Store} {xs : List Dv} (h : okOs S.length xs = true) : gcMR S (some (.ok (.obj S.length) (S ++ .lst xs :: G))) = some (.ok (.obj S.length) (S ++ [.lst xs])) := by
  unfold gcMR
  simp only [if_pos (And.intro (StOk.app (S := S) (G := .lst xs :: G)) (Nat.le_refl S.length)), take_app]
  simp [fzo, fzs_ok0 h]

/-! ### defs -/
section
variable {n : Nat} {fs : FS} {ds : List Dv} {S G : Store} {d : Dv}
theorem gcD_of (h : bodyF n fs ds S = some (.ok d (S ++ G))) (hd : okO S.length d = true) : gcD (bodyF n fs) ds S = some (.ok d S) := by
  show gcR S (bodyF n fs ds S) = _
  rw [h]
  exact gcR_ok0 hd
theorem gcD_pure (h : bodyF n fs ds S = some (.ok d S)) (hd : okO S.length d = true) : gcD (bodyF n fs) ds S = some (.ok d S) := gcD_of (G := []) (by rw [h, List.append_nil]) hd
theorem gcD_exc {c : Str} {fl : List (Str × Dv)} (h : bodyF n fs ds S = some (.exc c fl S)) (hd : okOs S.length (fl.map Prod.snd) = true) : gcD (bodyF n fs) ds S = some (.exc c fl S) := by
  show gcR S (bodyF n fs ds S) = _
  rw [h]
  exact (by have := gcR_exc0 (S := S) (G := []) (c := c) hd; rwa [List.append_nil] at this)
theorem gcD_list {xs : List Dv} (h : bodyF n fs ds S = some (.ok (.obj S.length) (S ++ .lst xs :: G))) (hd : okOs S.length xs = true) : gcD (bodyF n fs) ds S = some (.ok (.lst xs) S) := by
  show gcR S (bodyF n fs ds S) = _
  rw [h]
  exact gcR_lst hd
theorem gcM_list {xs : List Dv} (h : bodyF n fs ds S = some (.ok (.obj S.length) (S ++ .lst xs :: G))) (hd : okOs S.length xs = true) : gcM (bodyF n fs) ds S = some (.ok (.obj S.length) (S ++ [.lst xs])) := by
  show gcMR S (bodyF n fs ds S) = _
  rw [h]
  exact gcMR_lst hd
end
/-! ### loops -/
section
variable {b : Bd} {fb : FS}
theorem forM_fold {α σ : Type} (enc : α → Dv) (E : σ → DEnv) (St : σ → Store) (step : σ → α → σ) (I : Nat → σ → Prop) : ∀ (xs : List α) (i : Nat) (s : σ), I i s →
    (∀ (j : Nat) (x : α) (s : σ), xs[j]? = some x → I (i + j) s → ∃ env1, b (enc x) (E s) = some env1 ∧ fb env1 (St s) = some (.nx (E (step s x)) (St (step s x))) ∧ I (i + j + 1) (step s x)) →
    forM' b fb (xs.map enc) (E s) (St s) = some (.nx (E (xs.foldl step s)) (St (xs.foldl step s))) ∧ I (i + xs.length) (xs.foldl step s)
  | [], i, s, hI, _ => ⟨by simp [forM'], by simpa using hI⟩
  | x :: xs, i, s, hI, h => by
    obtain ⟨env1, h1, h2, h3⟩ := h 0 x s rfl (by simpa using hI)
    obtain ⟨e1, e2⟩ := forM_fold enc E St step I xs (i + 1) (step s x) (by simpa using h3) fun j y s hj hI => by
      have := h (j + 1) y s (by simpa using hj) (by rw [show i + (j + 1) = i + 1 + j by omega]; exact hI)
      rw [show i + (j + 1) = i + 1 + j by omega] at this
      exact this
    refine ⟨?_, by rw [List.length_cons, show i + (xs.length + 1) = i + 1 + xs.length by omega]; exact e2⟩
    show forM' b fb (enc x :: xs.map enc) (E s) (St s) = _
    unfold forM'
    simp only [h1, h2, e1, List.foldl_cons]
theorem forM_const {α : Type} (enc : α → Dv) (env : DEnv) (S : Store) (xs : List α) (h : ∀ x ∈ xs, ∃ env1, b (enc x) env = some env1 ∧ fb env1 S = some (.nx env S)) : forM' b fb (xs.map enc) env S = some (.nx env S) :=
  (forM_fold (b := b) (fb := fb) enc (fun _ : Unit => env) (fun _ => S) (fun s _ => s) (fun _ _ => True) xs 0 () True.intro fun j x s hj _ => by
    obtain ⟨env1, h1, h2⟩ := h x (List.mem_of_getElem? hj)
    exact ⟨env1, h1, h2, True.intro⟩).1
/-- does it leave the loop? -/
def isOut : Rf → Prop
  | .rt _ _ => True
  | .exc _ _ _ _ => True
  | _ => False
theorem forM_find {α : Type} (enc : α → Dv) (env : DEnv) (S : Store) (p : α → Bool) (g : α → Rf) : ∀ (xs : List α), (∀ x, isOut (g x)) → (∀ x ∈ xs, ∃ env1, b (enc x) env = some env1 ∧ fb env1 S = some (if p x = true then g x else .nx env S)) →
    forM' b fb (xs.map enc) env S = some (match xs.find? p with | some x => g x | none => .nx env S)
  | [], _, _ => rfl
  | x :: xs, hg, h => by
    obtain ⟨env1, h1, h2⟩ := h x List.mem_cons_self
    show forM' b fb (enc x :: xs.map enc) env S = _
    unfold forM'
    simp only [h1, h2]
    by_cases hp : p x = true
    · rw [if_pos hp, List.find?_cons_of_pos hp]
      have := hg x
      cases hgx : g x with
      | rt _ _ => simp only [hgx]
      | exc _ _ _ _ => simp only [hgx]
      | nx _ _ => rw [hgx] at this; exact this.elim
      | bk _ _ => rw [hgx] at this; exact this.elim
      | ct _ _ => rw [hgx] at this; exact this.elim
    · rw [if_neg hp, List.find?_cons_of_neg hp]
      exact forM_find enc env S p g xs hg fun z hz => h z (List.mem_cons_of_mem _ hz)
end
/-- a comprehension whose parts change nothing, no test -/
theorem compM_map' {α : Type} {b : Bd} {fe : FE} {env0 : DEnv} {S : Store} {enc : α → Dv} {xs : List α} (g : α → Dv) (hl : xs.length ≤ 1000000) (h : ∀ x ∈ xs, ∃ env1, b (enc x) env0 = some env1 ∧ fe env1 S = some (.ok (g x) S)) : compM b fYes fe env0 (xs.map enc) [] S = some (.ok (xs.map g) S) := compM_map enc g xs hl h
theorem compM_filter {α : Type} {b : Bd} {ft : FT} {fe : FE} {env0 : DEnv} {S : Store} {enc : α → Dv} {xs : List α} (p : α → Bool) (g : α → Dv) (hl : xs.length ≤ 1000000) (h : ∀ x ∈ xs, ∃ env1, b (enc x) env0 = some env1 ∧ ft env1 S = some (.ok (p x) S) ∧ (p x = true → fe env1 S = some (.ok (g x) S))) : compM b ft fe env0 (xs.map enc) [] S = some (.ok ((xs.filter p).map g) S) := by
  have := compM_pure (b := b) (ft := ft) (fe := fe) (env0 := env0) (S := S) enc p g xs [] (by simpa using hl) h
  simpa using this
@[simp] theorem clS_nx {ks env S} : clS ks (some (.nx env S)) = some (.nx (fgt ks env) S) := rfl
@[simp] theorem clS_rt {ks d S} : clS ks (some (.rt d S)) = some (.rt d S) := rfl
@[simp] theorem clS_exc {ks c fs env S} : clS ks (some (.exc c fs env S)) = some (.exc c fs env S) := rfl
@[simp] theorem fgt_nil {env} : fgt [] env = env := rfl
@[simp] theorem fgt_cons {k r env} : fgt (k :: r) env = (fgt r env).set k none := rfl
theorem gcS_nx {ks : List Nat} {S G : Store} {env env' : DEnv} (h : fzE S.length (S ++ G) (fgt ks env) = some env') : gcS ks S (some (.nx env (S ++ G))) = some (.nx env' S) := by
  unfold gcS
  simp only [if_pos (StOk.app (S := S) (G := G)), h, take_app]
theorem fzE_cons {n : Nat} {S : Store} {d d' : Dv} {r r' : DEnv} (h1 : fzd n S 6 d = some d') (h2 : fzE n S r = some r') : fzE n S (some d :: r) = some (some d' :: r') := by
  unfold fzE
  rw [h1, h2]
theorem fzE_none {n : Nat} {S : Store} {r r' : DEnv} (h2 : fzE n S r = some r') : fzE n S (none :: r) = some (none :: r') := by
  unfold fzE
  rw [h2]
theorem fzE_nil {n : Nat} {S : Store} : fzE n S [] = some [] := rfl
section
variable {α : Type}
@[simp] theorem asBls_comp (f : α → Bool) (xs : List α) : asBls (xs.map (Dv.bl ∘ f)) = some (xs.map f) := by rw [← List.map_map]; exact asBls_map _
@[simp] theorem asBls_fun (f : α → Bool) (xs : List α) : asBls (xs.map fun x => Dv.bl (f x)) = some (xs.map f) := asBls_comp f xs
@[simp] theorem asInts_comp (f : α → Int) (xs : List α) : asInts (xs.map (Dv.int ∘ f)) = some (xs.map f) := by rw [← List.map_map]; exact asInts_map _
@[simp] theorem asInts_fun (f : α → Int) (xs : List α) : asInts (xs.map fun x => Dv.int (f x)) = some (xs.map f) := asInts_comp f xs
end
@[simp] theorem insOf_ins {c fs S} : insOf (.ins c fs) S = some (c, fs) := rfl
@[simp] theorem insOf_obj {n S} : insOf (.obj n) S = match S[n]? with
    | some (.ins c fs) => some (c, fs)
    | _ => none := rfl
@[simp] theorem beq_str (a b : Str) : (a == b) = decide (a = b) := by
  cases h : a == b with
  | true => simp at h; simp [h]
  | false => simp at h; simp [h]
@[simp] theorem lk_cons {β : Type} {k a : Str} {b : β} {es : List (Str × β)} : List.lookup k ((a, b) :: es) = if k = a then some b else List.lookup k es := by
  rw [List.lookup_cons]
  by_cases h : k = a
  · simp [h]
  · simp [h]
end FC
namespace FC
open PySem PySem.Spec L2
/-! ### comprehensions with two clauses -/
section
variable {α β : Type} {b b1 : Bd} {fi1 : FI} {vs1 : List Nat} {fe : FE} {env0 : DEnv} {S : Store} (enc : α → Dv) (enc2 : β → Dv) (ys : α → List β) (g : α → β → Dv)
theorem compM2_flat : ∀ (xs : List α) (acc : List Dv), acc.length + (xs.flatMap ys).length ≤ 1000000 →
    (∀ x ∈ xs, ∃ env1, b (enc x) env0 = some env1 ∧ fi1 env1 S = some (.ok ((ys x).map enc2) S) ∧ ∀ y ∈ ys x, ∃ env2, b1 (enc2 y) (wipeD env1 vs1) = some env2 ∧ fe env2 S = some (.ok (g x y) S)) →
    compM2 b fYes fi1 vs1 b1 fYes fe env0 (xs.map enc) acc S = some (.ok (acc ++ xs.flatMap fun x => (ys x).map (g x)) S)
  | [], acc, _, _ => by simp [compM2]
  | x :: xs, acc, hl, h => by
    obtain ⟨env1, h1, h2, h3⟩ := h x List.mem_cons_self
    simp only [List.flatMap_cons, List.length_append] at hl
    have c1 := compM_pure (b := b1) (ft := fYes) (fe := fe) (env0 := wipeD env1 vs1) (S := S) enc2 (fun _ => true) (g x) (ys x) acc (by simp; omega) fun y hy => by
      obtain ⟨env2, e1, e2⟩ := h3 y hy
      exact ⟨env2, e1, rfl, fun _ => e2⟩
    rw [List.filter_eq_self.mpr (by simp)] at c1
    have ih := compM2_flat xs (acc ++ (ys x).map (g x)) (by rw [List.length_append, List.length_map]; omega) fun y hy => h y (List.mem_cons_of_mem _ hy)
    show compM2 b fYes fi1 vs1 b1 fYes fe env0 (enc x :: xs.map enc) acc S = _
    unfold compM2
    simp only [h1, fYes, FC.ret, h2]
    rw [c1]
    simp only
    rw [ih]
    simp
theorem compM2O_flat {n0 : Nat} {all : List Dv} (hS : S[n0]? = some (.lst all)) : ∀ (xs : List α) (acc : List Dv), acc.length + (xs.flatMap ys).length ≤ 1000000 →
    (∀ x ∈ xs, ∃ env1, b (enc x) env0 = some env1 ∧ fi1 env1 S = some (.ok ((ys x).map enc2) S) ∧ ∀ y ∈ ys x, ∃ env2, b1 (enc2 y) (wipeD env1 vs1) = some env2 ∧ fe env2 S = some (.ok (g x y) S)) →
    compM2O n0 all b fYes fi1 vs1 b1 fYes fe env0 (xs.map enc) acc S = some (.ok (acc ++ xs.flatMap fun x => (ys x).map (g x)) S)
  | [], acc, _, _ => by
    show compM2O n0 all b fYes fi1 vs1 b1 fYes fe env0 [] acc S = _
    unfold compM2O stands
    rw [if_pos hS]
    simp
  | x :: xs, acc, hl, h => by
    obtain ⟨env1, h1, h2, h3⟩ := h x List.mem_cons_self
    simp only [List.flatMap_cons, List.length_append] at hl
    have c1 := compM_pure (b := b1) (ft := fYes) (fe := fe) (env0 := wipeD env1 vs1) (S := S) enc2 (fun _ => true) (g x) (ys x) acc (by simp; omega) fun y hy => by
      obtain ⟨env2, e1, e2⟩ := h3 y hy
      exact ⟨env2, e1, rfl, fun _ => e2⟩
    rw [List.filter_eq_self.mpr (by simp)] at c1
    have ih := compM2O_flat hS xs (acc ++ (ys x).map (g x)) (by rw [List.length_append, List.length_map]; omega) fun y hy => h y (List.mem_cons_of_mem _ hy)
    show compM2O n0 all b fYes fi1 vs1 b1 fYes fe env0 (enc x :: xs.map enc) acc S = _
    unfold compM2O stands
    rw [if_pos hS]
    simp only [h1, fYes, FC.ret, h2]
    rw [c1]
    simp only
    rw [ih]
    simp
end
theorem gcM_obj {n : Nat} {fs : FS} {ds : List Dv} {S G : Store} {k : Nat} {xs : List Dv} (h : bodyF n fs ds S = some (.ok (.obj (S.length + k)) (S ++ G))) (hk : G[k]? = some (.lst xs)) (hd : okOs S.length xs = true) : gcM (bodyF n fs) ds S = some (.ok (.obj S.length) (S ++ [.lst xs])) := by
  show gcMR S (bodyF n fs ds S) = _
  rw [h]
  unfold gcMR
  simp only [if_pos (And.intro (StOk.app (S := S) (G := G)) (Nat.le_add_right S.length k)), take_app]
  have e : (S ++ G)[S.length + k]? = some (.lst xs) := by rw [List.getElem?_append_right (by omega), Nat.add_sub_cancel_left]; exact hk
  rw [e]
  simp [fzo, fzs_ok0 hd]
end FC
namespace FC
open PySem PySem.Spec L2
theorem fzs_nil {g : Dv → Option Dv} : fzs g [] = some [] := rfl
theorem fzs_cons {g : Dv → Option Dv} {d d' : Dv} {r r' : List Dv} (h1 : g d = some d') (h2 : fzs g r = some r') : fzs g (d :: r) = some (d' :: r') := by
  unfold fzs
  rw [h1, h2]
theorem fzd_tup {n f : Nat} {S : Store} {xs ys : List Dv} (h : fzs (fzd n S f) xs = some ys) (hn : okOs n xs = false) : fzd n S (f + 1) (.tup xs) = some (.tup ys) := by
  unfold fzd
  rw [if_neg (by rw [okO_tup, hn]; decide)]
  simp only [h]
theorem fzd_lst {n f : Nat} {S : Store} {xs ys : List Dv} (h : fzs (fzd n S f) xs = some ys) (hn : okOs n xs = false) : fzd n S (f + 1) (.lst xs) = some (.lst ys) := by
  unfold fzd
  rw [if_neg (by rw [okO_lst, hn]; decide)]
  simp only [h]
theorem fzd_obj {n f k : Nat} {S : Store} {xs ys : List Dv} (hk : n ≤ k) (hS : S[k]? = some (.lst xs)) (h : fzs (fzd n S f) xs = some ys) : fzd n S (f + 1) (.obj k) = some (.lst ys) := by
  unfold fzd
  rw [if_neg (by rw [okO_obj, decide_eq_true_eq]; omega)]
  simp only [hS, h]
theorem gcD_fz {n : Nat} {fs : FS} {ds : List Dv} {S G : Store} {d d' : Dv} (h : bodyF n fs ds S = some (.ok d (S ++ G))) (hf : fzd S.length (S ++ G) 6 d = some d') : gcD (bodyF n fs) ds S = some (.ok d' S) := by
  show gcR S (bodyF n fs ds S) = _
  rw [h]
  unfold gcR
  simp only [if_pos (StOk.app (S := S) (G := G)), hf, take_app]
end FC

set_option Elab.async false
set_option linter.all false
set_option maxRecDepth 100000
set_option maxHeartbeats 4000000
namespace FC
open PySem PySem.Spec L2
/-! ### == of data -/
theorem toPys_ints : ∀ xs : List Int, toPys (xs.map Dv.int) = some (xs.map PyData.int)
  | [] => rfl
  | x :: xs => by
    rw [List.map_cons]
    unfold toPys
    rw [toPys_ints xs]
    rfl
theorem canAll_ints : ∀ xs : List Int, PyData.canLayAll0 (xs.map PyData.int) = true
  | [] => rfl
  | x :: xs => by
    rw [List.map_cons]
    unfold PyData.canLayAll0
    rw [canAll_ints xs]
    rfl
theorem depthAll_ints : ∀ xs : List Int, PyData.depthAll (xs.map PyData.int) = 0
  | [] => rfl
  | x :: xs => by
    rw [List.map_cons, PyData.depthAll, depthAll_ints xs]
    rfl
theorem eqvAll_ints : ∀ xs ys : List Int, PyData.eqvAll (xs.map PyData.int) (ys.map PyData.int) = decide (xs = ys)
  | [], [] => by simp [PyData.eqvAll]
  | [], _ :: _ => by simp [PyData.eqvAll]
  | _ :: _, [] => by simp [PyData.eqvAll]
  | x :: xs, y :: ys => by
    rw [List.map_cons, List.map_cons, PyData.eqvAll, eqvAll_ints xs ys]
    simp [PyData.eqv]
    by_cases h : x = y <;> simp [h]
theorem shaped_ints (xs : List Int) : SeqAt.shaped (.tuple (xs.map PyData.int)) = true ∧ SeqAt.shaped (.list (xs.map PyData.int)) = true := by
  unfold SeqAt.shaped
  simp [PyData.canLay0, canAll_ints, PyData.depth, depthAll_ints]
theorem eqD_tIn (xs ys : List Int) : eqD (.tup (xs.map Dv.int)) (.tup (ys.map Dv.int)) = some (decide (xs = ys)) := by
  unfold eqD eqS toPy
  simp [toPys_ints, (shaped_ints xs).1, (shaped_ints ys).1, PyData.eqv, eqvAll_ints]
theorem eqD_lIn (xs ys : List Int) : eqD (.lst (xs.map Dv.int)) (.lst (ys.map Dv.int)) = some (decide (xs = ys)) := by
  unfold eqD eqS toPy
  simp [toPys_ints, (shaped_ints xs).2, (shaped_ints ys).2, PyData.eqv, eqvAll_ints]
section
variable {S : Store}
@[simp] theorem oEq_tIn (xs ys : List Int) : oEq (.tup (xs.map Dv.int)) (.tup (ys.map Dv.int)) S = some (.ok (.bl (decide (xs = ys))) S) := by
  unfold oEq; rw [eqD_tIn]; rfl
@[simp] theorem oNe_tIn (xs ys : List Int) : oNe (.tup (xs.map Dv.int)) (.tup (ys.map Dv.int)) S = some (.ok (.bl (!decide (xs = ys))) S) := by
  unfold oNe; rw [eqD_tIn]; rfl
@[simp] theorem oEq_lIn (xs ys : List Int) : oEq (.lst (xs.map Dv.int)) (.lst (ys.map Dv.int)) S = some (.ok (.bl (decide (xs = ys))) S) := by
  unfold oEq; rw [eqD_lIn]; rfl
@[simp] theorem oNe_lIn (xs ys : List Int) : oNe (.lst (xs.map Dv.int)) (.lst (ys.map Dv.int)) S = some (.ok (.bl (!decide (xs = ys))) S) := by
  unfold oNe; rw [eqD_lIn]; rfl
@[simp] theorem oEq_b {i j : Bool} : oEq (.bl i) (.bl j) S = some (.ok (.bl (decide (i = j))) S) := rfl
@[simp] theorem oNe_b {i j : Bool} : oNe (.bl i) (.bl j) S = some (.ok (.bl (!decide (i = j))) S) := rfl
@[simp] theorem oEq_s {i j : Str} : oEq (.str i) (.str j) S = some (.ok (.bl (decide (i = j))) S) := rfl
@[simp] theorem oNe_s {i j : Str} : oNe (.str i) (.str j) S = some (.ok (.bl (!decide (i = j))) S) := rfl
end
end FC
namespace FC
open PySem PySem.Spec L2
/-- a walk whose steps are known only to keep something -/
theorem forM_ex {b : Bd} {fb : FS} {α σ : Type} (enc : α → Dv) (E : σ → DEnv) (St : σ → Store) (I : Nat → σ → Prop) : ∀ (xs : List α) (i : Nat) (s : σ), I i s →
    (∀ (j : Nat) (x : α) (s : σ), x ∈ xs → i ≤ j → j < i + xs.length → I j s → ∃ env1 s', b (enc x) (E s) = some env1 ∧ fb env1 (St s) = some (.nx (E s') (St s')) ∧ I (j + 1) s') →
    ∃ s', forM' b fb (xs.map enc) (E s) (St s) = some (.nx (E s') (St s')) ∧ I (i + xs.length) s'
  | [], i, s, hI, _ => ⟨s, by simp [forM'], by simpa using hI⟩
  | x :: xs, i, s, hI, h => by
    obtain ⟨env1, s1, h1, h2, h3⟩ := h i x s List.mem_cons_self (Nat.le_refl _) (by simp) hI
    obtain ⟨s', e1, e2⟩ := forM_ex (b := b) (fb := fb) enc E St I xs (i + 1) s1 h3 fun j y s hy hj1 hj2 hI => h j y s (List.mem_cons_of_mem _ hy) (by omega) (by simp; omega) hI
    refine ⟨s', ?_, by rw [List.length_cons, show i + (xs.length + 1) = i + 1 + xs.length by omega]; exact e2⟩
    show forM' b fb (enc x :: xs.map enc) (E s) (St s) = _
    unfold forM'
    simp only [h1, h2, e1]
/-- .. and a comprehension -/
theorem compM_ex {b : Bd} {fe : FE} {env0 : DEnv} {α σ : Type} (enc : α → Dv) (St : σ → Store) (I : Nat → σ → List Dv → Prop) : ∀ (xs : List α) (i : Nat) (s : σ) (acc : List Dv), I i s acc → acc.length + xs.length ≤ 1000000 →
    (∀ (j : Nat) (x : α) (s : σ) (acc : List Dv), xs[j]? = some x → I (i + j) s acc → ∃ env1 s' d, b (enc x) env0 = some env1 ∧ fe env1 (St s) = some (.ok d (St s')) ∧ I (i + j + 1) s' (acc ++ [d])) →
    ∃ s' ys, compM b fYes fe env0 (xs.map enc) acc (St s) = some (.ok ys (St s')) ∧ I (i + xs.length) s' ys
  | [], i, s, acc, hI, _, _ => ⟨s, acc, by simp [compM], by simpa using hI⟩
  | x :: xs, i, s, acc, hI, hl, h => by
    obtain ⟨env1, s1, d, h1, h2, h3⟩ := h 0 x s acc rfl (by simpa using hI)
    simp only [List.length_cons] at hl
    obtain ⟨s', ys, e1, e2⟩ := compM_ex (b := b) (fe := fe) (env0 := env0) enc St I xs (i + 1) s1 (acc ++ [d]) (by simpa using h3) (by simp; omega) fun j y s acc hj hI => by
      have := h (j + 1) y s acc (by simpa using hj) (by rw [show i + (j + 1) = i + 1 + j by omega]; exact hI)
      rw [show i + (j + 1) = i + 1 + j by omega] at this
      exact this
    refine ⟨s', ys, ?_, by rw [List.length_cons, show i + (xs.length + 1) = i + 1 + xs.length by omega]; exact e2⟩
    show compM b fYes fe env0 (enc x :: xs.map enc) acc (St s) = _
    unfold compM
    simp only [h1, fYes, FC.ret, h2]
    rw [if_pos (show acc.length ≤ big by have : big = 1000000 := rfl; omega)]
    exact e1
end FC

set_option Elab.async false
set_option linter.all false
set_option maxRecDepth 100000
set_option maxHeartbeats 4000000
namespace FC
open PySem PySem.Spec L2
/-! ### what a run comes to: rules from the front -/
/-- what is not looked into -/
structure Dum {α : Sort u} (Q : α) : Type where
  mk ::
def We {α : Type} (r : Option (Rs α)) (Q : Rs α → Prop) (_u : Dum Q := Dum.mk) : Prop := ∃ x, r = some x ∧ Q x
def Ws (r : Option Rf) (Q : Rf → Prop) (_u : Dum Q := Dum.mk) : Prop := ∃ x, r = some x ∧ Q x
def Wb (r : Option DEnv) (Q : DEnv → Prop) (_u : Dum Q := Dum.mk) : Prop := ∃ x, r = some x ∧ Q x
def Br (c : Bool) (A B : Prop) (_u : Dum A := Dum.mk) (_v : Dum B := Dum.mk) : Prop := (c = true → A) ∧ (c = false → B)
def Hd {α : Type} (P : α → Prop) (x : α) (_u : Dum P := Dum.mk) : Prop := P x
theorem Hd_i {α : Type} {P : α → Prop} {x : α} (h : P x) : Hd P x := h
def Hi (I : Nat → DEnv → Store → Prop) (i : Nat) (e : DEnv) (s : Store) (_u : Dum I := Dum.mk) : Prop := I i e s
theorem Hi_i {I : Nat → DEnv → Store → Prop} {i : Nat} {e : DEnv} {s : Store} (h : I i e s) : Hi I i e s := h
theorem We_cong {α : Type} {r : Option (Rs α)} {Q Q' : Rs α → Prop} (h : ∀ x, Q x = Q' x) : We r Q = We r Q' := by
  have : Q = Q' := funext h
  subst this
  rfl
@[simp] theorem We_some {α : Type} {x : Rs α} {Q : Rs α → Prop} : We (some x) Q = Q x := by simp [We]
@[simp] theorem Ws_some {x : Rf} {Q : Rf → Prop} : Ws (some x) Q = Q x := by simp [Ws]
@[simp] theorem Wb_some {x : DEnv} {Q : DEnv → Prop} : Wb (some x) Q = Q x := by simp [Wb]
@[simp] theorem Br_true {A B : Prop} : Br true A B = A := by simp [Br]
@[simp] theorem Br_false {A B : Prop} : Br false A B = B := by simp [Br]
@[simp] theorem Br_not {c : Bool} {A B : Prop} : Br (!c) A B = Br c B A := by cases c <;> simp
theorem Br_of {c : Bool} {A B : Prop} (h1 : c = true → A) (h2 : c = false → B) : Br c A B := ⟨h1, h2⟩
theorem Br_dec {p : Prop} [Decidable p] {A B : Prop} (h1 : p → A) (h2 : ¬ p → B) : Br (decide p) A B := ⟨fun h => h1 (of_decide_eq_true h), fun h => h2 (of_decide_eq_false h)⟩
theorem Br_mid {c : Bool} {r1 r2 : Option Rf} {P : Rf → Prop} (R : Rf → Prop) (h1 : c = true → Ws r1 (Hd R)) (h2 : c = false → Ws r2 (Hd R)) (k : ∀ x, R x → P x) : Br c (Ws r1 P) (Ws r2 P) := by
  refine ⟨fun h => ?_, fun h => ?_⟩
  · obtain ⟨x, e, q⟩ := h1 h
    exact ⟨x, e, k x q⟩
  · obtain ⟨x, e, q⟩ := h2 h
    exact ⟨x, e, k x q⟩
theorem Br_midE {α : Type} {c : Bool} {r1 r2 : Option (Rs α)} {P : Rs α → Prop} (R : Rs α → Prop) (h1 : c = true → We r1 (Hd R)) (h2 : c = false → We r2 (Hd R)) (k : ∀ x, R x → P x) : Br c (We r1 P) (We r2 P) := by
  refine ⟨fun h => ?_, fun h => ?_⟩
  · obtain ⟨x, e, q⟩ := h1 h
    exact ⟨x, e, k x q⟩
  · obtain ⟨x, e, q⟩ := h2 h
    exact ⟨x, e, k x q⟩
theorem We_ok {α : Type} {r : Option (Rs α)} {d : α} {S : Store} {Q : Rs α → Prop} (h : r = some (.ok d S)) (k : Q (.ok d S)) : We r Q := ⟨_, h, k⟩
theorem We_of {α : Type} {r : Option (Rs α)} {x : Rs α} {Q : Rs α → Prop} (h : r = some x) (k : Q x) : We r Q := ⟨_, h, k⟩
theorem We_eq {α : Type} {r : Option (Rs α)} {x : Rs α} (h : We r (fun y => y = x)) : r = some x := by obtain ⟨y, h1, rfl⟩ := h; exact h1
theorem We_imp {α : Type} {r : Option (Rs α)} {P Q : Rs α → Prop} (h : We r P) (k : ∀ x, P x → Q x) : We r Q := by obtain ⟨y, h1, h2⟩ := h; exact ⟨y, h1, k y h2⟩
theorem Ws_imp {r : Option Rf} {P Q : Rf → Prop} (h : Ws r P) (k : ∀ x, P x → Q x) : Ws r Q := by obtain ⟨y, h1, h2⟩ := h; exact ⟨y, h1, k y h2⟩
theorem Ws_of {r : Option Rf} {x : Rf} {Q : Rf → Prop} (h : r = some x) (k : Q x) : Ws r Q := ⟨_, h, k⟩
theorem Ws_eq {r : Option Rf} {x : Rf} (h : Ws r (fun y => y = x)) : r = some x := by obtain ⟨y, h1, rfl⟩ := h; exact h1
/-! ### what follows -/
section
variable {α β : Type}
def bnK (k : α → Mm β) (Q : Rs β → Prop) : Rs α → Prop
  | .ok a S => We (k a S) Q
  | .exc c fs S => Q (.exc c fs S)
def sbK (k : α → FS) (env : DEnv) (Q : Rf → Prop) : Rs α → Prop
  | .ok a S => Ws (k a env S) Q
  | .exc c fs S => Q (.exc c fs env S)
def ifK (m1 m2 : Mm β) (Q : Rs β → Prop) : Rs Bool → Prop
  | .ok c S => Br c (We (m1 S) Q) (We (m2 S) Q)
  | .exc c fs S => Q (.exc c fs S)
def ivK (m1 m2 : Mm Dv) (Q : Rs Dv → Prop) : Rs Dv → Prop
  | .ok d S => We (ofO (asB d) S) (ifK m1 m2 Q)
  | .exc c fs S => Q (.exc c fs S)
def sqK (g : FS) (Q : Rf → Prop) : Rf → Prop
  | .nx e s => Ws (g e s) Q
  | x => Q x
def sifK (f g : FS) (env : DEnv) (Q : Rf → Prop) : Rs Bool → Prop
  | .ok c S => Br c (Ws (f env S) Q) (Ws (g env S) Q)
  | .exc c fs S => Q (.exc c fs env S)
def asK (b : Bd) (env : DEnv) (Q : Rf → Prop) : Rs Dv → Prop
  | .ok d S => Wb (b d env) (fun e => Q (.nx e S))
  | .exc c fs S => Q (.exc c fs env S)
def rtK (env : DEnv) (Q : Rf → Prop) : Rs Dv → Prop
  | .ok d S => Q (.rt d S)
  | .exc c fs S => Q (.exc c fs env S)
def xpK (env : DEnv) (Q : Rf → Prop) : Rs Dv → Prop
  | .ok _ S => Q (.nx env S)
  | .exc c fs S => Q (.exc c fs env S)
def lpK (b : Bd) (fb : FS) (r : List Dv) (Q : Rf → Prop) : Rf → Prop
  | .nx e s => Ws (forM' b fb r e s) Q
  | .ct e s => Ws (forM' b fb r e s) Q
  | .bk e s => Q (.nx e s)
  | x => Q x
def clK (ks : List Nat) (Q : Rf → Prop) : Rf → Prop
  | .nx e s => Q (.nx (fgt ks e) s)
  | .bk e s => Q (.bk (fgt ks e) s)
  | .ct e s => Q (.ct (fgt ks e) s)
  | x => Q x
def gsK (ks : List Nat) (S : Store) (Q : Rf → Prop) (x : Rf) : Prop := Ws (gcS ks S (some x)) Q
def erK (i : Nat) (Q : Rf → Prop) : Rf → Prop
  | .nx e s => Q (.nx (e.set i none) s)
  | .rt d s => Q (.rt d s)
  | .bk e s => Q (.bk (e.set i none) s)
  | .ct e s => Q (.ct (e.set i none) s)
  | .exc _ _ _ _ => False
def tyK (cn : Str → Option Bool) (i : Nat) (fsu : Str → List (Str × Dv) → FS) (Q : Rf → Prop) : Rf → Prop
  | .exc c flds e s => match cn c with
    | some true => i < e.length ∧ Ws (fsu c flds (e.set i none) s) (erK i Q)
    | some false => Q (.exc c flds e s)
    | none => False
  | x => Q x
def mtK (x f : Str) (n : Nat) (F : DFn) (la : FA) (env : DEnv) (Q : Rs Dv → Prop) : Rs Dv → Prop
  | .ok o S => match insOf o S with
    | some (c', fs) => (c' = x ∧ fs.lookup f = none) ∧ We (la env S) (bnK (fun ds => if ds.length = n then F (o :: ds) else stuck) Q)
    | none => False
  | .exc c fs S => Q (.exc c fs S)
def mrK (kk : List Dv → List Dv → Mm Dv) (la : FA) (env : DEnv) (Q : Rs Dv → Prop) : Rs Dv → Prop
  | .ok o S => isLst o S = true ∧ We (la env S) (bnK (fun ds S => match listOf o S with
    | some xs => kk xs ds S
    | none => none) Q)
  | .exc c fs S => Q (.exc c fs S)
def m1K (kk : Nat → List Dv → Mm Dv) (la : FA) (env : DEnv) (Q : Rs Dv → Prop) : Rs Dv → Prop
  | .ok o S => match isL o S with
    | some n => We (la env S) (bnK (kk n) Q)
    | none => False
  | .exc c fs S => Q (.exc c fs S)
def m0K (kk : Nat → Mm Dv) (Q : Rs Dv → Prop) : Rs Dv → Prop
  | .ok o S => match isL o S with
    | some n => We (kk n S) Q
    | none => False
  | .exc c fs S => Q (.exc c fs S)
def ch2K (o o' : DOp) (fc : FE) (env : DEnv) (x : Dv) (Q : Rs Dv → Prop) : Rs Dv → Prop
  | .ok y S => We (o x y S) (ivK (bnd (fc env) fun u => o' y u) (ret (.bl false)) Q)
  | .exc c fs S => Q (.exc c fs S)
def chK (o o' : DOp) (fb fc : FE) (env : DEnv) (Q : Rs Dv → Prop) : Rs Dv → Prop
  | .ok x S => We (fb env S) (ch2K o o' fc env x Q)
  | .exc c fs S => Q (.exc c fs S)
def otK (fb : FE) (env : DEnv) (Q : Rs Dv → Prop) : Rs Dv → Prop
  | .ok x S => We (tru x S) (ifK (ret x) (fb env) Q)
  | .exc c fs S => Q (.exc c fs S)
def atK (fb : FE) (env : DEnv) (Q : Rs Dv → Prop) : Rs Dv → Prop
  | .ok x S => We (tru x S) (ifK (fb env) (ret x) Q)
  | .exc c fs S => Q (.exc c fs S)
def mkK (F : DFn) (c : Str) (n : Nat) (dds : List Dv) (Q : Rs Dv → Prop) : Rs (List Dv) → Prop
  | .ok ds S => ds.length = n ∧ We (gcR S (mkR F c (fun o => o :: (ds ++ dds)) S)) Q
  | .exc _ _ _ => False
def lcK (m : Bool) (own : List Nat) (b : Bd) (ft : FT) (fe : FE) (env : DEnv) (Q : Rs Dv → Prop) : Rs (List Dv) → Prop
  | .ok items S => We (compM b ft fe (wipeD env own) items [] S) (bnK (newL m) Q)
  | .exc c fs S => Q (.exc c fs S)
def cmK2 (b : Bd) (ft : FT) (fe : FE) (env0 : DEnv) (r acc : List Dv) (Q : Rs (List Dv) → Prop) : Rs Dv → Prop
  | .ok y S => acc.length ≤ big ∧ We (compM b ft fe env0 r (acc ++ [y]) S) Q
  | .exc _ _ _ => False
def cmK (b : Bd) (ft : FT) (fe : FE) (env0 env1 : DEnv) (r acc : List Dv) (Q : Rs (List Dv) → Prop) : Rs Bool → Prop
  | .ok c S => Br c (We (fe env1 S) (cmK2 b ft fe env0 r acc Q)) (We (compM b ft fe env0 r acc S) Q)
  | .exc _ _ _ => False
variable {k : α → Mm β} {kf : α → FS} {Q : Rs β → Prop} {P : Rf → Prop} {QD : Rs Dv → Prop} {QL : Rs (List Dv) → Prop} {a : α} {S : Store} {c : Str} {fs : List (Str × Dv)} {env e : DEnv} {m1 m2 : Mm β} {n1 n2 : Mm Dv} {t : Bool} {d : Dv} {g f : FS} {b : Bd} {fb : FS} {r : List Dv} {ks : List Nat} {cn : Str → Option Bool} {i : Nat} {fsu : Str → List (Str × Dv) → FS} {F : DFn} {n : Nat} {dds ds acc : List Dv} {m : Bool} {own : List Nat} {ft : FT} {fe : FE} {env0 env1 : DEnv}
@[simp ↓] theorem bnK_ok : bnK k Q (.ok a S) = We (k a S) Q := rfl
@[simp ↓] theorem bnK_exc : bnK k Q (.exc c fs S) = Q (.exc c fs S) := rfl
@[simp ↓] theorem sbK_ok : sbK kf env P (.ok a S) = Ws (kf a env S) P := rfl
@[simp ↓] theorem sbK_exc : sbK kf env P (.exc c fs S) = P (.exc c fs env S) := rfl
@[simp ↓] theorem ifK_ok : ifK m1 m2 Q (.ok t S) = Br t (We (m1 S) Q) (We (m2 S) Q) := rfl
@[simp ↓] theorem ifK_exc : ifK m1 m2 Q (.exc c fs S) = Q (.exc c fs S) := rfl
@[simp ↓] theorem ivK_ok : ivK n1 n2 QD (.ok d S) = We (ofO (asB d) S) (ifK n1 n2 QD) := rfl
@[simp ↓] theorem ivK_exc : ivK n1 n2 QD (.exc c fs S) = QD (.exc c fs S) := rfl
@[simp ↓] theorem sqK_nx : sqK g P (.nx e S) = Ws (g e S) P := rfl
@[simp ↓] theorem sqK_rt : sqK g P (.rt d S) = P (.rt d S) := rfl
@[simp ↓] theorem sqK_bk : sqK g P (.bk e S) = P (.bk e S) := rfl
@[simp ↓] theorem sqK_ct : sqK g P (.ct e S) = P (.ct e S) := rfl
@[simp ↓] theorem sqK_exc : sqK g P (.exc c fs e S) = P (.exc c fs e S) := rfl
@[simp ↓] theorem sifK_ok : sifK f g env P (.ok t S) = Br t (Ws (f env S) P) (Ws (g env S) P) := rfl
@[simp ↓] theorem sifK_exc : sifK f g env P (.exc c fs S) = P (.exc c fs env S) := rfl
@[simp ↓] theorem asK_ok : asK b env P (.ok d S) = Wb (b d env) (fun e => P (.nx e S)) := rfl
@[simp ↓] theorem asK_exc : asK b env P (.exc c fs S) = P (.exc c fs env S) := rfl
@[simp ↓] theorem rtK_ok : rtK env P (.ok d S) = P (.rt d S) := rfl
@[simp ↓] theorem rtK_exc : rtK env P (.exc c fs S) = P (.exc c fs env S) := rfl
@[simp ↓] theorem xpK_ok : xpK env P (.ok d S) = P (.nx env S) := rfl
@[simp ↓] theorem xpK_exc : xpK env P (.exc c fs S) = P (.exc c fs env S) := rfl
@[simp ↓] theorem lpK_nx : lpK b fb r P (.nx e S) = Ws (forM' b fb r e S) P := rfl
@[simp ↓] theorem lpK_ct : lpK b fb r P (.ct e S) = Ws (forM' b fb r e S) P := rfl
@[simp ↓] theorem lpK_bk : lpK b fb r P (.bk e S) = P (.nx e S) := rfl
@[simp ↓] theorem lpK_rt : lpK b fb r P (.rt d S) = P (.rt d S) := rfl
@[simp ↓] theorem lpK_exc : lpK b fb r P (.exc c fs e S) = P (.exc c fs e S) := rfl
@[simp ↓] theorem clK_nx : clK ks P (.nx e S) = P (.nx (fgt ks e) S) := rfl
@[simp ↓] theorem clK_bk : clK ks P (.bk e S) = P (.bk (fgt ks e) S) := rfl
@[simp ↓] theorem clK_ct : clK ks P (.ct e S) = P (.ct (fgt ks e) S) := rfl
@[simp ↓] theorem clK_rt : clK ks P (.rt d S) = P (.rt d S) := rfl
@[simp ↓] theorem clK_exc : clK ks P (.exc c fs e S) = P (.exc c fs e S) := rfl
@[simp ↓] theorem tyK_nx : tyK cn i fsu P (.nx e S) = P (.nx e S) := rfl
@[simp ↓] theorem tyK_rt : tyK cn i fsu P (.rt d S) = P (.rt d S) := rfl
@[simp ↓] theorem tyK_exc : tyK cn i fsu P (.exc c fs e S) = (match cn c with
    | some true => i < e.length ∧ Ws (fsu c fs (e.set i none) S) (erK i P)
    | some false => P (.exc c fs e S)
    | none => False) := rfl
@[simp ↓] theorem erK_nx : erK i P (.nx e S) = P (.nx (e.set i none) S) := rfl
@[simp ↓] theorem erK_rt : erK i P (.rt d S) = P (.rt d S) := rfl
@[simp ↓] theorem mtK_ok {x f : Str} {la : FA} : mtK x f n F la env QD (.ok d S) = (match insOf d S with
    | some (c', fs) => (c' = x ∧ fs.lookup f = none) ∧ We (la env S) (bnK (fun ds => if ds.length = n then F (d :: ds) else stuck) QD)
    | none => False) := rfl
@[simp ↓] theorem mrK_ok {kk : List Dv → List Dv → Mm Dv} {la : FA} : mrK kk la env QD (.ok d S) = (isLst d S = true ∧ We (la env S) (bnK (fun ds S => match listOf d S with
    | some xs => kk xs ds S
    | none => none) QD)) := rfl
@[simp ↓] theorem m1K_ok {kk : Nat → List Dv → Mm Dv} {la : FA} : m1K kk la env QD (.ok d S) = (match isL d S with
    | some n => We (la env S) (bnK (kk n) QD)
    | none => False) := rfl
@[simp ↓] theorem m0K_ok {kk : Nat → Mm Dv} : m0K kk QD (.ok d S) = (match isL d S with
    | some n => We (kk n S) QD
    | none => False) := rfl
@[simp ↓] theorem chK_ok {o o' : DOp} {fb fc : FE} : chK o o' fb fc env QD (.ok d S) = We (fb env S) (ch2K o o' fc env d QD) := rfl
@[simp ↓] theorem ch2K_ok {o o' : DOp} {fc : FE} {x : Dv} : ch2K o o' fc env x QD (.ok d S) = We (o x d S) (ivK (bnd (fc env) fun u => o' d u) (ret (.bl false)) QD) := rfl
@[simp ↓] theorem otK_ok {fb : FE} : otK fb env QD (.ok d S) = We (tru d S) (ifK (ret d) (fb env) QD) := rfl
@[simp ↓] theorem atK_ok {fb : FE} : atK fb env QD (.ok d S) = We (tru d S) (ifK (fb env) (ret d) QD) := rfl
@[simp ↓] theorem mkK_ok : mkK F c n dds QD (.ok ds S) = (ds.length = n ∧ We (gcR S (mkR F c (fun o => o :: (ds ++ dds)) S)) QD) := rfl
@[simp ↓] theorem lcK_ok : lcK m own b ft fe env QD (.ok ds S) = We (compM b ft fe (wipeD env own) ds [] S) (bnK (newL m) QD) := rfl
@[simp ↓] theorem lcK_exc : lcK m own b ft fe env QD (.exc c fs S) = QD (.exc c fs S) := rfl
@[simp ↓] theorem cmK_ok : cmK b ft fe env0 env1 r acc QL (.ok t S) = Br t (We (fe env1 S) (cmK2 b ft fe env0 r acc QL)) (We (compM b ft fe env0 r acc S) QL) := rfl
@[simp ↓] theorem cmK2_ok : cmK2 b ft fe env0 r acc QL (.ok d S) = (acc.length ≤ big ∧ We (compM b ft fe env0 r (acc ++ [d]) S) QL) := rfl
end
/-! ### the parts -/
section
variable {α β : Type} {m : Mm α} {k : α → Mm β} {Q : Rs β → Prop} {QD : Rs Dv → Prop} {QL : Rs (List Dv) → Prop} {QB : Rs Bool → Prop} {QO : Rs (Option Int) → Prop} {P : Rf → Prop} {S : Store} {env env0 : DEnv} {fa fb fc fo fi fe : FE} {ta tb tc : FT} {la lb : FA} {oa ob : FO} {ia : FI} {o o' : DOp} {cl : DCl} {u : Dv → Mm Dv} {x f : Str} {n i : Nat} {F : DFn} {mm : Bool} {own : List Nat} {b : Bd} {s1 s2 : FS} {dds r acc : List Dv} {d : Dv}
theorem We_bnd : We (bnd m k S) Q = We (m S) (bnK k Q) := by
  unfold bnd
  cases h : m S with
  | none => simp [We]
  | some r => cases r <;> simp
theorem Ws_bnd {f : DEnv → Mm α} {k : α → FS} : Ws (sBnd f k env S) P = We (f env S) (sbK k env P) := by
  unfold sBnd
  cases h : f env S with
  | none => simp [Ws, We]
  | some r => cases r <;> simp
@[simp ↓] theorem We_bnd' : We (bnd m k S) Q = We (m S) (bnK k Q) := We_bnd
@[simp ↓] theorem Ws_bnd' {f : DEnv → Mm α} {k : α → FS} : Ws (sBnd f k env S) P = We (f env S) (sbK k env P) := Ws_bnd
theorem We_ite {c : Bool} {m1 m2 : Mm β} : We ((if c = true then m1 else m2) S) Q = Br c (We (m1 S) Q) (We (m2 S) Q) := by cases c <;> simp
@[simp ↓] theorem w_fOp : We (fOp o fa fb env S) QD = We (fa env S) (bnK (fun x => bnd (fb env) fun y => o x y) QD) := We_bnd
@[simp ↓] theorem w_fUn : We (fUn u fa env S) QD = We (fa env S) (bnK u QD) := We_bnd
@[simp ↓] theorem w_fTest : We (fTest fa env S) QB = We (fa env S) (bnK (fun x => ofO (asB x)) QB) := We_bnd
@[simp ↓] theorem w_fTru : We (fTru fa env S) QB = We (fa env S) (bnK tru QB) := We_bnd
theorem bnK_if {c1 c2 : Mm β} : bnK (fun c : Bool => if c = true then c1 else c2) Q = ifK c1 c2 Q := by
  funext x
  cases x with
  | ok c S => show We ((if c = true then c1 else c2) S) Q = _; rw [We_ite]; rfl
  | exc => rfl
@[simp ↓] theorem w_fAnd : We (fAnd ta tb env S) QB = We (ta env S) (ifK (tb env) (ret false) QB) := by unfold fAnd; rw [We_bnd, bnK_if]
@[simp ↓] theorem w_fOr : We (fOr ta tb env S) QB = We (ta env S) (ifK (ret true) (tb env) QB) := by unfold fOr; rw [We_bnd, bnK_if]
@[simp ↓] theorem w_fNot : We (fNot ta env S) QB = We (ta env S) (bnK (fun c => ret (!c)) QB) := We_bnd
@[simp ↓] theorem w_fIfE : We (fIfE ta fa fb env S) QD = We (ta env S) (ifK (fa env) (fb env) QD) := by unfold fIfE; rw [We_bnd, bnK_if]
theorem bnK_iv {c1 c2 : Mm Dv} : bnK (fun x => bnd (ofO (asB x)) fun c => if c = true then c1 else c2) QD = ivK c1 c2 QD := by
  funext x
  cases x with
  | ok d S => show We (bnd _ _ S) QD = _; rw [We_bnd, bnK_if]; rfl
  | exc => rfl
@[simp ↓] theorem w_fAndV : We (fAndV fa fb env S) QD = We (fa env S) (ivK (fb env) (ret (.bl false)) QD) := by unfold fAndV; rw [We_bnd, bnK_iv]
@[simp ↓] theorem w_fOrV : We (fOrV fa fb env S) QD = We (fa env S) (ivK (ret (.bl true)) (fb env) QD) := by unfold fOrV; rw [We_bnd, bnK_iv]
@[simp ↓] theorem w_fNotV : We (fNotV fa env S) QD = We (fa env S) (bnK (fun x => bnd (ofO (asB x)) fun c => ret (.bl (!c))) QD) := We_bnd
@[simp ↓] theorem w_fCons : We (fCons fa la env S) QL = We (fa env S) (bnK (fun x => bnd (la env) fun xs => ret (x :: xs)) QL) := We_bnd
@[simp ↓] theorem w_fCall : We (fCall cl la env S) QD = We (la env S) (bnK cl QD) := We_bnd
@[simp ↓] theorem w_fTup : We (fTup la env S) QD = We (la env S) (bnK (fun xs => lim xs.length (ret (.tup xs))) QD) := We_bnd
@[simp ↓] theorem w_fLst : We (fLst mm la env S) QD = We (la env S) (bnK (fun xs => lim xs.length (newL mm xs)) QD) := We_bnd
@[simp ↓] theorem w_fSo : We (fSo fa env S) QO = We (fa env S) (bnK (fun x => bnd (ofO (asI x)) fun i => ret (some i)) QO) := We_bnd
@[simp ↓] theorem w_fSl : We (fSl mm fa oa ob env S) QD = We (fa env S) (bnK (fun x => bnd (oa env) fun lo => bnd (ob env) fun hi => oSl mm x lo hi) QD) := We_bnd
@[simp ↓] theorem w_fIt : We (fIt fa env S) QL = We (fa env S) (bnK (fun x => ofO (frozen x)) QL) := We_bnd
@[simp ↓] theorem w_fRng1 : We (fRng1 la env S) QL = We (la env S) (bnK rng1 QL) := We_bnd
@[simp ↓] theorem w_fRng2 : We (fRng2 la env S) QL = We (la env S) (bnK rng2 QL) := We_bnd
@[simp ↓] theorem w_fEnum : We (fEnum la env S) QL = We (la env S) (bnK (fun ds => match ds with
  | [d] => bnd (ofO (frozen d)) fun xs => ret (numbered xs)
  | _ => stuck) QL) := We_bnd
@[simp ↓] theorem w_fZip : We (fZip la env S) QL = We (la env S) (bnK (fun ds => match ds with
  | [.tup xs, .tup ys] => ret (pairs xs ys)
  | [.lst xs, .lst ys] => ret (pairs xs ys)
  | _ => stuck) QL) := We_bnd
@[simp ↓] theorem w_fRev : We (fRev fa env S) QL = We (fa env S) (bnK (fun x => bnd (ofO (frozen x)) fun xs => ret xs.reverse) QL) := We_bnd
@[simp ↓] theorem w_fLc : We (fLc mm ia own b ta fe env S) QD = We (ia env S) (lcK mm own b ta fe env QD) := by
  unfold fLc
  rw [We_bnd]
  refine We_cong fun x => ?_
  cases x with
  | ok d S => show We (bnd _ _ S) QD = _; rw [We_bnd]; rfl
  | exc => rfl
@[simp ↓] theorem w_fFld : We (fFld x f fa env S) QD = We (fa env S) (bnK (fun d S => match insOf d S with
  | some (c', fs) => if c' = x then (match fs.lookup f with
    | some d => some (.ok d S)
    | none => none) else none
  | none => none) QD) := We_bnd
@[simp ↓] theorem w_fMt : We (fMt x f n F fa la env S) QD = We (fa env S) (mtK x f n F la env QD) := by
  unfold fMt
  rw [We_bnd]
  refine We_cong fun x => ?_
  cases x with
  | ok d S =>
    show We _ QD = _
    rw [mtK_ok]
    cases h : insOf d S with
    | none => simp only [h]; simp [We]
    | some p =>
      obtain ⟨c', fs⟩ := p
      simp only [h]
      by_cases z : c' = x ∧ fs.lookup f = none
      · rw [if_pos z, We_bnd]; simp only [z, true_and, and_self]
      · rw [if_neg z]; simp only [z, false_and]; simp [We]
  | exc => rfl
@[simp ↓] theorem w_fProp : We (fProp x F fa env S) QD = We (fa env S) (bnK (fun o S => match insOf o S with
  | some (c', _) => if c' = x then (match F [o] S with
    | some (.ok d S') => some (.ok d S')
    | _ => none) else none
  | none => none) QD) := We_bnd
def mgK (S : Store) (F : DFn) (x : Str) (n : Nat) (dds : List Dv) (Q : Rs Dv → Prop) : Rs (List Dv) → Prop
  | .ok ds S1 => We (gcR S (if ds.length = n then mkR F x (fun o => o :: (ds ++ dds)) S1 else none)) Q
  | .exc c fs S1 => We (gcR S (some (.exc c fs S1))) Q
@[simp ↓] theorem mgK_ok {S0 S1 : Store} {ds : List Dv} : mgK S0 F x n dds QD (.ok ds S1) = We (gcR S0 (if ds.length = n then mkR F x (fun o => o :: (ds ++ dds)) S1 else none)) QD := rfl
@[simp ↓] theorem w_fGcMk : We (fGc (fMk x n dds F la) env S) QD = We (la env S) (mgK S F x n dds QD) := by
  unfold fGc fMk
  simp only [bnd]
  cases h : la env S with
  | none => simp [We, gcR]
  | some r => rw [We_some]; cases r <;> rfl
@[simp ↓] theorem w_fIsi {t : String} : We (fIsi t fa env S) QD = We (fa env S) (bnK (fun x S => match tyOf x S with
  | some t' => match isTy t' t with
    | some r => some (.ok (.bl r) S)
    | none => none
  | none => none) QD) := We_bnd
@[simp ↓] theorem w_fChain : We (fChain o o' fa fb fc env S) QD = We (fa env S) (chK o o' fb fc env QD) := by
  unfold fChain
  rw [We_bnd]
  refine We_cong fun x => ?_
  cases x with
  | ok d S =>
    show We (bnd _ _ S) QD = _
    rw [We_bnd, chK_ok]
    refine We_cong fun y => ?_
    cases y with
    | ok e S => show We (bnd _ _ S) QD = _; rw [We_bnd, bnK_iv]; rfl
    | exc => rfl
  | exc => rfl
@[simp ↓] theorem w_fMR {kk : List Dv → List Dv → Mm Dv} : We (fMR kk fa la env S) QD = We (fa env S) (mrK kk la env QD) := by
  unfold fMR
  rw [We_bnd]
  refine We_cong fun x => ?_
  cases x with
  | ok d S =>
    show We _ QD = _
    rw [mrK_ok]
    by_cases z : isLst d S = true
    · simp only [if_pos z]; rw [We_bnd]; (simp only [z, true_and]; try rfl)
    · simp only [if_neg z]; simp [We, z]
  | exc => rfl
@[simp ↓] theorem w_fMeth1 {kk : Nat → List Dv → Mm Dv} : We (fMeth1 kk fa la env S) QD = We (fa env S) (m1K kk la env QD) := by
  unfold fMeth1
  rw [We_bnd]
  refine We_cong fun x => ?_
  cases x with
  | ok d S =>
    show We _ QD = _
    rw [m1K_ok]
    cases h : isL d S with
    | none => simp only [h]; simp [We]
    | some p => simp only [h]; rw [We_bnd]
  | exc => rfl
@[simp ↓] theorem w_fMeth0 {kk : Nat → Mm Dv} : We (fMeth0 kk fa env S) QD = We (fa env S) (m0K kk QD) := by
  unfold fMeth0
  rw [We_bnd]
  refine We_cong fun x => ?_
  cases x with
  | ok d S =>
    show We _ QD = _
    rw [m0K_ok]
    cases h : isL d S with
    | none => simp only [h]; simp [We]
    | some p => simp only [h]
  | exc => rfl
@[simp ↓] theorem w_fRevL : We (fRevL mm fa env S) QD = We (fa env S) (bnK (fun x S => match listOf x S with
  | some xs => newL mm xs.reverse S
  | none => none) QD) := We_bnd
@[simp ↓] theorem w_fRep : We (fRep mm fa fb env S) QD = We (fa env S) (bnK (fun x => bnd (fb env) fun y => bnd (ofO (asI y)) fun n => if n.natAbs ≤ 100000 then newL mm (List.replicate n.toNat x) else stuck) QD) := We_bnd
@[simp ↓] theorem w_fOrT : We (fOrT fa fb env S) QD = We (fa env S) (otK fb env QD) := by
  unfold fOrT
  rw [We_bnd]
  refine We_cong fun x => ?_
  cases x with
  | ok d S => show We (bnd _ _ S) QD = _; rw [We_bnd, bnK_if]; rfl
  | exc => rfl
@[simp ↓] theorem w_fAndT : We (fAndT fa fb env S) QD = We (fa env S) (atK fb env QD) := by
  unfold fAndT
  rw [We_bnd]
  refine We_cong fun x => ?_
  cases x with
  | ok d S => show We (bnd _ _ S) QD = _; rw [We_bnd, bnK_if]; rfl
  | exc => rfl
@[simp ↓] theorem w_fCm : We (fCm x n dds F la env S) QD = We (la env S) (bnK (fun ds => if ds.length = n then F (.cls x :: ds ++ dds) else stuck) QD) := We_bnd
@[simp ↓] theorem w_fSm : We (fSm n dds F la env S) QD = We (la env S) (bnK (fun ds => if ds.length = n then F (ds ++ dds) else stuck) QD) := We_bnd
/-! statements -/
@[simp ↓] theorem w_sSeq : Ws (sSeq s1 s2 env S) P = Ws (s1 env S) (sqK s2 P) := by
  unfold sSeq
  cases h : s1 env S with
  | none => simp [Ws]
  | some r => cases r <;> simp
@[simp ↓] theorem w_sIf : Ws (sIf ta s1 s2 env S) P = We (ta env S) (sifK s1 s2 env P) := by
  unfold sIf
  rw [Ws_bnd]
  refine We_cong fun x => ?_
  cases x with
  | ok c S => cases c <;> simp
  | exc => rfl
@[simp ↓] theorem w_sAsg : Ws (sAsg fa b env S) P = We (fa env S) (asK b env P) := by
  unfold sAsg
  rw [Ws_bnd]
  refine We_cong fun x => ?_
  cases x with
  | ok d S =>
    show Ws (match b d env with | some env' => some (.nx env' S) | none => none) P = _
    cases h : b d env <;> simp [h, Ws, Wb]
  | exc => rfl
@[simp ↓] theorem w_sRet : Ws (sRet fa env S) P = We (fa env S) (rtK env P) := by
  unfold sRet
  rw [Ws_bnd]
  refine We_cong fun x => ?_
  cases x with
  | ok d S => show Ws (some _) P = _; rw [Ws_some]; rfl
  | exc => rfl
@[simp ↓] theorem w_sExpr : Ws (sExpr fa env S) P = We (fa env S) (xpK env P) := by
  unfold sExpr
  rw [Ws_bnd]
  refine We_cong fun x => ?_
  cases x with
  | ok d S => show Ws (some _) P = _; rw [Ws_some]; rfl
  | exc => rfl
@[simp ↓] theorem w_sFor : Ws (sFor ia b s1 env S) P = We (ia env S) (sbK (fun items => forM' b s1 items) env P) := Ws_bnd
@[simp ↓] theorem w_for_nil : Ws (forM' b s1 [] env S) P = P (.nx env S) := by unfold forM'; rw [Ws_some]
@[simp ↓] theorem w_for_cons : Ws (forM' b s1 (d :: r) env S) P = Wb (b d env) (fun e => Ws (s1 e S) (lpK b s1 r P)) := by
  conv => lhs; unfold forM'
  cases h : b d env with
  | none => simp [Ws, Wb]
  | some e =>
    simp only [Wb_some]
    cases h2 : s1 e S with
    | none => simp [Ws]
    | some x => cases x <;> simp
@[simp ↓] theorem w_sRaise {name : Str} {flds : List Str} : Ws (sRaise name flds la env S) P = We (la env S) (sbK (fun ds env S => if ds.length = flds.length then some (.exc name (flds.zip ds) env S) else none) env P) := Ws_bnd
@[simp ↓] theorem w_sSetIx : Ws (sSetIx fo fi fe env S) P = We (fe env S) (sbK (fun v => sBnd fo fun o => sBnd fi fun i => fun env S => match setIx o i v S with
  | some S' => some (.nx env S')
  | none => none) env P) := Ws_bnd
@[simp ↓] theorem w_sSetFld : Ws (sSetFld x f fo fe env S) P = We (fe env S) (sbK (fun v => sBnd fo fun o => fun env S => match setFld x f o v S with
  | some S' => some (.nx env S')
  | none => none) env P) := Ws_bnd
@[simp ↓] theorem w_sTryAs {cn : Str → Option Bool} {fsu : Str → List (Str × Dv) → FS} : Ws (sTryAs s1 cn i fsu env S) P = Ws (s1 env S) (tyK cn i fsu P) := by
  unfold sTryAs
  cases h : s1 env S with
  | none => simp [Ws]
  | some x =>
    rw [Ws_some]
    cases x with
    | exc c f e s =>
      rw [tyK_exc]
      simp only
      cases h1 : cn c with
      | none => simp [Ws]
      | some t =>
        cases t with
        | false => simp
        | true =>
          simp only
          by_cases z : i < e.length
          · rw [if_pos z]
            simp only [z, true_and]
            cases h2 : fsu c f (e.set i none) s with
            | none => simp [Ws]
            | some y => rw [Ws_some]; cases y <;> simp [erK, Ws]
          · rw [if_neg z]
            simp [Ws, z]
    | _ => simp [tyK]
@[simp ↓] theorem w_sCl {ks : List Nat} : Ws (sCl ks s1 env S) P = Ws (s1 env S) (clK ks P) := by
  unfold sCl
  cases h : s1 env S with
  | none => simp [Ws, clS]
  | some x => cases x <;> simp [clS]
@[simp ↓] theorem w_sGc {ks : List Nat} : Ws (sGc ks s1 env S) P = Ws (s1 env S) (gsK ks S P) := by
  unfold sGc
  cases h : s1 env S with
  | none => simp [Ws, gcS]
  | some x => rw [Ws_some]; rfl
@[simp ↓] theorem w_sPre {ks : List Nat} : Ws (sPre ks s1 env S) P = Ws (s1 (fgt ks env) S) P := rfl
@[simp ↓] theorem w_comp_nil : We (compM b ta fe env0 [] acc S) QL = QL (.ok acc S) := by unfold compM; exact We_some
@[simp ↓] theorem w_comp_cons : We (compM b ta fe env0 (d :: r) acc S) QL = Wb (b d env0) (fun e => We (ta e S) (cmK b ta fe env0 e r acc QL)) := by
  conv => lhs; unfold compM
  cases h : b d env0 with
  | none => simp [We, Wb]
  | some e =>
    simp only [Wb_some]
    cases h2 : ta e S with
    | none => simp [We]
    | some x =>
      cases x with
      | exc => simp [We, cmK]
      | ok t S1 =>
        cases t with
        | false => simp
        | true =>
          simp only [We_some, cmK_ok, Br_true]
          cases h3 : fe e S1 with
          | none => simp [We]
          | some y =>
            cases y with
            | exc => simp [We, cmK2]
            | ok y S2 =>
              by_cases hl : acc.length ≤ big
              · simp [hl]
              · simp only [if_neg hl, We_some, cmK2_ok]
                simp [We, hl]
end
/-! ### loops and comprehensions as a whole -/
section
variable {α σ : Type} {b : Bd} {fb : FS} {P : Rf → Prop} {QL : Rs (List Dv) → Prop} {S : Store} {env env0 : DEnv} {ft : FT} {fe : FE}
def fwK (I : Nat → DEnv → Store → Prop) (i : Nat) (P : Rf → Prop) : Rf → Prop
  | .nx e s => Hi I i e s
  | .ct e s => Hi I i e s
  | .bk e s => P (.nx e s)
  | x => P x
@[simp ↓] theorem fwK_nx {I : Nat → DEnv → Store → Prop} {i : Nat} {e : DEnv} {s : Store} : fwK I i P (.nx e s) = Hi I i e s := rfl
@[simp ↓] theorem fwK_ct {I : Nat → DEnv → Store → Prop} {i : Nat} {e : DEnv} {s : Store} : fwK I i P (.ct e s) = Hi I i e s := rfl
@[simp ↓] theorem fwK_bk {I : Nat → DEnv → Store → Prop} {i : Nat} {e : DEnv} {s : Store} : fwK I i P (.bk e s) = P (.nx e s) := rfl
@[simp ↓] theorem fwK_rt {I : Nat → DEnv → Store → Prop} {i : Nat} {d : Dv} {s : Store} : fwK I i P (.rt d s) = P (.rt d s) := rfl
@[simp ↓] theorem fwK_exc {I : Nat → DEnv → Store → Prop} {i : Nat} {c : Str} {f : List (Str × Dv)} {e : DEnv} {s : Store} : fwK I i P (.exc c f e s) = P (.exc c f e s) := rfl
theorem w_for (I : Nat → DEnv → Store → Prop) {xs : List Dv} (h0 : I 0 env S) (hs : ∀ (i : Nat) (d : Dv) (env : DEnv) (S : Store), xs[i]? = some d → I i env S → Wb (b d env) (fun e => Ws (fb e S) (fwK I (i + 1) P))) (hQ : ∀ env S, I xs.length env S → P (.nx env S)) : Ws (forM' b fb xs env S) P := by
  induction xs generalizing I env S with
  | nil => rw [w_for_nil]; exact hQ env S h0
  | cons d r ih =>
    rw [w_for_cons]
    obtain ⟨e, h1, x, h2, h3⟩ := hs 0 d env S rfl h0
    refine ⟨e, h1, x, h2, ?_⟩
    have go : ∀ e s, I 1 e s → Ws (forM' b fb r e s) P := fun e s hI => ih (I := fun i => I (i + 1)) hI (fun i d env S hd hI => hs (i + 1) d env S hd hI) hQ
    cases x with
    | nx e s => exact go e s h3
    | ct e s => exact go e s h3
    | bk e s => exact h3
    | rt d s => exact h3
    | exc c f e s => exact h3
/-- .. by a function of what it keeps -/
theorem w_fold (enc : α → Dv) (E : σ → DEnv) (St : σ → Store) (step : σ → α → σ) (I : Nat → σ → Prop) (xs : List α) (s0 : σ) (he : env = E s0) (hS : S = St s0) (hI : I 0 s0)
    (hs : ∀ (j : Nat) (x : α) (s : σ), xs[j]? = some x → I j s → Wb (b (enc x) (E s)) (fun e => Ws (fb e (St s)) (fun r => r = .nx (E (step s x)) (St (step s x)))) ∧ I (j + 1) (step s x))
    (hQ : I xs.length (xs.foldl step s0) → P (.nx (E (xs.foldl step s0)) (St (xs.foldl step s0)))) : Ws (forM' b fb (xs.map enc) env S) P := by
  subst he hS
  have := forM_fold (b := b) (fb := fb) enc E St step I xs 0 s0 hI fun j x s hj hI => by
    obtain ⟨⟨e, h1, h2⟩, h3⟩ := hs j x s hj (by simpa using hI)
    exact ⟨e, h1, Ws_eq h2, by simpa using h3⟩
  exact ⟨_, this.1, hQ (by simpa using this.2)⟩
/-- a comprehension whose parts change nothing -/
theorem w_lc (enc : α → Dv) (p : α → Bool) (g : α → Dv) (xs : List α) (hl : xs.length ≤ 1000000)
    (h : ∀ x ∈ xs, Wb (b (enc x) env0) (fun e => We (ft e S) (fun r => r = .ok (p x) S) ∧ (p x = true → We (fe e S) (fun r => r = .ok (g x) S))))
    (hQ : QL (.ok ((xs.filter p).map g) S)) : We (compM b ft fe env0 (xs.map enc) [] S) QL :=
  ⟨_, compM_filter p g hl fun x hx => by
    obtain ⟨e, h1, h2, h3⟩ := h x hx
    exact ⟨e, h1, We_eq h2, fun hp => We_eq (h3 hp)⟩, hQ⟩
theorem w_lcm (enc : α → Dv) (g : α → Dv) (xs : List α) (hl : xs.length ≤ 1000000)
    (h : ∀ x ∈ xs, Wb (b (enc x) env0) (fun e => We (fe e S) (fun r => r = .ok (g x) S)))
    (hQ : QL (.ok (xs.map g) S)) : We (compM b fYes fe env0 (xs.map enc) [] S) QL :=
  ⟨_, compM_map' g hl fun x hx => by
    obtain ⟨e, h1, h2⟩ := h x hx
    exact ⟨e, h1, We_eq h2⟩, hQ⟩
/-- .. whose parts make draws: what is kept, what each one is -/
theorem w_lcx (enc : α → Dv) (R : α → Dv → Prop) (I : Nat → Store → Prop) (xs : List α) (hl : xs.length ≤ 1000000) (h0 : I 0 S)
    (h : ∀ (i : Nat) (x : α) (S : Store), xs[i]? = some x → I i S → Wb (b (enc x) env0) (fun e => We (fe e S) (Hd fun r => ∃ d S', r = .ok d S' ∧ I (i + 1) S' ∧ R x d)))
    (hQ : ∀ ys S', I xs.length S' → ys.length = xs.length → (∀ (i : Nat) (x : α) (y : Dv), xs[i]? = some x → ys[i]? = some y → R x y) → QL (.ok ys S')) : We (compM b fYes fe env0 (xs.map enc) [] S) QL := by
  have key : ∀ (xs : List α) (acc : List Dv) (I : Nat → Store → Prop) (S : Store), acc.length + xs.length ≤ 1000000 → I 0 S →
      (∀ (i : Nat) (x : α) (S : Store), xs[i]? = some x → I i S → Wb (b (enc x) env0) (fun e => We (fe e S) (Hd fun r => ∃ d S', r = .ok d S' ∧ I (i + 1) S' ∧ R x d))) →
      ∃ ys S', compM b fYes fe env0 (xs.map enc) acc S = some (.ok (acc ++ ys) S') ∧ I xs.length S' ∧ ys.length = xs.length ∧ ∀ (i : Nat) (x : α) (y : Dv), xs[i]? = some x → ys[i]? = some y → R x y := by
    intro xs
    induction xs with
    | nil => intro acc I S _ h0 _; exact ⟨[], S, by simp [compM], h0, rfl, by simp⟩
    | cons x xs ih =>
      intro acc I S hl h0 h
      obtain ⟨e, h1, r, h2, d, S1, rfl, h3, h4⟩ := h 0 x S rfl h0
      simp only [List.length_cons] at hl
      obtain ⟨ys, S', e1, e2, e3, e4⟩ := ih (acc ++ [d]) (fun i => I (i + 1)) S1 (by simp; omega) h3 fun i x S hx hI => h (i + 1) x S hx hI
      refine ⟨d :: ys, S', ?_, e2, by simp [e3], fun i => ?_⟩
      · show compM b fYes fe env0 (enc x :: xs.map enc) acc S = _
        unfold compM
        simp only [h1, fYes, FC.ret, h2]
        rw [if_pos (show acc.length ≤ big by have : big = 1000000 := rfl; omega), e1, List.append_assoc]
        rfl
      · cases i with
        | zero => intro x' y' hx hy; simp at hx hy; subst hx; subst hy; exact h4
        | succ i => simpa using e4 i
  obtain ⟨ys, S', e1, e2, e3, e4⟩ := key xs [] I S (by simpa using hl) h0 h
  exact ⟨_, e1, by simpa using hQ ys S' e2 e3 e4⟩
end
/-! ### a def's answer -/
section
variable {n : Nat} {fs : FS} {ds : List Dv} {S S' G : Store} {d : Dv} {Q : Rs Dv → Prop} {env : DEnv} {c : Str} {fl : List (Str × Dv)}
def bdK (Q : Rs Dv → Prop) : Rf → Prop
  | .nx _ s => Q (.ok .non s)
  | .rt d s => Q (.ok d s)
  | .exc c fs _ s => Q (.exc c fs s)
  | _ => False
@[simp ↓] theorem bdK_nx : bdK Q (.nx env S) = Q (.ok .non S) := rfl
@[simp ↓] theorem bdK_rt : bdK Q (.rt d S) = Q (.ok d S) := rfl
@[simp ↓] theorem bdK_exc : bdK Q (.exc c fl env S) = Q (.exc c fl S) := rfl
theorem w_body : We (bodyF n fs ds S) Q = Ws (fs (ds.map some ++ List.replicate (n - ds.length) none) S) (bdK Q) := by
  unfold bodyF
  cases h : fs (ds.map some ++ List.replicate (n - ds.length) none) S with
  | none => simp [We, Ws]
  | some r => cases r <;> simp [We, bdK]
/-- a def's answer that names nothing new -/
theorem w_def (h : Ws (fs (ds.map some ++ List.replicate (n - ds.length) none) S) (bdK fun r => ∃ G, r = .ok d (S ++ G))) (hd : okO S.length d = true) : gcD (bodyF n fs) ds S = some (.ok d S) := by
  rw [← w_body] at h
  obtain ⟨_, h, G, rfl⟩ := h
  exact gcD_of h hd
theorem w_defP (h : Ws (fs (ds.map some ++ List.replicate (n - ds.length) none) S) (bdK fun r => r = .ok d S)) (hd : okO S.length d = true) : gcD (bodyF n fs) ds S = some (.ok d S) := w_def (Ws_imp h fun x h => by
  cases x <;> first | exact h.elim | exact ⟨[], by rw [List.append_nil]; exact h⟩) hd
theorem w_defL {xs : List Dv} (h : Ws (fs (ds.map some ++ List.replicate (n - ds.length) none) S) (bdK fun r => ∃ G, r = .ok (.obj S.length) (S ++ .lst xs :: G))) (hd : okOs S.length xs = true) : gcD (bodyF n fs) ds S = some (.ok (.lst xs) S) := by
  rw [← w_body] at h
  obtain ⟨_, h, G, rfl⟩ := h
  exact gcD_list h hd
theorem w_defX (h : Ws (fs (ds.map some ++ List.replicate (n - ds.length) none) S) (bdK fun r => r = .exc c fl S)) (hd : okOs S.length (fl.map Prod.snd) = true) : gcD (bodyF n fs) ds S = some (.exc c fl S) := by
  rw [← w_body] at h
  obtain ⟨_, h, rfl⟩ := h
  exact gcD_exc h hd
end
/-! ### a store with a pool, and what was made beside it -/
def stP (S0 : Store) (j : Nat) (d : Dv) (L : List Dv) : Store := S0.set j d ++ L
section
variable {S0 : Store} {j i : Nat} {d d' x : Dv} {L G : List Dv}
@[simp high] theorem stP_len : (stP S0 j d L).length = S0.length + L.length := by simp [stP]
@[simp high] theorem stP_app : stP S0 j d L ++ G = stP S0 j d (L ++ G) := by simp [stP]
@[simp high] theorem stP_get : (stP S0 j d L)[S0.length + i]? = L[i]? := by
  unfold stP
  rw [List.getElem?_append_right (by simp)]
  simp
@[simp high] theorem stP_get0 : (stP S0 j d L)[S0.length]? = L[0]? := stP_get (i := 0)
@[simp high] theorem stP_set : (stP S0 j d L).set (S0.length + i) x = stP S0 j d (L.set i x) := by
  unfold stP
  rw [List.set_append_right _ _ (by simp)]
  simp
@[simp high] theorem stP_set0 : (stP S0 j d L).set S0.length x = stP S0 j d (L.set 0 x) := stP_set (i := 0)
theorem stP_old (h : i < S0.length) (hn : j ≠ i) : (stP S0 j d L)[i]? = S0[i]? := by
  unfold stP
  rw [List.getElem?_append_left (by simpa using h), List.getElem?_set_ne hn]
theorem stP_self (h : j < S0.length) : (stP S0 j d L)[j]? = some d := by
  unfold stP
  rw [List.getElem?_append_left (by simpa using h), List.getElem?_set_self h]
theorem stP_setJ (h : j < S0.length) : (stP S0 j d L).set j d' = stP S0 j d' L := by
  unfold stP
  rw [List.set_append_left _ _ (by simpa using h)]
  simp
@[simp high] theorem app_get : (L ++ G)[L.length + i]? = G[i]? := by rw [List.getElem?_append_right (by omega)]; simp
@[simp high] theorem app_get0 : (L ++ G)[L.length]? = G[0]? := app_get (i := 0)
@[simp high] theorem app_set : (L ++ G).set (L.length + i) x = L ++ G.set i x := by rw [List.set_append_right _ _ (by omega)]; simp
@[simp high] theorem app_set0 : (L ++ G).set L.length x = L ++ G.set 0 x := app_set (i := 0)
end
theorem rngN (n : Nat) (h : n ≤ 1000000) (S : Store) : rng1 [.int n] S = some (.ok ((upTo 0 n).map .int) S) := rng1_len h
@[simp] theorem rng_2 {S : Store} : rng1 [.int 2] S = some (.ok [.int 0, .int 1] S) := by rw [rng1_e (by decide)]; rfl
@[simp] theorem rng_3 {S : Store} : rng1 [.int 3] S = some (.ok [.int 0, .int 1, .int 2] S) := by rw [rng1_e (by decide)]; rfl
theorem atI0 {α : Type} {a : α} {r : List α} : atI (a :: r) 0 = some a := by
  unfold atI ixN
  rw [if_pos (by decide), if_pos (by simp)]
  rfl
@[simp] theorem at3_0 {a b c : Dv} : atI [a, b, c] 0 = some a := rfl
@[simp] theorem at3_1 {a b c : Dv} : atI [a, b, c] 1 = some b := rfl
@[simp] theorem at3_2 {a b c : Dv} : atI [a, b, c] 2 = some c := rfl
@[simp] theorem at2_0 {a b : Dv} : atI [a, b] 0 = some a := rfl
@[simp] theorem at2_1 {a b : Dv} : atI [a, b] 1 = some b := rfl
@[simp] theorem at1_0 {a : Dv} : atI [a] 0 = some a := rfl
@[simp] theorem at4_0 {a b c d : Dv} : atI [a, b, c, d] 0 = some a := rfl
@[simp] theorem at4_1 {a b c d : Dv} : atI [a, b, c, d] 1 = some b := rfl
@[simp] theorem at4_2 {a b c d : Dv} : atI [a, b, c, d] 2 = some c := rfl
@[simp] theorem at4_3 {a b c d : Dv} : atI [a, b, c, d] 3 = some d := rfl
@[simp] theorem asInts_1 {a : Int} : asInts [.int a] = some [a] := rfl
@[simp] theorem asInts_2 {a b : Int} : asInts [.int a, .int b] = some [a, b] := rfl
@[simp] theorem asInts_3 {a b c : Int} : asInts [.int a, .int b, .int c] = some [a, b, c] := rfl
@[simp] theorem asInts_0 : asInts [] = some [] := rfl
@[simp] theorem ix3_0 : ixN 3 0 = some 0 := rfl
@[simp] theorem ix3_1 : ixN 3 1 = some 1 := rfl
@[simp] theorem ix3_2 : ixN 3 2 = some 2 := rfl
end FC

set_option Elab.async false
set_option linter.all false
set_option maxRecDepth 100000
set_option maxHeartbeats 4000000
namespace FCL
open PySem PySem.Spec L2 FC
/-! ### the pool, its draws -/
theorem mem_upTo {n : Nat} {i : Int} (h : i ∈ upTo 0 n) : ∃ k : Nat, k < n ∧ i = k := by
  rw [upTo_range] at h
  simp at h
  obtain ⟨k, hk, e⟩ := h
  exact ⟨k, hk, e.symm⟩
theorem atI_nat {α : Type} (xs : List α) (k : Nat) : atI xs (k : Int) = xs[k]? := by
  unfold atI ixN
  by_cases h : k < xs.length
  · rw [if_pos (by omega), if_pos (by omega)]; simp
  · rw [if_pos (by omega), if_neg (by omega)]; simp; omega
/-- a pool from which at most k draws were made -/
def Pool (k : Nat) (d : Dv) : Prop := ∃ a b c : Int, 0 ≤ a ∧ 0 ≤ b ∧ b ≤ k ∧ 0 ≤ c ∧ c < 999999937 ∧ d = .lst [.int a, .int b, .int c]
theorem Pool.mono {k m : Nat} {d : Dv} (h : Pool k d) (hk : k ≤ m) : Pool m d := by
  obtain ⟨a, b, c, h1, h2, h3, h4⟩ := h
  exact ⟨a, b, c, h1, h2, by omega, h4⟩
/-- the store S0 with a pool at j -/
def PlS (j k : Nat) (S0 S : Store) : Prop := ∃ d, Pool k d ∧ j < S0.length ∧ S = S0.set j d
theorem PlS.mono {j k m : Nat} {S0 S : Store} (h : PlS j k S0 S) (hk : k ≤ m) : PlS j m S0 S := by
  obtain ⟨d, h1, h2⟩ := h
  exact ⟨d, h1.mono hk, h2⟩
theorem PlS.len {j k : Nat} {S0 S : Store} (h : PlS j k S0 S) : S.length = S0.length := by
  obtain ⟨d, h1, h2, rfl⟩ := h
  simp
theorem PlS.st {j k : Nat} {S0 S : Store} (h : PlS j k S0 S) (S1 : Store) {k1 : Nat} (h1 : PlS j k1 S0 S1) : StOk S1 S := by
  obtain ⟨d, ⟨a, b, c, _, _, _, _, _, rfl⟩, h2, rfl⟩ := h
  obtain ⟨d1, _, _, rfl⟩ := h1
  refine ⟨by simp, fun i x hi hx => ?_⟩
  by_cases z : j = i
  · subst z
    rw [List.getElem?_set_self (by simpa using h2)] at hx
    cases hx
    exact .inr rfl
  · rw [List.getElem?_set_ne z] at hx
    exact .inl (by rw [List.getElem?_set_ne z]; exact hx)
theorem g_pool (ns : List Int) (k : Nat) (S : Store) (hn : ns.length ≤ 63) : ∃ d, Pool 0 d ∧ M__law_pool [.lst (ns.map .int), .int k] S = some (.ok (.obj S.length) (S ++ [d])) := by
  have e : atI (ns.map Dv.int) (k : Int) = (ns[k]?).map Dv.int := by rw [atI_nat]; simp
  have hl : ns.length ≤ 1000000 := by omega
  obtain ⟨a, c, ha, hc, hc2, h⟩ : ∃ a c : Int, 0 ≤ a ∧ 0 ≤ c ∧ c < 999999937 ∧ bodyF 3 fsM__law_pool [.lst (ns.map .int), .int k] S = some (.ok (.obj S.length) (S ++ .lst [.int a, .int 0, .int c] :: [])) := by
    cases q : ns[k]? with
    | none =>
      have hk : ¬ ((k : Int) < ns.length) := by have := List.getElem?_eq_none_iff.1 q; omega
      exact ⟨0, 0, by decide, by decide, by decide, by simp [fsM__law_pool, newM, CO, hl, hk]⟩
    | some n =>
      have hk : ((k : Int) < ns.length) := by have := (List.getElem?_eq_some_iff.1 q).1; omega
      rw [q] at e
      by_cases h : (1000000000000000000 : Int) ≤ n.natAbs
      · refine ⟨n.natAbs - 1000000000000000000, n.natAbs % 999999937, by omega, by omega, by omega, ?_⟩
        simp [fsM__law_pool, newM, e, h, hl, hk]
      · refine ⟨0, n.natAbs % 999999937, by omega, by omega, by omega, ?_⟩
        simp [fsM__law_pool, newM, e, h, hl, hk]
  refine ⟨.lst [.int a, .int 0, .int c], ⟨a, 0, c, ha, by decide, by simp, hc, hc2, rfl⟩, ?_⟩
  show gcMR S (bodyF 3 fsM__law_pool _ S) = _
  rw [h]
  exact gcMR_lst rfl
theorem g_draw {j k : Nat} {S0 S : Store} (m : Int) (h : PlS j k S0 S) (hk : k ≤ 1000000) (hm : 0 < m) (hm2 : m < 2 ^ 100) : ∃ v S', F__law_draw [.obj j, .int m] S = some (.ok (.int v) S') ∧ 0 ≤ v ∧ v < m ∧ PlS j (k + 1) S0 S' := by
  have h0 := h
  obtain ⟨d, ⟨a, b, c, ha, hb, hbk, hc, hc2, rfl⟩, hj, rfl⟩ := h
  obtain ⟨v, S', hB, hv0, hv1, hP⟩ : ∃ v S', bodyF 6 fsF__law_draw [.obj j, .int m] (S0.set j (.lst [.int a, .int b, .int c])) = some (.ok (.int v) S') ∧ 0 ≤ v ∧ v < m ∧ PlS j (k + 1) S0 S' := by
    have e0 : atI [Dv.int a, Dv.int (b + 1), Dv.int c] 0 = some (.int a) := rfl
    have e1 : atI [Dv.int a, Dv.int (b + 1), Dv.int c] 1 = some (.int (b + 1)) := rfl
    have e2 : atI [Dv.int a, Dv.int (b + 1), Dv.int c] 2 = some (.int c) := rfl
    have f1 : atI [Dv.int a, Dv.int b, Dv.int c] 1 = some (.int b) := rfl
    have x0 : ixN 3 0 = some 0 := rfl
    have x1 : ixN 3 1 = some 1 := rfl
    by_cases z : 0 < a
    · refine ⟨a % m, S0.set j (.lst [.int (a / m), .int (b + 1), .int c]), ?_, Int.emod_nonneg _ (by omega), Int.emod_lt_of_pos _ hm, _, ⟨a / m, b + 1, c, Int.ediv_nonneg ha (by omega), by omega, by omega, hc, hc2, rfl⟩, hj, rfl⟩
      have hd : ∀ S, oDiv (.int a) (.int m) S = _ := fun S => oDiv_i hm (log2_lt (k := 100) (by omega) (by decide) (by decide))
      simp [fsF__law_draw, e0, e1, e2, f1, x0, x1, z, hm, hd, hj]
    · generalize hS : (S0.set j (Dv.lst [Dv.int a, Dv.int (b + 1), Dv.int c]) : Store) = S1
      have g0 : S1[j]? = some (Dv.lst [Dv.int a, Dv.int (b + 1), Dv.int c]) := by rw [← hS]; simp [hj]
      have m1 : oMul (.int c) (.int 7919) S1 = _ := oMul_b hc (by omega) (by decide) (by decide)
      have m2 : oMul (.int (b + 1)) (.int 104729) S1 = _ := oMul_b (by omega) (by omega) (by decide) (by decide)
      have m3 : oMul (.int (b + 1)) (.int 31) S1 = _ := oMul_b (by omega) (by omega) (by decide) (by decide)
      have m4 : oMul (.int (b + 1)) (.int (b + 1)) S1 = _ := oMul_b (by omega) (by omega) (by omega) (by omega)
      have d1 : ∀ i, oDiv (.int i) (.int 1000) S1 = _ := fun i => oDiv_b (by decide) (by decide)
      have d2 : ∀ i, oDiv (.int i) (.int 1009) S1 = _ := fun i => oDiv_b (by decide) (by decide)
      have d3 : ∀ i, oDiv (.int i) (.int 7) S1 = _ := fun i => oDiv_b (by decide) (by decide)
      generalize hx : (c * 7919 + (b + 1) * 104729 + 12345) % 1000003 = x
      have hx0 : 0 ≤ x ∧ x < 1000003 := by omega
      have m5 : oMul (.int x) (.int x) S1 = _ := oMul_b hx0.1 (by omega) hx0.1 (by omega)
      generalize hy : (x * x + (b + 1) * 31 + c / 1000 + 7) % 998244353 = y
      have hy0 : 0 ≤ y ∧ y < 998244353 := by rw [← hy]; exact ⟨Int.emod_nonneg _ (by decide), Int.emod_lt_of_pos _ (by decide)⟩
      have m6 : oMul (.int y) (.int 48271) S1 = _ := oMul_b hy0.1 (by omega) (by decide) (by decide)
      refine ⟨(y * 48271 + y / 1009 + (b + 1) * (b + 1)) % 2147483647 / 7 % m, S1, ?_, Int.emod_nonneg _ (by omega), Int.emod_lt_of_pos _ hm, _, ⟨a, b + 1, c, ha, by omega, by omega, hc, hc2, rfl⟩, hj, hS.symm⟩
      simp [fsF__law_draw, e0, e1, e2, f1, x0, x1, z, hm, hS, g0, m1, m2, m3, m4, hx, m5, d1, hy, m6, d2, d3, hj]
  refine ⟨v, S', ?_, hv0, hv1, hP⟩
  show gcR _ (bodyF 6 fsF__law_draw _ _) = _
  rw [hB]
  exact gcR_okS (hP.st _ h0) (by rw [hP.len]; simp) rfl
/-! ### draws, from the front -/
theorem w_draw {S0 L : Store} {d : Dv} {j k : Nat} {m : Int} {Q : Rs Dv → Prop} (hj : j < S0.length) (hp : Pool k d) (hk : k ≤ 1000000) (hm : 0 < m) (hm2 : m < 2 ^ 100) (h : ∀ (v : Int) (d' : Dv), 0 ≤ v → v < m → Pool (k + 1) d' → Q (.ok (.int v) (stP S0 j d' L))) : We (F__law_draw [.obj j, .int m] (stP S0 j d L)) Q := by
  have P0 : PlS j k (S0 ++ L) (stP S0 j d L) := ⟨d, hp, by simp; omega, by unfold stP; rw [List.set_append_left _ _ hj]⟩
  obtain ⟨v, S', e, v0, v1, d', hp', _, rfl⟩ := g_draw m P0 hk hm hm2
  refine We_ok e ?_
  rw [show (S0 ++ L).set j d' = stP S0 j d' L by unfold stP; rw [List.set_append_left _ _ hj]]
  exact h v d' v0 v1 hp'
theorem Pool.okO {k n : Nat} {d : Dv} (h : Pool k d) : okO n d = true := by
  obtain ⟨a, b, c, _, _, _, _, _, rfl⟩ := h
  rfl
theorem stP_ok {S0 L G : Store} {j k : Nat} {d d' : Dv} (h : Pool k d') : StOk (stP S0 j d L) (stP S0 j d' (L ++ G)) := by
  refine ⟨by simp, fun i x hi hx => ?_⟩
  by_cases z : j < S0.length
  · by_cases y : i < S0.length
    · by_cases u : j = i
      · subst u
        rw [stP_self z] at hx
        cases hx
        exact .inr h.okO
      · rw [stP_old y u] at hx
        exact .inl (by rw [stP_old y u]; exact hx)
    · obtain ⟨q, rfl⟩ : ∃ q, i = S0.length + q := ⟨i - S0.length, by omega⟩
      rw [stP_get] at hx
      simp at hi
      rw [List.getElem?_append_left hi] at hx
      exact .inl (by rw [stP_get]; exact hx)
  · unfold stP at *
    rw [List.set_eq_of_length_le (by omega)] at *
    rw [← List.append_assoc] at hx
    exact .inl (by rwa [List.getElem?_append_left hi] at hx)
theorem gcR_P {S0 L G : Store} {j k : Nat} {d d' v : Dv} (h : Pool k d') (hv : okO (S0.length + L.length) v = true) : gcR (stP S0 j d L) (some (.ok v (stP S0 j d' (L ++ G)))) = some (.ok v (stP S0 j d' L)) := by
  unfold gcR
  simp only [if_pos (stP_ok (S0 := S0) (L := L) (G := G) (j := j) (d := d) h), fzd_ok0 (show okO (stP S0 j d L).length v = true by simpa using hv)]
  rw [show stP S0 j d' (L ++ G) = stP S0 j d' L ++ G by simp, List.take_append_of_le_length (by simp), List.take_of_length_le (by simp)]
/-- a def that draws -/
def PD (S0 : Store) (j : Nat) (L : List Dv) (Q : Rs Dv → Prop) (r : Rs Dv) : Prop := ∃ v d' k G, r = .ok v (stP S0 j d' (L ++ G)) ∧ Pool k d' ∧ okO (S0.length + L.length) v = true ∧ Q (.ok v (stP S0 j d' L))
theorem PD_end {S0 : Store} {j k : Nat} {L : List Dv} {Q : Rs Dv → Prop} {v d : Dv} (G : List Dv) (hp : Pool k d) (hv : okO (S0.length + L.length) v = true) (hQ : Q (.ok v (stP S0 j d L))) : PD S0 j L Q (.ok v (stP S0 j d (L ++ G))) := ⟨v, d, k, G, rfl, hp, hv, hQ⟩
theorem PD_end0 {S0 : Store} {j k : Nat} {L : List Dv} {Q : Rs Dv → Prop} {v d : Dv} (hp : Pool k d) (hv : okO (S0.length + L.length) v = true) (hQ : Q (.ok v (stP S0 j d L))) : PD S0 j L Q (.ok v (stP S0 j d L)) := ⟨v, d, k, [], by simp, hp, hv, hQ⟩
theorem w_defD {n : Nat} {fs : FS} {ds : List Dv} {S0 L : Store} {j : Nat} {d : Dv} {Q : Rs Dv → Prop} (h : Ws (fs (ds.map some ++ List.replicate (n - ds.length) none) (stP S0 j d L)) (bdK (PD S0 j L Q))) : We (gcD (bodyF n fs) ds (stP S0 j d L)) Q := by
  rw [← w_body] at h
  obtain ⟨_, h, v, d', k, G, rfl, h1, h2, h3⟩ := h
  refine We_ok ?_ h3
  show gcR _ (bodyF n fs ds _) = _
  rw [h]
  exact gcR_P h1 h2
/-- .. whose answer is a list made on the way -/
def PL (S0 : Store) (j : Nat) (L : List Dv) (Q : Rs Dv → Prop) (r : Rs Dv) : Prop := ∃ xs d' k i G, r = .ok (.obj (S0.length + (L.length + i))) (stP S0 j d' (L ++ G)) ∧ G[i]? = some (.lst xs) ∧ Pool k d' ∧ okOs (S0.length + L.length) xs = true ∧ Q (.ok (.lst xs) (stP S0 j d' L))
theorem PL_end {S0 : Store} {j k : Nat} {L : List Dv} {Q : Rs Dv → Prop} {d : Dv} {xs : List Dv} (i : Nat) (G : List Dv) (hi : G[i]? = some (.lst xs)) (hp : Pool k d) (hv : okOs (S0.length + L.length) xs = true) (hQ : Q (.ok (.lst xs) (stP S0 j d L))) : PL S0 j L Q (.ok (.obj (S0.length + (L.length + i))) (stP S0 j d (L ++ G))) := ⟨xs, d, k, i, G, rfl, hi, hp, hv, hQ⟩
theorem PL_end0 {S0 : Store} {j k : Nat} {L : List Dv} {Q : Rs Dv → Prop} {d : Dv} {xs : List Dv} (G : List Dv) (hp : Pool k d) (hv : okOs (S0.length + L.length) xs = true) (hQ : Q (.ok (.lst xs) (stP S0 j d L))) : PL S0 j L Q (.ok (.obj (S0.length + L.length)) (stP S0 j d (L ++ .lst xs :: G))) := PL_end 0 _ rfl hp hv hQ
theorem w_defDL {n : Nat} {fs : FS} {ds : List Dv} {S0 L : Store} {j : Nat} {d : Dv} {Q : Rs Dv → Prop} (h : Ws (fs (ds.map some ++ List.replicate (n - ds.length) none) (stP S0 j d L)) (bdK (PL S0 j L Q))) : We (gcD (bodyF n fs) ds (stP S0 j d L)) Q := by
  rw [← w_body] at h
  obtain ⟨_, h, xs, d', k, i, G, rfl, h0, h1, h2, h3⟩ := h
  refine We_ok ?_ h3
  show gcR _ (bodyF n fs ds _) = _
  rw [h]
  unfold gcR
  have e1 : fzd (stP S0 j d L).length (stP S0 j d' (L ++ G)) 6 (.obj (S0.length + (L.length + i))) = some (.lst xs) := by
    refine fzd_obj (by simp) ?_ (fzs_ok0 (by simpa using h2))
    rw [stP_get, app_get, h0]
  simp only [if_pos (stP_ok (S0 := S0) (L := L) (G := G) (j := j) (d := d) h1), e1]
  rw [show stP S0 j d' (L ++ G) = stP S0 j d' L ++ G by simp, List.take_append_of_le_length (by simp), List.take_of_length_le (by simp)]
/-! ### _law_same -/
/-- data that _law_same compares with itself: scalars, tuples, lists; depth below n, not too long -/
def cmpD : Nat → Dv → Bool
  | 0, _ => false
  | n + 1, x => match x with
    | .non => true
    | .bl _ => true
    | .int _ => true
    | .str _ => true
    | .tup xs => decide (xs.length ≤ 1000000) && xs.all (cmpD n)
    | .lst xs => decide (xs.length ≤ 1000000) && xs.all (cmpD n)
    | _ => false
theorem s_loop {n : Nat} {x y : Dv} {xs : List Dv} {S : Store} (hx : seqOf x S = some xs) (hy : seqOf y S = some xs)
    (h : ∀ a ∈ xs, itF__law_same n [a, a] S = some (.ok (.bl true) S)) :
    forM' (bName 2) (LF__law_same_1 (itF__law_same n)) ((upTo 0 xs.length).map .int) [some x, some y, none] S = some (.nx [some x, some y, none] S) :=
  forM_const Dv.int _ S _ fun i hi => by
    obtain ⟨k, hk, rfl⟩ := mem_upTo hi
    have ex : xs[k]? = some xs[k] := List.getElem?_eq_getElem hk
    refine ⟨[some x, some y, some (.int k)], rfl, ?_⟩
    have := h _ (List.getElem_mem hk)
    unfold seqOf at hx hy
    simp [LF__law_same_1, hx, hy, atI_nat, ex, this]
theorem s_refl : ∀ (n : Nat) (x : Dv) (S : Store), cmpD n x = true → itF__law_same n [x, x] S = some (.ok (.bl true) S)
  | 0, x, S, h => by cases h
  | n + 1, x, S, h => by
    show gcD (bodyF 3 (fsF__law_same (itF__law_same n))) [x, x] S = _
    refine gcD_pure ?_ rfl
    cases x with
    | non => simp [fsF__law_same]
    | bl b => simp [fsF__law_same, oEq, eqD, eqS]
    | int i => simp [fsF__law_same]
    | str s => simp [fsF__law_same, oEq, eqD, eqS]
    | tup xs =>
      have h' : (decide (xs.length ≤ 1000000) && xs.all (cmpD n)) = true := h
      rw [Bool.and_eq_true, decide_eq_true_eq, List.all_eq_true] at h'
      have hc := s_loop (x := .tup xs) (y := .tup xs) (n := n) (S := S) (by simp) (by simp) fun a ha => s_refl n a S (h'.2 a ha)
      simp [fsF__law_same, h'.1, hc]
    | lst xs =>
      have h' : (decide (xs.length ≤ 1000000) && xs.all (cmpD n)) = true := h
      rw [Bool.and_eq_true, decide_eq_true_eq, List.all_eq_true] at h'
      have hc := s_loop (x := .lst xs) (y := .lst xs) (n := n) (S := S) (by simp) (by simp) fun a ha => s_refl n a S (h'.2 a ha)
      simp [fsF__law_same, h'.1, hc]
    | obj _ => cases h
    | ins _ _ => cases h
    | dic _ => cases h
    | dit _ => cases h
    | cls _ => cases h
theorem s_obj (n k : Nat) (xs : List Dv) (S : Store) (hS : S[k]? = some (.lst xs)) (h : cmpD (n + 1) (.lst xs) = true) : itF__law_same (n + 1) [.obj k, .lst xs] S = some (.ok (.bl true) S) := by
  show gcD (bodyF 3 (fsF__law_same (itF__law_same n))) [.obj k, .lst xs] S = _
  refine gcD_pure ?_ rfl
  have h' : (decide (xs.length ≤ 1000000) && xs.all (cmpD n)) = true := h
  rw [Bool.and_eq_true, decide_eq_true_eq, List.all_eq_true] at h'
  have hc := s_loop (x := .obj k) (y := .lst xs) (n := n) (S := S) (by simp [hS]) (by simp) fun a ha => s_refl n a S (h'.2 a ha)
  simp [fsF__law_same, hS, h'.1, hc]
/-- .. in short -/
theorem same_ {x : Dv} {S : Store} (h : cmpD 5 x = true) : F__law_same [x, x] S = some (.ok (.bl true) S) := s_refl 5 x S h
theorem same_o {k : Nat} {xs : List Dv} {S : Store} (hS : S[k]? = some (.lst xs)) (h : cmpD 5 (.lst xs) = true) : F__law_same [.obj k, .lst xs] S = some (.ok (.bl true) S) := s_obj 4 k xs S hS h
theorem cmp_ints {n : Nat} {xs : List Int} : (xs.map Dv.int).all (cmpD (n + 1)) = true := by simp [cmpD]
theorem cmp_tIn {n : Nat} {xs : List Int} (h : xs.length ≤ 1000000) : cmpD (n + 2) (tIn xs) = true := by
  show (decide ((xs.map Dv.int).length ≤ 1000000) && (xs.map Dv.int).all (cmpD (n + 1))) = true
  rw [cmp_ints]; simpa using h
theorem cmp_lIn {n : Nat} {xs : List Int} (h : xs.length ≤ 1000000) : cmpD (n + 2) (lIn xs) = true := by
  show (decide ((xs.map Dv.int).length ≤ 1000000) && (xs.map Dv.int).all (cmpD (n + 1))) = true
  rw [cmp_ints]; simpa using h
theorem cmp_tIs {n : Nat} {xss : List (List Int)} (h : xss.length ≤ 1000000) (h2 : ∀ xs ∈ xss, xs.length ≤ 1000000) : cmpD (n + 3) (.lst (tIs xss)) = true := by
  show (decide ((tIs xss).length ≤ 1000000) && (tIs xss).all (cmpD (n + 2))) = true
  rw [Bool.and_eq_true, List.all_eq_true]
  refine ⟨by simpa using h, fun d hd => ?_⟩
  obtain ⟨xs, hx, rfl⟩ := List.mem_map.1 hd
  exact cmp_tIn (h2 xs hx)
end FCL

set_option Elab.async false
set_option linter.all false
set_option maxRecDepth 100000
set_option maxHeartbeats 4000000
namespace FCL
open PySem PySem.Spec L2 FC
/-! ### parts of a crowd -/
open FCP (fpart npart allp Nn fr fstep stp lparts pre)
@[simp] theorem oAddX_tup {m xs ys S} : oAddX m (.tup xs) (.tup ys) S = if xs.length + ys.length ≤ big then some (.ok (.tup (xs ++ ys)) S) else none := rfl
@[simp] theorem oAddX_int {m i j S} : oAddX m (.int i) (.int j) S = some (.ok (.int (i + j)) S) := rfl
theorem forM_nx {b : Bd} {fb : FS} {d : Dv} {r : List Dv} {env env1 env2 : DEnv} {S S2 : Store} (h1 : b d env = some env1) (h2 : fb env1 S = some (.nx env2 S2)) : forM' b fb (d :: r) env S = forM' b fb r env2 S2 := by
  conv => lhs; unfold forM'
  simp only [h1, h2]
theorem z_size (xs : List Int) (S : Store) : F_size [tIn xs] S = some (.ok (.int xs.sum) S) := gcD_pure (by simp [fsF_size]) rfl
theorem slice_a (xs : List Int) (i : Nat) (hi : i < xs.length) (S : Store) : oSl false (tIn xs) none (some (i : Int)) S = some (.ok (tIn (xs.take i)) S) := by
  have n0 : HT.sIx xs.length 0 none = 0 := rfl
  have z1 : HT.sIx xs.length xs.length (some (i : Int)) = i := by rw [HT.sIx_nat]; omega
  simp [oSl, cutD, n0, z1, show ¬ i = xs.length by omega, List.map_take]
theorem slice_b (xs : List Int) (i : Nat) (hi : i < xs.length) (S : Store) : oSl false (tIn xs) (some ((i : Int) + 1)) none S = some (.ok (tIn (xs.drop (i + 1))) S) := by
  have n1 : HT.sIx xs.length xs.length none = xs.length := rfl
  have z2 : HT.sIx xs.length 0 (some ((i : Int) + 1)) = i + 1 := by
    rw [show ((i : Int) + 1) = ((i + 1 : Nat) : Int) by omega, HT.sIx_nat]; omega
  have e2 : cutD (xs.map Dv.int) (some ((i : Int) + 1)) none = (xs.drop (i + 1)).map Dv.int := by
    simp only [cutD, List.length_map, z2, n1]
    rw [List.take_of_length_le (by simp), List.map_drop]
  simp [oSl, e2, n1, z2]
theorem fpart_len : ∀ (l : List Int) (n : Int), (fpart l n).length = l.length
  | [], n => rfl
  | c :: l, n => by unfold fpart; simp [fpart_len l]
theorem z_first (cs : List Int) (n : Int) (S : Store) (hc : Nn cs) (hl : cs.length ≤ 100) : F__first_part [tIn cs, .int n] S = some (.ok (if 0 ≤ n ∧ n ≤ cs.sum then tIn (fpart cs n) else .non) S) := by
  by_cases h : 0 ≤ n ∧ n ≤ cs.sum
  · obtain ⟨h0, h1⟩ := h
    rw [if_pos ⟨h0, h1⟩]
    obtain ⟨hL, _⟩ := forM_fold (b := bName 4) (fb := LF__first_part_1) Dv.int (fun s : List Int × Int => [some (tIn cs), some (.int n), some (.obj S.length), some (.int s.2), none]) (fun s => S ++ [lIn s.1]) fstep (fun j s => s.1.length = j) cs.reverse 0 ([], n) rfl fun j x s hj hI => by
      have hjl : j < cs.length := by have := (List.getElem?_eq_some_iff.1 hj).1; simpa using this
      have hl1 : s.1.length ≤ 1000000 := by omega
      exact ⟨[some (tIn cs), some (.int n), some (.obj S.length), some (.int s.2), some (.int x)], rfl, by simp [LF__first_part_1, hl1, fstep], by simp [fstep, hI]⟩
    rw [FCP.fr_rev] at hL
    have e : (FCP.fr cs n).1 = fpart cs n := FCP.fr_part cs n hc h0 h1
    simp only [e] at hL
    have l1 : cs.length ≤ 1000000 := by omega
    have l2 : (fpart cs n).length ≤ 1000000 := by rw [fpart_len]; omega
    refine gcD_of (G := [lIn (fpart cs n).reverse]) ?_ (by simp)
    simp [lIn] at hL
    simp [fsF__first_part, z_size, h0, h1, l1, hL, l2, lIn]
  · rw [if_neg h]
    refine gcD_pure ?_ rfl
    by_cases h0 : 0 ≤ n
    · have h1 : ¬ n ≤ cs.sum := fun z => h ⟨h0, z⟩
      simp [fsF__first_part, z_size, h0, h1]
    · simp [fsF__first_part, z_size, h0]
/-- one kind is looked at -/
theorem next_step (cs ps : List Int) (hc : Nn cs) (hl : cs.length = ps.length) (hx : ps.length ≤ 100) (S : Store) (j : Nat) (hj : j < ps.length) (hle : (ps.drop (j + 1)).sum ≤ (cs.drop (j + 1)).sum) :
    LF__next_part_1 [some (tIn cs), some (tIn ps), some (.int (ps.drop (j + 1)).sum), some (.int j)] S =
    (if 0 < (ps.drop (j + 1)).sum ∧ ps[j] < cs[j]'(by omega) then some (.rt (tIn (ps.take j ++ ((ps[j] + 1) :: fpart (cs.drop (j + 1)) ((ps.drop (j + 1)).sum - 1)))) S)
      else some (.nx [some (tIn cs), some (tIn ps), some (.int (ps.drop j).sum), none] S)) := by
  have hjc : j < cs.length := by omega
  have gp : atI (ps.map Dv.int) (j : Int) = some (.int ps[j]) := by simp [atI_nat, hj]
  have gc : atI (cs.map Dv.int) (j : Int) = some (.int cs[j]) := by simp [atI_nat, hjc]
  have hd : (ps.drop j).sum = ps[j] + (ps.drop (j + 1)).sum := by rw [List.drop_eq_getElem_cons hj, List.sum_cons]
  have a1 := slice_a ps j hj
  have a2 := slice_b cs j hjc
  generalize hb : (ps.drop (j + 1)).sum = b at *
  have hcn : Nn (cs.drop (j + 1)) := fun x hx => hc x (List.mem_of_mem_drop hx)
  split
  · rename_i z
    have hg := z_first (cs.drop (j + 1)) (b - 1) S hcn (by simp; omega)
    rw [if_pos ⟨by omega, by omega⟩] at hg
    have l0 : (fpart (cs.drop (j + 1)) (b - 1)).length ≤ 100 := by rw [fpart_len]; simp; omega
    have l1 : min j ps.length + 1 ≤ 1000000 := by omega
    have l2 : min j ps.length + 1 + (fpart (cs.drop (j + 1)) (b - 1)).length ≤ 1000000 := by omega
    simp only [LF__next_part_1]
    simp [-FC.oSl, gp, gc, z.1, z.2, a1, a2, hg, l1, l2]
  · rename_i z
    simp only [LF__next_part_1]
    by_cases z1 : 0 < b
    · have z2 : ¬ ps[j] < cs[j] := fun y => z ⟨z1, y⟩
      simp [gp, gc, z1, z2, hd]
      omega
    · simp [gp, gc, z1, hd]
      omega
theorem next_loop (cs ps : List Int) (hc : Nn cs) (hl : cs.length = ps.length) (hx : ps.length ≤ 100) (hle : ∀ i, (ps.drop i).sum ≤ (cs.drop i).sum) (S : Store) : ∀ (j : Nat), j ≤ ps.length → npart (cs.drop j) (ps.drop j) = none →
    (∃ q, npart cs ps = some q ∧ forM' (bName 3) LF__next_part_1 ((upTo 0 j).map Dv.int).reverse [some (tIn cs), some (tIn ps), some (.int (ps.drop j).sum), none] S = some (.rt (tIn q) S)) ∨
    (npart cs ps = none ∧ ∃ env, forM' (bName 3) LF__next_part_1 ((upTo 0 j).map Dv.int).reverse [some (tIn cs), some (tIn ps), some (.int (ps.drop j).sum), none] S = some (.nx env S))
  | 0, _, h => .inr ⟨by simpa using h, _, by simp [upTo_range, forM']; rfl⟩
  | j + 1, hj, h => by
    have hu : ((upTo 0 (j + 1)).map Dv.int).reverse = .int j :: ((upTo 0 j).map Dv.int).reverse := by
      simp [upTo_range, List.range_succ]
    rw [hu]
    have na := FCP.np_at j cs ps hl (by omega) h
    have st := next_step cs ps hc hl hx S j (by omega) (hle (j + 1))
    have e : ∀ r, forM' (bName 3) LF__next_part_1 (.int j :: r) [some (tIn cs), some (tIn ps), some (.int (ps.drop (j + 1)).sum), none] S = match LF__next_part_1 [some (tIn cs), some (tIn ps), some (.int (ps.drop (j + 1)).sum), some (.int j)] S with
      | some (.nx env2 S2) => forM' (bName 3) LF__next_part_1 r env2 S2
      | some (.ct env2 S2) => forM' (bName 3) LF__next_part_1 r env2 S2
      | some (.bk env2 S2) => some (.nx env2 S2)
      | r => r := fun r => rfl
    rw [e]
    by_cases z : 0 < (ps.drop (j + 1)).sum ∧ ps[j]'(by omega) < cs[j]'(by omega)
    · rw [if_pos z] at na st
      refine .inl ⟨_, FCP.np_lift j cs ps _ hl na, ?_⟩
      rw [st]
    · rw [if_neg z] at na st
      rw [st]
      exact next_loop cs ps hc hl hx hle S j (by omega) na
/-- a part or None -/
def encO (o : Option (List Int)) : Dv := match o with
  | some q => tIn q
  | none => .non
theorem z_next (cs ps : List Int) (hc : Nn cs) (hl : cs.length = ps.length) (hx : ps.length ≤ 100) (hle : ∀ i, (ps.drop i).sum ≤ (cs.drop i).sum) (S : Store) :
    F__next_part [tIn cs, tIn ps] S = some (.ok (encO (npart cs ps)) S) := by
  have hn : npart (cs.drop ps.length) (ps.drop ps.length) = none := by
    rw [List.drop_of_length_le (Nat.le_refl ps.length), List.drop_of_length_le (by omega)]
    rfl
  have hr : rgOk 0 (ps.length : Int) := rgOk_of (by omega) (by omega)
  have hs : (ps.drop ps.length).sum = 0 := by rw [List.drop_of_length_le (Nat.le_refl _)]; rfl
  rcases next_loop cs ps hc hl hx hle S ps.length (Nat.le_refl _) hn with ⟨q, e, h⟩ | ⟨e, env, h⟩
  · rw [hs] at h
    rw [e]
    refine gcD_pure ?_ (by simp [encO])
    simp [fsF__next_part, hr, h, encO]
  · rw [hs] at h
    rw [e]
    refine gcD_pure ?_ rfl
    simp [fsF__next_part, hr, h, encO]
end FCL

set_option Elab.async false
set_option linter.all false
set_option maxRecDepth 100000
set_option maxHeartbeats 4000000
namespace FCL
open PySem PySem.Spec L2 FC
open FCP (fpart npart allp Nn fr fstep stp lparts pre)
/-! ### _law_parts -/
theorem row_loop (x0 x1 x2 x3 : Option Dv) (S : Store) (row : List Int) (hrow : row.length ≤ 1000) (ks : List Int) (acc : List (List Int)) (h : acc.length + ks.length ≤ 1000000) :
    forM' (bName 6) LF__law_parts_1 (ks.map Dv.int) [x0, x1, x2, x3, some (.obj S.length), some (tIn row), none] (S ++ [.lst (tIs acc)]) =
      some (.nx [x0, x1, x2, x3, some (.obj S.length), some (tIn row), none] (S ++ [.lst (tIs (acc ++ ks.map fun k => row ++ [k]))])) := by
  have key := (forM_fold (b := bName 6) (fb := LF__law_parts_1) Dv.int (fun _ : List (List Int) => [x0, x1, x2, x3, some (.obj S.length), some (tIn row), none]) (fun s => S ++ [.lst (tIs s)]) (fun s k => s ++ [row ++ [k]]) (fun j s => s.length = acc.length + j) ks 0 acc (by simp) fun j x s hj hI => by
    have hjl : j < ks.length := (List.getElem?_eq_some_iff.1 hj).1
    have hl : s.length ≤ 1000000 := by omega
    have hr : row.length + 1 ≤ 1000000 := by omega
    exact ⟨[x0, x1, x2, x3, some (.obj S.length), some (tIn row), some (.int x)], rfl, by simp [LF__law_parts_1, hl, hr], by simp; omega⟩).1
  have e : ∀ (ks : List Int) (acc : List (List Int)), ks.foldl (fun s k => s ++ [row ++ [k]]) acc = acc ++ ks.map fun k => row ++ [k] := by
    intro ks
    induction ks with
    | nil => simp
    | cons k ks ih => intro acc; simp [ih]
  rw [e] at key
  exact key
theorem rows_loop (cs : List Int) (n : Int) (x2 : Option Dv) (j : Nat) (hj : j < cs.length) (S : Store) : ∀ (rows acc : List (List Int)), (∀ r ∈ rows, r.length ≤ 1000 ∧ ((min cs[j] (n - r.sum)) + 1).natAbs ≤ 10 ^ 18) → acc.length + (stp n cs[j] rows).length ≤ 1000000 →
    forM' (bName 5) LF__law_parts_2 (tIs rows) [some (tIn cs), some (.int n), x2, some (.int j), some (.obj S.length), none, none] (S ++ [.lst (tIs acc)]) =
      some (.nx [some (tIn cs), some (.int n), x2, some (.int j), some (.obj S.length), none, none] (S ++ [.lst (tIs (acc ++ stp n cs[j] rows))]))
  | [], acc, _, _ => by simp [forM', stp]
  | row :: rows, acc, hr, h => by
    have gc : atI (cs.map Dv.int) (j : Int) = some (.int cs[j]) := by simp [atI_nat, hj]
    have e : stp n cs[j] (row :: rows) = ((upTo 0 (min cs[j] (n - row.sum) + 1).toNat).map fun k => row ++ [k]) ++ stp n cs[j] rows := by
      unfold stp
      rw [List.flatMap_cons]
    rw [e, List.length_append, List.length_map] at h
    have h1 := row_loop (some (tIn cs)) (some (.int n)) x2 (some (.int j)) S row (hr row List.mem_cons_self).1 (upTo 0 (min cs[j] (n - row.sum) + 1).toNat) acc (by omega)
    have h2 := rows_loop cs n x2 j hj S rows (acc ++ (upTo 0 (min cs[j] (n - row.sum) + 1).toNat).map fun k => row ++ [k]) (fun r hm => hr r (List.mem_cons_of_mem _ hm)) (by rw [List.length_append, List.length_map]; omega)
    rw [e, ← List.append_assoc, ← h2]
    have hg : ∀ S, rng1 [.int (min cs[j] (n - row.sum) + 1)] S = _ := fun S => rng1_e (hr row List.mem_cons_self).2
    have hB : LF__law_parts_2 [some (tIn cs), some (.int n), x2, some (.int j), some (.obj S.length), some (tIn row), none] (S ++ [.lst (tIs acc)]) = some (.nx [some (tIn cs), some (.int n), x2, some (.int j), some (.obj S.length), none, none] (S ++ [.lst (tIs (acc ++ (upTo 0 (min cs[j] (n - row.sum) + 1).toNat).map fun k => row ++ [k]))])) := by
      simp only [LF__law_parts_2]
      simp [gc, hg]
      simp at h1
      simp [h1]
    exact forM_nx rfl hB
def Rw (cs : List Int) (n : Int) (i : Nat) : List (List Int) := (cs.take i).foldl (fun rows c => stp n c rows) [[]]
theorem Rw_succ (cs : List Int) (n : Int) (i : Nat) (h : i < cs.length) : Rw cs n (i + 1) = stp n cs[i] (Rw cs n i) := by
  unfold Rw
  rw [List.take_succ_eq_append_getElem h, List.foldl_append]
  rfl
def RwOk (cs : List Int) (n : Int) : Prop := ∀ (i : Nat) (h : i < cs.length), (∀ r ∈ Rw cs n i, r.length ≤ 1000 ∧ (min cs[i] (n - r.sum) + 1).natAbs ≤ 10 ^ 18) ∧ (Rw cs n (i + 1)).length ≤ 1000000
theorem out_loop (cs : List Int) (n : Int) (ok : RwOk cs n) (S : Store) : ∀ (m i : Nat), i + m = cs.length →
    forM' (bName 3) LF__law_parts_3 ((upTo i m).map Dv.int) [some (tIn cs), some (.int n), some (.lst (tIs (Rw cs n i))), none, none, none, none] S = some (.nx [some (tIn cs), some (.int n), some (.lst (tIs (Rw cs n cs.length))), none, none, none, none] S)
  | 0, i, h => by
    have : i = cs.length := by omega
    subst this
    simp [FC.upTo, forM']
  | m + 1, i, h => by
    obtain ⟨o1, o2⟩ := ok i (by omega)
    rw [Rw_succ cs n i (by omega)] at o2
    have hL := rows_loop cs n (some (.lst (tIs (Rw cs n i)))) i (by omega) S (Rw cs n i) [] o1 (by simpa using o2)
    have ih := out_loop cs n ok S m (i + 1) (by omega)
    have hu : (upTo (i : Int) (m + 1)).map Dv.int = .int i :: (upTo ((i + 1 : Nat) : Int) m).map Dv.int := by
      rw [FCP.upTo_succ]
      simp
    rw [hu, forM_nx (env1 := [some (tIn cs), some (.int n), some (.lst (tIs (Rw cs n i))), some (.int i), none, none, none]) rfl ?_, ih]
    rw [Rw_succ cs n i (by omega)]
    show gcS _ S ((sSeq _ _) _ S) = _
    have hL' : forM' (bName 5) LF__law_parts_2 (tIs (Rw cs n i)) [some (tIn cs), some (.int n), some (.lst (tIs (Rw cs n i))), some (.int i), some (.obj S.length), none, none] (S ++ [.lst []]) = _ := hL
    simp at hL'
    simp [hL']
    refine gcS_nx (G := [_]) ?_
    simp only [fgt_cons, fgt_nil, List.set]
    exact fzE_cons (fzd_ok0 (by simp)) (fzE_cons (fzd_ok0 (by simp)) (fzE_cons (fzd_ok0 (by simp)) (fzE_none (fzE_none (fzE_none (fzE_none fzE_nil))))))
theorem z_law_parts (cs : List Int) (n : Int) (S : Store) (hl : cs.length ≤ 100) (ok : RwOk cs n) (hn : (Rw cs n cs.length).length ≤ 1000000) : F__law_parts [tIn cs, .int n] S = some (.ok (.lst (tIs (allp cs n))) S) := by
  have hO := out_loop cs n ok S cs.length 0 (by omega)
  refine gcD_pure ?_ (by simp)
  have c1 := compM_filter (b := bName 5) (ft := fTest (fOp oEq (fCall oSum (fCons (fVar 5) fNil)) (fVar 1))) (fe := fVar 5) (env0 := [some (tIn cs), some (.int n), some (.lst (tIs (Rw cs n cs.length))), none, none, none, none]) (S := S) (enc := fun r : List Int => tIn r) (xs := Rw cs n cs.length) (fun r => decide (r.sum = n)) (fun r => tIn r) hn fun r _ => ⟨_, rfl, by simp, by simp⟩
  have e : (Rw cs n cs.length).filter (fun r => decide (r.sum = n)) = allp cs n := by
    rw [← FCP.lparts_eq]
    unfold FCP.lparts Rw
    rw [List.take_length]
  rw [e] at c1
  have h0 : tIs (Rw cs n 0) = [.tup []] := rfl
  rw [h0] at hO
  simp at hO
  simp [fsF__law_parts, show cs.length ≤ 1000000 by omega, hO, c1]
theorem Rw_pre (cs : List Int) (n : Int) (i : Nat) : Rw cs n i = pre (cs.take i) n := by
  unfold Rw
  rw [FCP.stp_all]
  simp
theorem mem_pre : ∀ {cs : List Int} {n : Int} {r : List Int}, 0 ≤ n → r ∈ pre cs n → r.length = cs.length ∧ Nn r ∧ r.sum ≤ n
  | [], n, r, h0, h => by
    unfold pre at h
    simp only [List.mem_singleton] at h
    subst h
    exact ⟨rfl, fun _ h => (by cases h), by simpa using h0⟩
  | c :: cs, n, r, h0, h => by
    unfold pre at h
    rw [List.mem_flatMap] at h
    obtain ⟨k, hk, h⟩ := h
    rw [List.mem_map] at h
    obtain ⟨q, hq, rfl⟩ := h
    rw [FCP.mem_upTo] at hk
    obtain ⟨h1, h2, h3⟩ := mem_pre (by omega) hq
    refine ⟨by simp [h1], fun x hx => ?_, by simp only [List.sum_cons]; omega⟩
    rcases List.mem_cons.1 hx with rfl | hx
    · exact hk.1
    · exact h2 x hx
theorem pre_len : ∀ (cs : List Int) (n : Nat), (pre cs n).length ≤ 2 ^ (n + cs.length)
  | [], n => by
    unfold pre
    exact Nat.one_le_two_pow
  | c :: cs, n => by
    have h : ∀ m : Nat, m ≤ n + 1 → ((upTo 0 m).flatMap fun k => (pre cs ((n : Int) - k)).map (k :: ·)).length + 2 ^ (n + 1 - m + cs.length) ≤ 2 ^ (n + 1 + cs.length) := by
      intro m
      induction m with
      | zero => intro _; simp [FC.upTo]
      | succ m ih =>
        intro hm
        have h1 := ih (by omega)
        have h2 := pre_len cs (n - m)
        rw [FCP.upTo_add 0 m 1, List.flatMap_append, List.length_append]
        have e : upTo (0 + (m : Int)) 1 = [(m : Int)] := by simp [FC.upTo]
        rw [e, List.flatMap_cons, List.flatMap_nil, List.append_nil, List.length_map, show ((n : Int) - (m : Int)) = ((n - m : Nat) : Int) by omega]
        rw [show n + 1 - m + cs.length = (n - m + cs.length) + 1 by omega, Nat.pow_succ] at h1
        rw [show n + 1 - (m + 1) + cs.length = n - m + cs.length by omega]
        omega
    have h1 := h (min c n + 1).toNat (by omega)
    show ((upTo 0 (min c (n : Int) + 1).toNat).flatMap _).length ≤ _
    rw [List.length_cons, show n + (cs.length + 1) = n + 1 + cs.length by omega]
    exact Nat.le_trans (Nat.le_add_right _ _) h1
theorem rwOk (cs : List Int) (n : Nat) (hc : Nn cs) (h : n + cs.length ≤ 19) : RwOk cs n ∧ (Rw cs n cs.length).length ≤ 1000000 := by
  have hb : ∀ i, (Rw cs n i).length ≤ 1000000 := fun i => by
    rw [Rw_pre]
    refine Nat.le_trans (pre_len _ n) (Nat.le_trans (Nat.pow_le_pow_right (by decide) (show n + (cs.take i).length ≤ 19 by simp; omega)) (by decide))
  refine ⟨fun i hi => ⟨fun r hr => ?_, hb _⟩, hb _⟩
  rw [Rw_pre] at hr
  obtain ⟨h1, h2, h3⟩ := mem_pre (by omega) hr
  have h4 := h2.sum
  have h5 : 0 ≤ cs[i] := hc _ (List.getElem_mem hi)
  refine ⟨?_, ?_⟩
  · rw [h1]; simp; omega
  · omega
theorem z_parts (cs : List Int) (n : Nat) (S : Store) (hc : Nn cs) (h : n + cs.length ≤ 19) : F__law_parts [tIn cs, .int n] S = some (.ok (.lst (tIs (allp cs n))) S) := by
  obtain ⟨a, b⟩ := rwOk cs n hc h
  exact z_law_parts cs n S (by omega) a b
theorem allp_small (cs : List Int) (n : Nat) (h : n + cs.length ≤ 19) : (allp cs n).length ≤ 524288 := by
  rw [← FCP.lparts_eq]
  refine Nat.le_trans (List.length_filter_le _ _) ?_
  have e := Rw_pre cs n cs.length
  unfold Rw at e
  rw [List.take_length] at e
  rw [e]
  exact Nat.le_trans (pre_len cs n) (Nat.le_trans (Nat.pow_le_pow_right (by decide) h) (by decide))
end FCL

set_option Elab.async false
set_option linter.all false
set_option maxRecDepth 100000
set_option maxHeartbeats 4000000
namespace FCL
open PySem PySem.Spec L2 FC
/-! ### part_list -/
open FCP (fpart npart allp Nn Ch)
theorem whileM_t {ft : FT} {fb : FS} {n : Nat} {env env2 : DEnv} {S S2 : Store} (h1 : ft env S = some (.ok true S)) (h2 : fb env S = some (.nx env2 S2)) : whileM ft fb (n + 1) env S = whileM ft fb n env2 S2 := by
  conv => lhs; unfold whileM
  simp only [h1, h2]
theorem whileM_f {ft : FT} {fb : FS} {n : Nat} {env : DEnv} {S : Store} (h1 : ft env S = some (.ok false S)) : whileM ft fb (n + 1) env S = some (.nx env S) := by
  conv => lhs; unfold whileM
  simp only [h1]
@[simp] theorem oNis_non {S} : oNis .non .non S = some (.ok (.bl false) S) := rfl
theorem allp_mem_ok {cs : List Int} {n : Int} {p : List Int} (h : p ∈ allp cs n) : cs.length = p.length ∧ ∀ i, (p.drop i).sum ≤ (cs.drop i).sum := ⟨(FCP.mem_allp h).1.symm, FCP.allp_le h⟩
theorem pl_loop (cs : List Int) (n : Int) (hc : Nn cs) (hl : cs.length ≤ 100) (S : Store) : ∀ (l : List (List Int)) (acc : List (List Int)) (fuel : Nat), (∀ p ∈ l, p ∈ allp cs n) → Ch (npart cs) l → l.length < fuel → acc.length + l.length ≤ 1000000 →
    whileM (fTest (fOp oNis (fVar 3) (fC .non))) LF_part_list_1 fuel [some (tIn cs), some (.int n), some (.obj S.length), some (encO l.head?)] (S ++ [.lst (tIs acc)]) = some (.nx [some (tIn cs), some (.int n), some (.obj S.length), some .non] (S ++ [.lst (tIs (acc ++ l))]))
  | [], acc, fuel, _, _, hf, _ => by
    obtain ⟨f, rfl⟩ : ∃ f, fuel = f + 1 := ⟨fuel - 1, by simp at hf; omega⟩
    rw [whileM_f (by simp [encO, oNis, oIs])]
    simp [encO]
  | p :: l, acc, fuel, hm, hch, hf, hb => by
    obtain ⟨f, rfl⟩ : ∃ f, fuel = f + 1 := ⟨fuel - 1, by simp at hf; omega⟩
    obtain ⟨hp, hle⟩ := allp_mem_ok (hm p List.mem_cons_self)
    have hn : npart cs p = l.head? := by
      cases l with
      | nil => exact hch
      | cons q r => exact hch.1
    have hch' : Ch (npart cs) l := by
      cases l with
      | nil => exact True.intro
      | cons q r => exact hch.2
    have hz := fun S => z_next cs p hc hp (by omega) hle S
    simp only [hn] at hz
    have ha : acc.length ≤ 1000000 := by simp at hb; omega
    rw [whileM_t (env2 := [some (tIn cs), some (.int n), some (.obj S.length), some (encO l.head?)]) (S2 := S ++ [.lst (tIs (acc ++ [p]))]) (by simp [encO, oNis, oIs]) (by simp [LF_part_list_1, encO, ha, hz])]
    rw [pl_loop cs n hc hl S l (acc ++ [p]) f (fun q hq => hm q (List.mem_cons_of_mem _ hq)) hch' (by simp at hf; omega) (by simp at hb ⊢; omega)]
    simp
theorem allp_head (cs : List Int) (n : Int) (hc : Nn cs) : encO (allp cs n).head? = if 0 ≤ n ∧ n ≤ cs.sum then tIn (fpart cs n) else .non := by
  by_cases h : 0 ≤ n ∧ n ≤ cs.sum
  · obtain ⟨r, e, _⟩ := FCP.allp_ch cs n hc h.1 h.2
    rw [if_pos h, e]
    rfl
  · rw [if_neg h, FCP.allp_nil hc (by omega)]
    rfl
theorem allp_chain (cs : List Int) (n : Int) (hc : Nn cs) : Ch (npart cs) (allp cs n) := by
  by_cases h : 0 ≤ n ∧ n ≤ cs.sum
  · obtain ⟨r, _, e⟩ := FCP.allp_ch cs n hc h.1 h.2
    exact e
  · rw [FCP.allp_nil hc (by omega)]
    exact True.intro
theorem pl_body (cs : List Int) (n : Int) (hc : Nn cs) (hl : cs.length ≤ 100) (hb : (allp cs n).length ≤ 900000) (S : Store) : bodyF 4 fsF_part_list [tIn cs, .int n] S = some (.ok (.obj S.length) (S ++ .lst (tIs (allp cs n)) :: [])) := by
  have hL := pl_loop cs n hc hl S (allp cs n) [] 1000000 (fun _ h => h) (allp_chain cs n hc) (by omega) (by simp; omega)
  rw [allp_head cs n hc] at hL
  have hF := fun S => z_first cs n S hc hl
  simp at hL
  simp [fsF_part_list, hF, sWhile, hL]
theorem z_plist (cs : List Int) (n : Int) (hc : Nn cs) (hl : cs.length ≤ 100) (hb : (allp cs n).length ≤ 900000) (S : Store) : F_part_list [tIn cs, .int n] S = some (.ok (.lst (tIs (allp cs n))) S) := gcD_list (pl_body cs n hc hl hb S) (by simp)
end FCL

set_option Elab.async false
set_option linter.all false
set_option maxRecDepth 100000
set_option maxHeartbeats 4000000
namespace FCL
open PySem PySem.Spec L2 FC
/-! ### houses -/
open FCP (fpart npart allp Nn Ch)
theorem StOk_last {S : Store} {d d' : Dv} (h : okO (S.length + 1) d' = true) : StOk (S ++ [d]) (S ++ [d']) := by
  refine ⟨by simp, fun i x hi hx => ?_⟩
  by_cases z : i < S.length
  · rw [List.getElem?_append_left z] at hx
    exact .inl (by rw [List.getElem?_append_left z]; exact hx)
  · have e : i = S.length := by simp at hi; omega
    subst e
    simp at hx
    subst hx
    exact .inr (by simpa using h)
@[simp] theorem fGc_e {fa : FE} {env : DEnv} {S : Store} : fGc fa env S = gcR S (fa env S) := rfl
/-- a house as data -/
def hsD (q k : Int) (ms : List Int) : Dv := .ins "House" [("kinds", .int q), ("chairs", .int k), ("most", tIn ms)]
@[simp] theorem insOf_hs {q k ms S} : insOf (hsD q k ms) S = some (("House" : Str), [(("kinds" : Str), Dv.int q), (("chairs" : Str), Dv.int k), (("most" : Str), tIn ms)]) := rfl
@[simp] theorem okO_hs {n q k ms} : okO n (hsD q k ms) = true := by simp [hsD]
def badM (m : Int) : Bool := !(decide (1 ≤ m) && decide (m ≤ 1000000000000000000))
/-- the word of the first wrong argument -/
def wordH (q k : Int) (ms : List Int) : Option Str :=
  if ¬ (1 ≤ q ∧ q ≤ 6) then some "kinds" else if ¬ (1 ≤ k ∧ k ≤ 5) then some "chairs"
  else if 0 < ms.length ∧ (ms.length : Int) ≠ q then some "most" else if ms.any badM = true then some "most" else none
def bnds (q : Int) (ms : List Int) : List Int := if ms = [] then List.replicate q.toNat 1000000000000000000 else ms
def mkH (q k : Int) (ms : List Int) (S : Store) : Option (Rs Dv) := match wordH q k ms with
  | some w => some (.exc "BadHouse" [("what", .str w)] S)
  | none => some (.ok (hsD q k (bnds q ms)) S)
theorem bnds_map (q : Int) (ms : List Int) : (if ms.map Dv.int = [] then List.replicate q.toNat (Dv.int 1000000000000000000) else ms.map Dv.int) = (bnds q ms).map Dv.int := by
  unfold bnds
  cases ms with
  | nil => simp
  | cons m ms => simp
theorem all_good (xs : List Int) : (xs.map fun m => decide (1 ≤ m) && decide (m ≤ 1000000000000000000)).all id = !xs.any badM := by
  induction xs with
  | nil => rfl
  | cons x xs ih =>
    simp only [List.map_cons, List.all_cons, List.any_cons, ih, badM, id]
    cases decide (1 ≤ x) && decide (x ≤ 1000000000000000000) <;> simp
theorem init_body (q k : Int) (ms : List Int) (S : Store) (hm : ms.length ≤ 1000) : bodyF 6 fsF_House___init__ [.obj S.length, .int q, .int k, tIn ms] (S ++ [.ins "House" []]) = match wordH q k ms with
    | some w => some (.exc "BadHouse" [("what", .str w)] (S ++ [.ins "House" []]))
    | none => some (.ok .non (S ++ [hsD q k (bnds q ms)])) := by
  by_cases h1 : 1 ≤ q ∧ q ≤ 6
  · by_cases h2 : 1 ≤ k ∧ k ≤ 5
    · obtain ⟨h11, h12⟩ := h1
      obtain ⟨h21, h22⟩ := h2
      have hb : fOrT (fCall oTuple (fCons (fVar 3) fNil)) (fOp oMulT (fTup (fCons (fC (.int 1000000000000000000)) fNil)) (fVar 1)) [some (.obj S.length), some (.int q), some (.int k), some (tIn ms), none, none] (S ++ [.ins "House" []]) = some (.ok (tIn (bnds q ms)) (S ++ [.ins "House" []])) := by
        cases ms with
        | nil =>
          by_cases z : q = 1
          · subst z
            simp [oMulT, bnds]
          · have e : (List.replicate q.toNat [Dv.int 1000000000000000000]).flatten = (List.replicate q.toNat 1000000000000000000).map Dv.int := by
              rw [List.map_replicate]
              induction q.toNat with
              | zero => rfl
              | succ n ih => simp [List.replicate_succ, ih]
            simp [oMulT, bnds, z, show 2 ≤ q by omega, show q ≤ 1000 by omega, e]
        | cons m ms => simp [bnds]
      have hl : (bnds q ms).length ≤ 1000 := by
        unfold bnds
        split
        · simp; omega
        · exact hm
      have hl2 : (bnds q ms).length ≤ 1000000 := by omega
      have c1 := compM_map' (b := bName 5) (fe := fChain oLe oLe (fC (.int 1)) (fVar 5) (fC (.int 1000000000000000000))) (env0 := [some (.obj S.length), some (.int q), some (.int k), some (tIn ms), some (tIn (bnds q ms)), none]) (S := S ++ [.ins "House" []]) (enc := Dv.int) (xs := bnds q ms) (fun m => .bl (decide (1 ≤ m) && decide (m ≤ 1000000000000000000))) hl2 fun m _ => ⟨_, rfl, by
        by_cases z : 1 ≤ m <;> simp [z]⟩
      have c2 : (bnds q ms).map (fun m => Dv.bl (decide (1 ≤ m) && decide (m ≤ 1000000000000000000))) = ((bnds q ms).map fun m => decide (1 ≤ m) && decide (m ≤ 1000000000000000000)).map Dv.bl := by simp
      rw [c2] at c1
      have ag := all_good (bnds q ms)
      generalize (bnds q ms).map (fun m => decide (1 ≤ m) && decide (m ≤ 1000000000000000000)) = bs at c1 ag
      have hw : wordH q k ms = (if ((bnds q ms).length : Int) ≠ q ∨ (bnds q ms).any badM = true then some ("most" : Str) else (none : Option Str)) := by
        unfold wordH
        rw [if_neg (by simp [h11, h12]), if_neg (by simp [h21, h22])]
        cases ms with
        | nil =>
          have e1 : ((bnds q []).length : Int) = q := by unfold bnds; simp; omega
          have e2 : (bnds q []).any badM = false := by unfold bnds; simp [badM]
          simp [e1, e2]
        | cons m ms =>
          have e1 : bnds q (m :: ms) = m :: ms := by unfold bnds; simp
          rw [e1]
          by_cases z : (((m :: ms).length : Nat) : Int) = q
          · rw [if_neg (fun y => y.2 z)]
            by_cases x : (m :: ms).any badM = true
            · rw [if_pos x, if_pos (.inr x)]
            · rw [if_neg x, if_neg (fun y => y.elim (fun y => y z) x)]
          · rw [if_pos ⟨by simp, z⟩, if_pos (.inl z)]
      rw [hw]
      by_cases y : ((bnds q ms).length : Int) = q
      · by_cases x : (bnds q ms).any badM = true
        · rw [if_pos (.inr x)]
          rw [x] at ag
          simp only [fsF_House___init__, bodyF, sSeq, sAsg_e, sBnd]
          simp [-fOrT, h11, h12, h21, h22, hb, hl2, y, c1, ag]
        · rw [if_neg (by simp [y, x])]
          rw [show (bnds q ms).any badM = false by simpa using x] at ag
          simp (decide := true) [-fOrT, fsF_House___init__, h11, h12, h21, h22, hb, hl2, y, c1, ag, sSetFld, setFld, putD, hsD]
      · rw [if_pos (.inl y)]
        simp [-fOrT, fsF_House___init__, h11, h12, h21, h22, hb, hl2, y]
    · obtain ⟨h11, h12⟩ := h1
      have hw : wordH q k ms = some ("chairs" : Str) := by unfold wordH; rw [if_neg (by simp [h11, h12]), if_pos h2]
      rw [hw]
      by_cases z : 1 ≤ k
      · have z2 : ¬ k ≤ 5 := fun y => h2 ⟨z, y⟩
        simp [fsF_House___init__, h11, h12, z, z2]
      · simp [fsF_House___init__, h11, h12, z]
  · have hw : wordH q k ms = some ("kinds" : Str) := by unfold wordH; rw [if_pos h1]
    rw [hw]
    by_cases z : 1 ≤ q
    · have z2 : ¬ q ≤ 6 := fun y => h1 ⟨z, y⟩
      simp [fsF_House___init__, z, z2]
    · simp [fsF_House___init__, z]
theorem mk_house (q k : Int) (ms : List Int) (S : Store) (hm : ms.length ≤ 1000) : gcR S (mkR F_House___init__ "House" (fun o => [o, .int q, .int k, tIn ms]) S) = mkH q k ms S := by
  have hB := init_body q k ms S hm
  have hF : F_House___init__ [.obj S.length, .int q, .int k, tIn ms] (S ++ [.ins "House" []]) = match wordH q k ms with
      | some w => some (.exc "BadHouse" [("what", .str w)] (S ++ [.ins "House" []]))
      | none => some (.ok .non (S ++ [hsD q k (bnds q ms)])) := by
    cases hw : wordH q k ms with
    | some w => rw [hw] at hB; exact gcD_exc hB (by simp)
    | none =>
      rw [hw] at hB
      show gcR _ (bodyF 6 fsF_House___init__ _ _) = _
      rw [hB]
      exact gcR_okS (StOk_last (by simp)) (by simp) rfl
  unfold mkR mkH
  rw [hF]
  cases hw : wordH q k ms with
  | some w => exact gcR_exc0 (by simp)
  | none => exact gcR_ins (G := []) (by simp)
theorem z_crowds (q k : Int) (ms : List Int) (n : Int) (S : Store) (hc : Nn ms) (hl : ms.length ≤ 100) (hb : (allp ms n).length ≤ 900000) : F_House_crowds [hsD q k ms, .int n] S = some (.ok (.lst (tIs (allp ms n))) S) := by
  refine gcD_pure ?_ (by simp)
  have h := fun S => z_plist ms n hc hl hb S
  simp (decide := true) [fsF_House_crowds, h, hsD]
theorem z_meetings (q k : Int) (ms : List Int) (S : Store) (hc : Nn ms) (hl : ms.length ≤ 100) (hb : (allp ms (k + 1)).length ≤ 900000) : F_House_meetings [hsD q k ms] S = some (.ok (.lst (tIs (allp ms (k + 1)))) S) := by
  refine gcD_pure ?_ (by simp)
  have h := fun S => z_crowds q k ms (k + 1) S hc hl hb
  simp (decide := true) [fsF_House_meetings, h]
end FCL

set_option Elab.async false
set_option linter.all false
set_option maxRecDepth 100000
set_option maxHeartbeats 4000000
namespace FCL
open PySem PySem.Spec L2 FC
/-! ### the kinds in a crowd -/
def kin (c : List Int) : List Int := (((upTo 0 c.length).zip c).filter fun p => decide (0 < p.2)).map Prod.fst
theorem z_kinds (c : List Int) (S : Store) (hc : c.length ≤ 1000) : F_kinds_in [tIn c] S = some (.ok (lIn (kin c)) S) := by
  have e : numbered (c.map Dv.int) = ((upTo 0 c.length).zip c).map encP := numbered_ints c
  refine w_defP ?_ (by simp)
  unfold fsF_kinds_in
  simp -dsimp [e]
  refine w_lc encP (fun p => decide (0 < p.2)) (fun p => .int p.1) ((upTo 0 c.length).zip c) (by simp [upTo_range]; omega) (fun p _ => ?_) ?_
  · simp -dsimp [encP]
  · have e2 : (((upTo 0 c.length).zip c).filter fun p => decide (0 < p.2)).map (fun p => Dv.int p.1) = (kin c).map Dv.int := by unfold kin; rw [List.map_map]; rfl
    rw [e2]
    simp -dsimp
theorem z_inside (c : List Int) (S : Store) (hc : c.length ≤ 1000) : F__law_inside [tIn c] S = some (.ok (lIn (kin c)) S) := by
  have hr : ∀ S, rng1 [.int (c.length : Int)] S = some (.ok ((upTo 0 c.length).map .int) S) := fun S => rng1_len (by omega)
  have key : ((upTo 0 c.length).filter fun i => decide (0 < (c[i.toNat]?).getD 0)) = kin c := by
    unfold kin
    have gen : ∀ (n : Nat) (d : List Int), (∀ j, c[n + j]? = d[j]?) → (upTo (n : Int) d.length).filter (fun i => decide (0 < (c[i.toNat]?).getD 0)) = (((upTo (n : Int) d.length).zip d).filter fun p => decide (0 < p.2)).map Prod.fst := by
      intro n d
      induction d generalizing n with
      | nil => intro _; rfl
      | cons x d ih =>
        intro h
        have e0 : upTo (n : Int) (x :: d).length = (n : Int) :: upTo ((n + 1 : Nat) : Int) d.length := by
          unfold FC.upTo
          rw [List.length_cons, List.range_succ_eq_map, List.map_cons, List.map_map]
          simp
          intro a _
          omega
        have h0 := h 0
        simp at h0
        have ih := ih (n + 1) fun j => by rw [show n + 1 + j = n + (j + 1) by omega, h]; rfl
        rw [e0, List.zip_cons_cons, List.filter_cons, List.filter_cons, ih]
        simp only [Int.toNat_natCast, h0, Option.getD_some]
        by_cases z : 0 < x
        · simp [z]
        · simp [z]
    have := gen 0 c fun j => by rw [Nat.zero_add]
    simpa using this
  refine w_defP ?_ (by simp)
  unfold fsF__law_inside
  simp -dsimp [hr]
  refine w_lc Dv.int (fun i => decide (0 < (c[i.toNat]?).getD 0)) Dv.int (upTo 0 c.length) (by simp [upTo_range]; omega) (fun i hi => ?_) ?_
  · obtain ⟨k, hk, rfl⟩ := mem_upTo hi
    have g : atI (c.map Dv.int) (k : Int) = some (.int ((c[k]?).getD 0)) := by
      rw [atI_nat, List.getElem?_map, List.getElem?_eq_getElem hk]
      rfl
    simp -dsimp [g]
  · rw [key]
    simp -dsimp
end FCL

set_option Elab.async false
set_option linter.all false
set_option maxRecDepth 100000
set_option maxHeartbeats 4000000
namespace FC
open PySem PySem.Spec L2
/-! ### rules from the front: dicts, enumerate over zip, three names -/
section
variable {QD : Rs Dv → Prop} {QL : Rs (List Dv) → Prop} {P : Rf → Prop} {S : Store} {env : DEnv} {fa fk fv : FE} {la : FA} {ia : FI} {own : List Nat} {b : Bd} {ft : FT} {m : Bool} {i j l : Nat}
@[simp ↓] theorem w_fEnumZip : We (fEnumZip la env S) QL = We (la env S) (bnK (fun ds => match ds with
  | [.lst xs, .lst ys] => ret (numbered (pairs xs ys))
  | _ => stuck) QL) := We_bnd
@[simp ↓] theorem w_fKeys : We (fKeys fa env S) QL = We (fa env S) (bnK (fun x => match x with
  | .dit kvs => ret (kvs.map fun p => dRow p.1)
  | .dic kvs => ret (kvs.map fun p => dKey p.1)
  | _ => stuck) QL) := We_bnd
@[simp ↓] theorem w_fKeysT : We (fKeysT fa env S) QL = We (fa env S) (bnK (fun x => match x with
  | .dit kvs => ret (kvs.map fun p => dRow p.1)
  | _ => stuck) QL) := We_bnd
@[simp ↓] theorem w_fItems : We (fItems fa env S) QL = We (fa env S) (bnK (fun x => match x with
  | .dit kvs => ret (kvs.map fun p => .tup [dRow p.1, p.2])
  | _ => stuck) QL) := We_bnd
@[simp ↓] theorem w_fLVal : We (fLVal m fa env S) QD = We (fa env S) (bnK (fun x => match x with
  | .dit kvs => newL m (kvs.map Prod.snd)
  | _ => stuck) QD) := We_bnd
def dcK (own : List Nat) (b : Bd) (ft : FT) (fk fv : FE) (env : DEnv) (Q : Rs Dv → Prop) : Rs (List Dv) → Prop
  | .ok items S => We (compD b ft fk fv (wipeD env own) items [] S) (bnK (fun kvs => ret (.dit kvs)) Q)
  | .exc c fs S => Q (.exc c fs S)
@[simp ↓] theorem dcK_ok {ds : List Dv} : dcK own b ft fk fv env QD (.ok ds S) = We (compD b ft fk fv (wipeD env own) ds [] S) (bnK (fun kvs => ret (.dit kvs)) QD) := rfl
@[simp ↓] theorem w_fDcT : We (fDcT ia own b ft fk fv env S) QD = We (ia env S) (dcK own b ft fk fv env QD) := by
  unfold fDcT
  rw [We_bnd]
  refine We_cong fun x => ?_
  cases x with
  | ok d S => show We (bnd _ _ S) QD = _; rw [We_bnd]; rfl
  | exc => rfl
@[simp ↓] theorem w_sPar3 : Ws (sPar3 i j l la env S) P = We (la env S) (sbK (fun ds env S => match ds with
  | [a, b, c] => some (.nx (((env.set i (some a)).set j (some b)).set l (some c)) S)
  | _ => none) env P) := Ws_bnd
end
/-- a new key goes to the end -/
theorem putD2_new {κ : Type} [DecidableEq κ] {acc : List (κ × Dv)} {k : κ} {y : Dv} (h : k ∉ acc.map Prod.fst) : putD2 acc k y = acc ++ [(k, y)] := by
  unfold putD2
  rw [if_neg]
  intro z
  obtain ⟨p, hp, e⟩ := List.any_eq_true.1 z
  exact h (List.mem_map.2 ⟨p, hp, of_decide_eq_true e⟩)
/-- a dict comprehension whose keys are different -/
theorem w_dcm {α : Type} {b : Bd} {fk fv : FE} {env0 : DEnv} {S : Store} {Q : Rs (List (List Key × Dv)) → Prop} (enc : α → Dv) (kf : α → List Key) (g : α → Dv) (xs : List α) (hl : xs.length ≤ 1000000) (nd : (xs.map kf).Nodup)
    (h : ∀ x ∈ xs, Wb (b (enc x) env0) (fun e => We (fk e S) (fun r => ∃ k, r = .ok k S ∧ rowD k = some (kf x)) ∧ We (fv e S) (fun r => r = .ok (g x) S)))
    (hQ : Q (.ok (xs.map fun x => (kf x, g x)) S)) : We (compD b fYes fk fv env0 (xs.map enc) [] S) Q := by
  have key : ∀ (xs : List α) (acc : List (List Key × Dv)), acc.length + xs.length ≤ 1000000 → (acc.map Prod.fst ++ xs.map kf).Nodup →
      (∀ x ∈ xs, Wb (b (enc x) env0) (fun e => We (fk e S) (fun r => ∃ k, r = .ok k S ∧ rowD k = some (kf x)) ∧ We (fv e S) (fun r => r = .ok (g x) S))) →
      compD b fYes fk fv env0 (xs.map enc) acc S = some (.ok (acc ++ xs.map fun x => (kf x, g x)) S) := by
    intro xs
    induction xs with
    | nil => intro acc _ _ _; simp [compD]
    | cons x xs ih =>
      intro acc hl nd h
      obtain ⟨e, h1, ⟨_, h2, k, rfl, h3⟩, ⟨_, h4, rfl⟩⟩ := h x List.mem_cons_self
      have hk : kf x ∉ acc.map Prod.fst := fun z => (List.nodup_append.1 nd).2.2 _ z _ (by simp) rfl
      have hb : acc.length ≤ big := by have : big = 1000000 := rfl; simp at hl; omega
      show compD b fYes fk fv env0 (enc x :: xs.map enc) acc S = _
      unfold compD
      simp only [h1, fYes, FC.ret, h2, h3, h4, if_pos hb]
      rw [putD2_new hk, ih _ (by simp at hl ⊢; omega) (by simpa [List.append_assoc] using nd) fun y hy => h y (List.mem_cons_of_mem _ hy), List.append_assoc]
      rfl
  exact ⟨_, key xs [] (by simpa using hl) (by simpa using nd) h, by simpa using hQ⟩
end FC

set_option Elab.async false
set_option linter.all false
set_option maxRecDepth 100000
set_option maxHeartbeats 4000000
namespace FCL
open PySem PySem.Spec L2 FC
/-! ### answers -/
theorem nin_l {a : Int} {c : List Int} {S : Store} (h : a ∈ c) : oNin (.int a) (lIn c) S = some (.ok (.bl false) S) := by
  have e : (seqOf (lIn c) S).bind asInts = some c := by show asInts (c.map Dv.int) = some c; simp
  unfold oNin
  rw [e]
  simp [h]
theorem z_checkA (chs : List (List Int)) (as : List Int) (S : Store) (hl : chs.length = as.length) (hn : chs.length ≤ 100000) (hc : ∀ c ∈ chs, c.length ≤ 1000) (hi : ∀ (i : Nat) (c : List Int) (a : Int), chs[i]? = some c → as[i]? = some a → a ∈ c) : F_check_answers [.lst (chs.map lIn), lIn as] S = some (.ok .non S) := by
  refine w_defP ?_ rfl
  unfold fsF_check_answers
  simp -dsimp
  refine w_for (fun i env S' => env = [some (.lst (chs.map lIn)), some (lIn as), none, none, none] ∧ S' = S) ⟨rfl, rfl⟩ ?_ ?_
  · rintro i y _ _ hy ⟨rfl, rfl⟩
    obtain ⟨x, hx, rfl⟩ := numbered_at hy
    obtain ⟨u, v, hu, hv, rfl⟩ := pairs_at _ _ _ _ hx
    rw [List.getElem?_map, Option.map_eq_some_iff] at hu hv
    obtain ⟨c, hc1, rfl⟩ := hu
    obtain ⟨a, ha1, rfl⟩ := hv
    have hm := hi i c a hc1 ha1
    have hcl := hc c (List.mem_of_getElem? hc1)
    unfold LF_check_answers_1
    simp -dsimp [nin_l hm]
    exact Hi_i ⟨rfl, rfl⟩
  · rintro _ _ ⟨rfl, rfl⟩
    simp -dsimp [hl, show as.length ≤ 1000000 by omega]
end FCL

set_option Elab.async false
set_option linter.all false
set_option maxRecDepth 100000
set_option maxHeartbeats 4000000
namespace FCL
open PySem PySem.Spec L2 FC
/-! ### customs -/
open FCP
def rk (c : List Int) : List Key := c.map Sum.inl
def goesD (Ms : List (List Int)) (as : List Int) : Dv := .dit ((Ms.zip as).map fun p => (rk p.1, .int p.2))
def csD (q k : Int) (ms as : List Int) : Dv := .ins "Custom" [("house", hsD q k ms), ("answers", tIn as), ("_goes", goesD (allp ms (k + 1)) as)]
theorem keysD_ints : ∀ c : List Int, keysD (c.map Dv.int) = some (rk c)
  | [] => rfl
  | x :: c => by
    show keysD (.int x :: c.map Dv.int) = some (.inl x :: rk c)
    unfold keysD
    rw [keysD_ints c]
    rfl
theorem rowD_tIn {c : List Int} (h : c ≠ []) : rowD (tIn c) = some (rk c) := by
  cases c with
  | nil => exact absurd rfl h
  | cons x c => exact keysD_ints (x :: c)
theorem rk_inj {c d : List Int} (h : rk c = rk d) : c = d := by
  unfold rk at h
  induction c generalizing d with
  | nil => cases d with
    | nil => rfl
    | cons => cases h
  | cons x c ih => cases d with
    | nil => cases h
    | cons y d =>
      rw [List.map_cons, List.map_cons, List.cons.injEq] at h
      rw [Sum.inl.inj h.1, ih h.2]
theorem goes_okO (n : Nat) (Ms : List (List Int)) (as : List Int) : okO n (goesD Ms as) = true := by
  unfold goesD
  rw [okO_dit, okOs_iff]
  intro d hd
  rw [List.map_map] at hd
  obtain ⟨p, _, rfl⟩ := List.mem_map.1 hd
  rfl
theorem okO_cs {n : Nat} {q k : Int} {ms as : List Int} : okO n (csD q k ms as) = true := by
  unfold csD
  simp [goes_okO, hsD]
structure CsOk (q k : Int) (ms as : List Int) : Prop where
  nn : Nn ms
  ne : ms ≠ []
  l : ms.length ≤ 100
  b : (allp ms (k + 1)).length ≤ 100000
  e : (allp ms (k + 1)).length = as.length
  i : ∀ (i : Nat) (c : List Int) (a : Int), (allp ms (k + 1))[i]? = some c → as[i]? = some a → a ∈ kin c
theorem allp_ne {ms c : List Int} {n : Int} (h : c ∈ allp ms n) (hm : ms ≠ []) : c ≠ [] ∧ c.length = ms.length := by
  have e := (mem_allp h).1
  refine ⟨fun z => ?_, e⟩
  subst z
  exact hm (List.length_eq_zero_iff.1 e.symm)
theorem kin_len (c : List Int) : (kin c).length ≤ c.length := by
  unfold kin
  rw [List.length_map]
  refine Nat.le_trans (List.length_filter_le _ _) ?_
  rw [List.length_zip]
  omega
def encM (p : List Int × Int) : Dv := .tup [tIn p.1, .int p.2]
theorem pairs_tIs : ∀ (Ms : List (List Int)) (as : List Int), pairs (tIs Ms) (as.map Dv.int) = (Ms.zip as).map encM
  | [], _ => by simp [pairs]
  | _ :: _, [] => by simp [pairs]
  | c :: Ms, a :: as => by
    show .tup [tIn c, .int a] :: pairs (tIs Ms) (as.map Dv.int) = _
    rw [pairs_tIs Ms as]
    rfl
theorem nodup_rk : ∀ {Ms : List (List Int)}, Ms.Nodup → (Ms.map rk).Nodup
  | [], _ => by simp
  | c :: Ms, h => by
    rw [List.nodup_cons] at h
    rw [List.map_cons, List.nodup_cons]
    refine ⟨fun z => ?_, nodup_rk h.2⟩
    obtain ⟨d, hd, e⟩ := List.mem_map.1 z
    rw [rk_inj e] at hd
    exact h.1 hd
theorem zip_fst {α β : Type} : ∀ {xs : List α} {ys : List β}, xs.length = ys.length → (xs.zip ys).map Prod.fst = xs
  | [], [], _ => rfl
  | x :: xs, y :: ys, h => by rw [List.zip_cons_cons, List.map_cons, zip_fst (by simpa using h)]
theorem mk_custom (q k : Int) (ms as : List Int) (S : Store) (h : CsOk q k ms as) (nd : (allp ms (k + 1)).Nodup) : gcR S (mkR F_Custom___init__ "Custom" (fun o => [o, hsD q k ms, lIn as]) S) = some (.ok (csD q k ms as) S) := by
  obtain ⟨nn, ne, hl, hb, he, hi⟩ := h
  have zm := fun S => z_meetings q k ms S nn hl (by omega)
  have hk := fun c (hc : c ∈ allp ms (k + 1)) S => z_kinds c S (by have := (allp_ne hc ne).2; omega)
  have ck := fun S => z_checkA ((allp ms (k + 1)).map kin) as S (by simpa using he) (by simpa using hb) (fun c hc => by
    obtain ⟨d, hd, rfl⟩ := List.mem_map.1 hc
    have := kin_len d
    have := (allp_ne hd ne).2
    omega) (fun i c a h1 h2 => by
    rw [List.getElem?_map, Option.map_eq_some_iff] at h1
    obtain ⟨d, hd, rfl⟩ := h1
    exact hi i d a hd h2)
  have hB : bodyF 6 fsF_Custom___init__ [.obj S.length, hsD q k ms, lIn as] (S ++ [.ins "Custom" []]) = some (.ok .non (S ++ [csD q k ms as])) := by
    refine We_eq ?_
    rw [w_body]
    unfold fsF_Custom___init__
    simp -dsimp (decide := true) [zm]
    refine w_lcm tIn (fun c => lIn (kin c)) (allp ms (k + 1)) (by omega) (fun c hc => ?_) ?_
    · simp -dsimp [hk c hc]
    have e1 : (allp ms (k + 1)).map (fun c => lIn (kin c)) = (allp ms (k + 1)).map (lIn ∘ kin) := rfl
    have ck' : ∀ S, F_check_answers [.lst ((allp ms (k + 1)).map (lIn ∘ kin)), lIn as] S = some (.ok .non S) := fun S => by rw [← List.map_map]; exact ck S
    rw [e1]
    simp -dsimp (decide := true) [ck', setFld, putD]
    rw [pairs_tIs]
    refine w_dcm encM (fun p => rk p.1) (fun p => .int p.2) _ (by rw [List.length_zip]; omega) ?_ (fun p hp => ?_) ?_
    · have e2 : ((allp ms (k + 1)).zip as).map (fun p => rk p.1) = (((allp ms (k + 1)).zip as).map Prod.fst).map rk := by rw [List.map_map]; rfl
      rw [e2, zip_fst he]
      exact nodup_rk nd
    · have hm : p.1 ∈ allp ms (k + 1) := (List.of_mem_zip (show (p.1, p.2) ∈ _ from hp)).1
      have hr := rowD_tIn (allp_ne hm ne).1
      simp -dsimp [encM, hr]
    · simp -dsimp (decide := true) [setFld, putD]
      rfl
  have hF : F_Custom___init__ [.obj S.length, hsD q k ms, lIn as] (S ++ [.ins "Custom" []]) = some (.ok .non (S ++ [csD q k ms as])) := by
    show gcR _ (bodyF 6 fsF_Custom___init__ _ _) = _
    rw [hB]
    exact gcR_okS (StOk_last okO_cs) (by simp) rfl
  unfold mkR
  rw [hF]
  exact gcR_ins (G := []) (by simp [goes_okO, hsD])
end FCL

set_option Elab.async false
set_option linter.all false
set_option maxRecDepth 100000
set_option maxHeartbeats 4000000
namespace FCL
open PySem PySem.Spec L2 FC
/-! ### a custom's table -/
open FCP (allp Nn mem_allp)
theorem dRow_rk (c : List Int) : dRow (rk c) = tIn c := by
  unfold dRow rk tIn
  rw [List.map_map]
  rfl
theorem valD_zip : ∀ {Ms : List (List Int)} {as : List Int} {c : List Int} {a : Int}, Ms.Nodup → (c, a) ∈ Ms.zip as → valD ((Ms.zip as).map fun p => (rk p.1, Dv.int p.2)) (rk c) = some (.int a)
  | [], _, _, _, _, h => by simp at h
  | _ :: _, [], _, _, _, h => by simp at h
  | d :: Ms, b :: as, c, a, nd, h => by
    rw [List.nodup_cons] at nd
    rw [List.zip_cons_cons] at h ⊢
    rw [List.map_cons]
    rcases List.mem_cons.1 h with h | h
    · cases h
      unfold valD
      rw [List.find?_cons_of_pos (by simp)]
      rfl
    · have hc := (List.of_mem_zip h).1
      have hne : ¬ rk d = rk c := fun e => nd.1 (by rw [rk_inj e]; exact hc)
      have ih := valD_zip nd.2 h
      unfold valD at ih ⊢
      rw [List.find?_cons_of_neg (by simpa using hne)]
      exact ih
theorem z_table (q k : Int) (ms as : List Int) (S : Store) (h : CsOk q k ms as) (nd : (allp ms (k + 1)).Nodup) : F_Custom_table [csD q k ms as] S = some (.ok (goesD (allp ms (k + 1)) as) S) := by
  have he := h.e
  have hb := h.b
  have e1 : (List.map (fun p => dRow p.1) (((allp ms (k + 1)).zip as).map fun p => (rk p.1, Dv.int p.2))) = ((allp ms (k + 1)).zip as).map fun p => tIn p.1 := by
    rw [List.map_map]
    refine List.map_congr_left fun p _ => ?_
    exact dRow_rk p.1
  refine w_defP ?_ (goes_okO _ _ _)
  unfold fsF_Custom_table csD goesD
  simp -dsimp (decide := true) [-List.map_map, e1]
  refine w_dcm (fun p => tIn p.1) (fun p => rk p.1) (fun p => .int p.2) ((allp ms (k + 1)).zip as) (by rw [List.length_zip]; omega) ?_ (fun p hp => ?_) ?_
  · have e2 : ((allp ms (k + 1)).zip as).map (fun p => rk p.1) = (((allp ms (k + 1)).zip as).map Prod.fst).map rk := by rw [List.map_map]; rfl
    rw [e2, zip_fst he]
    exact nodup_rk nd
  · have hm : p.1 ∈ allp ms (k + 1) := (List.of_mem_zip (show (p.1, p.2) ∈ _ from hp)).1
    have hr := rowD_tIn (allp_ne hm h.ne).1
    have hv := valD_zip nd (show (p.1, p.2) ∈ _ from hp)
    have hd : ∀ S, oDget (.dit (((allp ms (k + 1)).zip as).map fun p => (rk p.1, Dv.int p.2))) (tIn p.1) S = some (.ok (.int p.2) S) := fun S => by
      unfold oDget dLook
      simp only [hr, Option.map_some, hv]
    simp -dsimp (decide := true) [-List.map_map, -FC.oDget, hr, hd]
  · simp -dsimp (decide := true) [-List.map_map]
end FCL

set_option Elab.async false
set_option linter.all false
set_option maxRecDepth 100000
set_option maxHeartbeats 4000000
namespace FCL
open PySem PySem.Spec L2 FC
/-! ### a custom's number -/
open FCP (allp Nn mem_allp)
/-- the number of the rows and answers so far -/
def numS (n : Int) (p : List Int × Int) : Int := n * ((kin p.1).length : Int) + ((kin p.1).idxOf p.2 : Nat)
def numF (ps : List (List Int × Int)) : Int := ps.foldl numS 0
theorem numF_take {ps : List (List Int × Int)} {i : Nat} {p : List Int × Int} (h : ps[i]? = some p) : numF (ps.take (i + 1)) = numS (numF (ps.take i)) p := by
  unfold numF
  rw [List.take_add_one, h, List.foldl_append]
  rfl
/-- so far below a hundred to the power of the rows -/
theorem numS_le {n B : Int} {p : List Int × Int} (h0 : 0 ≤ n) (h1 : n + 1 ≤ B) (hk : (kin p.1).length ≤ 100 ∧ p.2 ∈ kin p.1) : 0 ≤ numS n p ∧ numS n p + 1 ≤ B * 100 := by
  have hj : (kin p.1).idxOf p.2 < (kin p.1).length := List.idxOf_lt_length_iff.2 hk.2
  unfold numS
  generalize (kin p.1).idxOf p.2 = j at *
  generalize (kin p.1).length = l at *
  have a1 : 0 ≤ n * (l : Int) := Int.mul_nonneg h0 (by omega)
  have a2 : (n + 1) * (l : Int) ≤ B * 100 := Int.mul_le_mul h1 (by omega) (by omega) (by omega)
  rw [Int.add_mul] at a2
  omega
theorem numF_gen : ∀ (ps : List (List Int × Int)) (n B : Int), 0 ≤ n → n + 1 ≤ B → (∀ p ∈ ps, (kin p.1).length ≤ 100 ∧ p.2 ∈ kin p.1) → 0 ≤ ps.foldl numS n ∧ ps.foldl numS n + 1 ≤ B * 100 ^ ps.length
  | [], n, B, h0, h1, _ => by simpa using ⟨h0, h1⟩
  | p :: ps, n, B, h0, h1, hk => by
    have s := numS_le h0 h1 (hk p List.mem_cons_self)
    have t := numF_gen ps (numS n p) (B * 100) s.1 s.2 fun q hq => hk q (List.mem_cons_of_mem _ hq)
    rw [List.foldl_cons, List.length_cons, Int.pow_succ, Int.mul_comm (100 ^ ps.length), ← Int.mul_assoc]
    exact t
theorem numF_lt {ps : List (List Int × Int)} (hk : ∀ p ∈ ps, (kin p.1).length ≤ 100 ∧ p.2 ∈ kin p.1) : 0 ≤ numF ps ∧ numF ps + 1 ≤ 100 ^ ps.length := by
  have := numF_gen ps 0 1 (by decide) (by decide) hk
  rw [Int.one_mul] at this
  exact this
theorem big100 (i : Nat) {x : Int} (h0 : 0 ≤ x) (h : x + 1 ≤ 100 ^ i) : x.natAbs.log2 < 7 * i + 1 := by
  refine log2_lt (k := 7 * i) ?_ (by omega) (by omega)
  have e : ((100 ^ i : Nat) : Int) = (100 : Int) ^ i := by simp
  have h1 : x.natAbs + 1 ≤ 100 ^ i := by
    have : ((x.natAbs : Nat) : Int) + 1 ≤ ((100 ^ i : Nat) : Int) := by rw [Int.natAbs_of_nonneg h0, e]; exact h
    omega
  have h2 : 100 ^ i ≤ 2 ^ (7 * i) := by
    rw [Nat.pow_mul]
    exact Nat.pow_le_pow_left (by decide) i
  omega
theorem idx_some {a : Int} : ∀ {l : List Int}, a ∈ l → l.idxOf? a = some (l.idxOf a)
  | [], h => by cases h
  | x :: l, h => by
    rw [List.idxOf?_cons, List.idxOf_cons]
    by_cases z : x = a
    · subst z; simp
    · have hm : a ∈ l := by
        rcases List.mem_cons.1 h with h | h
        · exact absurd h.symm z
        · exact h
      have e : (x == a) = false := by simpa using z
      rw [e, idx_some hm]
      simp
theorem z_number (q k : Int) (ms as : List Int) (S : Store) (h : CsOk q k ms as) (nd : (allp ms (k + 1)).Nodup) : F_number_of [csD q k ms as] S = some (.ok (.int (numF ((allp ms (k + 1)).zip as))) S) := by
  have he := h.e
  have hb := h.b
  have hl := h.l
  have zt := fun S => z_table q k ms as S h nd
  have hps : ∀ (i : Nat) (p : List Int × Int), ((allp ms (k + 1)).zip as)[i]? = some p → p.1.length = ms.length ∧ p.2 ∈ kin p.1 := fun i p hp => by
    obtain ⟨h1, h2⟩ := List.getElem?_zip_eq_some.1 (show _ = some (p.1, p.2) from hp)
    exact ⟨(allp_ne (List.mem_of_getElem? h1) h.ne).2, h.i i _ _ h1 h2⟩
  have hall : ∀ j, ∀ p ∈ ((allp ms (k + 1)).zip as).take j, (kin p.1).length ≤ 100 ∧ p.2 ∈ kin p.1 := fun j p hp => by
    obtain ⟨i, hi⟩ := List.getElem?_of_mem (List.mem_of_mem_take hp)
    have := hps i p hi
    exact ⟨by have := kin_len p.1; omega, this.2⟩
  have zl : ((allp ms (k + 1)).zip as).length ≤ 100000 := by rw [List.length_zip]; omega
  have e1 : (((allp ms (k + 1)).zip as).map fun p => (rk p.1, Dv.int p.2)).map (fun p => Dv.tup [dRow p.1, p.2]) = ((allp ms (k + 1)).zip as).map encM := by
    rw [List.map_map]
    refine List.map_congr_left fun p _ => ?_
    show Dv.tup [dRow (rk p.1), .int p.2] = _
    rw [dRow_rk]
    rfl
  refine w_defP ?_ rfl
  unfold fsF_number_of
  have ins : ∀ S, insOf (csD q k ms as) S = some (("Custom" : Str), [(("house" : Str), hsD q k ms), (("answers" : Str), tIn as), (("_goes" : Str), goesD (allp ms (k + 1)) as)]) := fun _ => rfl
  simp -dsimp (decide := true) [↓ins, zt, goesD, -List.map_map, e1]
  refine w_for (fun i env S' => env = [some (csD q k ms as), some (.int (numF (((allp ms (k + 1)).zip as).take i))), none, none, none] ∧ S' = S) ⟨rfl, rfl⟩ ?_ ?_
  · rintro i y _ _ hy ⟨rfl, rfl⟩
    rw [List.getElem?_map, Option.map_eq_some_iff] at hy
    obtain ⟨p, hp, rfl⟩ := hy
    have h1 := hps i p hp
    have h2 := kin_len p.1
    have il := (List.getElem?_eq_some_iff.1 hp).1
    have zk := fun S => z_kinds p.1 S (by omega)
    have nl := numF_lt (hall i)
    have lt := big100 i nl.1 (by rw [List.length_take, Nat.min_eq_left (by omega)] at nl; exact nl.2)
    have l2 := log2_lt (i := ((kin p.1).length : Int)) (k := 7) (n := 7) (by omega) (by decide) (by decide)
    have ml : ∀ S, oMul (.int (numF (((allp ms (k + 1)).zip as).take i))) (.int ((kin p.1).length : Int)) S = _ := fun S => oMul_i (by omega)
    have ix : (kin p.1).idxOf? p.2 = some ((kin p.1).idxOf p.2) := idx_some h1.2
    unfold LF_number_of_1
    simp -dsimp (decide := true) [encM, zk, ml, ix, show (kin p.1).length ≤ 1000000 by omega]
    exact ⟨rfl, Hi_i ⟨by rw [numF_take hp]; rfl, rfl⟩⟩
  · rintro _ _ ⟨rfl, rfl⟩
    rw [List.length_map, List.take_of_length_le (Nat.le_refl _)]
    simp -dsimp
end FCL

set_option Elab.async false
set_option linter.all false
set_option maxRecDepth 100000
set_option maxHeartbeats 4000000
namespace FCL
open PySem PySem.Spec L2 FC
/-! ### how many customs -/
open FCP (allp Nn mem_allp)
def cntC (Ms : List (List Int)) : Int := Ms.foldl (fun n c => n * ((kin c).length : Int)) 1
theorem cntC_take {Ms : List (List Int)} {i : Nat} {c : List Int} (h : Ms[i]? = some c) : cntC (Ms.take (i + 1)) = cntC (Ms.take i) * ((kin c).length : Int) := by
  unfold cntC
  rw [List.take_add_one, h, List.foldl_append]
  rfl
theorem cntC_gen : ∀ (Ms : List (List Int)) (n B : Int), 0 ≤ n → n ≤ B → (∀ c ∈ Ms, (kin c).length ≤ 100) → 0 ≤ Ms.foldl (fun n c => n * ((kin c).length : Int)) n ∧ Ms.foldl (fun n c => n * ((kin c).length : Int)) n ≤ B * 100 ^ Ms.length
  | [], n, B, h0, h1, _ => by simpa using ⟨h0, h1⟩
  | c :: Ms, n, B, h0, h1, hk => by
    have hc := hk c List.mem_cons_self
    have a1 : 0 ≤ n * ((kin c).length : Int) := Int.mul_nonneg h0 (by omega)
    have a2 : n * ((kin c).length : Int) ≤ B * 100 := Int.mul_le_mul h1 (by omega) (by omega) (by omega)
    have t := cntC_gen Ms (n * ((kin c).length : Int)) (B * 100) a1 a2 fun q hq => hk q (List.mem_cons_of_mem _ hq)
    rw [List.foldl_cons, List.length_cons, Int.pow_succ, Int.mul_comm (100 ^ Ms.length), ← Int.mul_assoc]
    exact t
theorem z_count (q k : Int) (ms : List Int) (S : Store) (nn : Nn ms) (ne : ms ≠ []) (hl : ms.length ≤ 100) (hb : (allp ms (k + 1)).length ≤ 100000) : F_count_customs [hsD q k ms] S = some (.ok (.int (cntC (allp ms (k + 1)))) S) := by
  have zm := fun S => z_meetings q k ms S nn hl (by omega)
  have hm : ∀ c ∈ allp ms (k + 1), c.length ≤ 100 ∧ (kin c).length ≤ 100 := fun c hc => by
    have := (allp_ne hc ne).2
    have := kin_len c
    omega
  refine w_defP ?_ rfl
  unfold fsF_count_customs
  simp -dsimp (decide := true) [zm]
  refine w_for (fun i env S' => env = [some (hsD q k ms), some (.int (cntC ((allp ms (k + 1)).take i))), none] ∧ S' = S) ⟨rfl, rfl⟩ ?_ ?_
  · rintro i y _ _ hy ⟨rfl, rfl⟩
    have hy' : ((allp ms (k + 1)).map tIn)[i]? = some y := hy
    rw [List.getElem?_map, Option.map_eq_some_iff] at hy'
    obtain ⟨c, hc, rfl⟩ := hy'
    have h1 := hm c (List.mem_of_getElem? hc)
    have il := (List.getElem?_eq_some_iff.1 hc).1
    have zk := fun S => z_kinds c S (by omega)
    have g := cntC_gen ((allp ms (k + 1)).take i) 1 1 (by decide) (by decide) fun d hd => (hm d (List.mem_of_mem_take hd)).2
    rw [Int.one_mul, List.length_take, Nat.min_eq_left (by omega)] at g
    have lt := big100 (i + 1) g.1 (by
      have : (1 : Int) ≤ 100 ^ i := (by have : (0 : Int) < 100 ^ i := Int.pow_pos (by decide); omega)
      rw [Int.pow_succ]
      show cntC ((allp ms (k + 1)).take i) + 1 ≤ _
      have := g.2
      unfold cntC
      omega)
    have l2 := log2_lt (i := ((kin c).length : Int)) (k := 7) (n := 7) (by omega) (by decide) (by decide)
    have ml : ∀ S, oMul (.int (cntC ((allp ms (k + 1)).take i))) (.int ((kin c).length : Int)) S = _ := fun S => oMul_i (by unfold cntC; omega)
    unfold LF_count_customs_1
    simp -dsimp (decide := true) [zk, ml, show (kin c).length ≤ 1000000 by omega]
    exact Hi_i ⟨by rw [cntC_take hc], rfl⟩
  · rintro _ _ ⟨rfl, rfl⟩
    rw [show (tIs (allp ms (k + 1))).length = (allp ms (k + 1)).length from List.length_map _, List.take_of_length_le (Nat.le_refl _)]
    simp -dsimp
end FCL

set_option Elab.async false
set_option linter.all false
set_option maxRecDepth 100000
set_option maxHeartbeats 4000000
namespace FCL
open PySem PySem.Spec L2 FC
/-! ### each meeting once; a custom by its number -/
open FCP (allp Nn mem_allp)
theorem map_nodup {α β : Type} {f : α → β} (hf : ∀ a b, f a = f b → a = b) : ∀ {l : List α}, l.Nodup → (l.map f).Nodup
  | [], _ => by simp
  | a :: l, h => by
    rw [List.nodup_cons] at h
    rw [List.map_cons, List.nodup_cons]
    refine ⟨fun z => ?_, map_nodup hf h.2⟩
    obtain ⟨b, hb, e⟩ := List.mem_map.1 z
    rw [hf _ _ e] at hb
    exact h.1 hb
theorem flat_nodup {α β : Type} {f : α → List β} (hn : ∀ a, (f a).Nodup) (hd : ∀ a b x, x ∈ f a → x ∈ f b → a = b) : ∀ {l : List α}, l.Nodup → (l.flatMap f).Nodup
  | [], _ => by simp
  | a :: l, h => by
    rw [List.nodup_cons] at h
    rw [List.flatMap_cons, List.nodup_append]
    refine ⟨hn a, flat_nodup hn hd h.2, fun x hx y hy e => ?_⟩
    subst e
    obtain ⟨b, hb, hxb⟩ := List.mem_flatMap.1 hy
    rw [hd a b x hx hxb] at h
    exact h.1 hb
theorem upTo_nodup (n : Nat) : (FC.upTo 0 n).Nodup := by
  rw [upTo_range]
  exact map_nodup (f := fun i : Nat => (i : Int)) (fun a b e => Int.ofNat.inj e) List.nodup_range
theorem allp_nodup : ∀ (ms : List Int) (n : Int), (allp ms n).Nodup
  | [], n => by
    unfold allp
    split <;> simp
  | c :: cs, n => by
    unfold allp
    refine flat_nodup (fun k => ?_) (fun a b x hx hy => ?_) (upTo_nodup _)
    · exact map_nodup (fun a b e => (List.cons.inj e).2) (allp_nodup cs (n - k))
    · obtain ⟨p, _, rfl⟩ := List.mem_map.1 hx
      obtain ⟨q, _, e⟩ := List.mem_map.1 hy
      exact ((List.cons.inj e).1).symm
/-! ### the answers that a number says -/
def ansF : List (List Int) → Int → Int × List Int
  | [], n => (n, [])
  | c :: Ms, n => ((ansF Ms n).1 / ((kin c).length : Int), ((kin c)[((ansF Ms n).1 % ((kin c).length : Int)).toNat]?).getD 0 :: (ansF Ms n).2)
theorem ansF_len (n : Int) : ∀ Ms : List (List Int), (ansF Ms n).2.length = Ms.length
  | [] => rfl
  | c :: Ms => by show (ansF Ms n).2.length + 1 = _; rw [ansF_len n Ms]; rfl
theorem ansF_in (n : Int) : ∀ {Ms : List (List Int)} (_ : ∀ c ∈ Ms, kin c ≠ []) (i : Nat) (c : List Int) (a : Int), Ms[i]? = some c → (ansF Ms n).2[i]? = some a → a ∈ kin c
  | [], _, i, c, a, h, _ => by simp at h
  | d :: Ms, hk, 0, c, a, h, h2 => by
    simp at h
    subst h
    have hp : 0 < (kin d).length := List.length_pos_iff.2 (hk d List.mem_cons_self)
    have r0 := Int.emod_nonneg (ansF Ms n).1 (show ((kin d).length : Int) ≠ 0 by omega)
    have r1 := Int.emod_lt_of_pos (ansF Ms n).1 (show (0 : Int) < (kin d).length by omega)
    have e : a = ((kin d)[((ansF Ms n).1 % ((kin d).length : Int)).toNat]?).getD 0 := (Option.some.inj h2).symm
    have hl : ((ansF Ms n).1 % ((kin d).length : Int)).toNat < (kin d).length := by omega
    rw [e, List.getElem?_eq_getElem hl]
    exact List.getElem_mem hl
  | d :: Ms, hk, i + 1, c, a, h, h2 => ansF_in n (fun c hc => hk c (List.mem_cons_of_mem _ hc)) i c a (by simpa using h) h2
theorem sum_le0 : ∀ {c : List Int}, (∀ x ∈ c, ¬ 0 < x) → c.sum ≤ 0
  | [], _ => by simp
  | x :: c, h => by
    have h1 := h x List.mem_cons_self
    have h2 := sum_le0 fun y hy => h y (List.mem_cons_of_mem _ hy)
    rw [List.sum_cons]
    omega
theorem kin_ne {c : List Int} (hs : 0 < c.sum) : kin c ≠ [] := by
  intro e
  unfold kin at e
  rw [List.map_eq_nil_iff, List.filter_eq_nil_iff] at e
  have : c.sum ≤ 0 := sum_le0 fun x hx => by
    obtain ⟨i, hi⟩ := List.getElem?_of_mem hx
    have il := (List.getElem?_eq_some_iff.1 hi).1
    have hz : ((FC.upTo 0 c.length).zip c)[i]? = some (((0 : Int) + (i : Nat)), x) := List.getElem?_zip_eq_some.2 ⟨upTo_at il, hi⟩
    have := e _ (List.mem_of_getElem? hz)
    simpa using this
  omega
end FCL

set_option Elab.async false
set_option linter.all false
set_option maxRecDepth 100000
set_option maxHeartbeats 4000000
namespace FCL
open PySem PySem.Spec L2 FC
/-! ### custom_at -/
open FCP (allp Nn mem_allp)
theorem z_at (q k n : Int) (ms : List Int) (S : Store) (nn : Nn ms) (ne : ms ≠ []) (hl : ms.length ≤ 100) (hb : (allp ms (k + 1)).length ≤ 100000) (hk : 0 ≤ k) (h0 : 0 ≤ n) (h1 : n < cntC (allp ms (k + 1))) : F_custom_at [hsD q k ms, .int n] S = some (.ok (csD q k ms (ansF (allp ms (k + 1)) n).2) S) := by
  have zm := fun S => z_meetings q k ms S nn hl (by omega)
  have zc := fun S => z_count q k ms S nn ne hl hb
  have hm : ∀ c ∈ allp ms (k + 1), c.length ≤ 100 ∧ (kin c).length ≤ 100 ∧ kin c ≠ [] := fun c hc => by
    have a1 := (allp_ne hc ne).2
    have a2 := kin_len c
    have a3 := (mem_allp hc).2.1
    exact ⟨by omega, by omega, kin_ne (by omega)⟩
  have ok : CsOk q k ms (ansF (allp ms (k + 1)) n).2 := ⟨nn, ne, hl, hb, (ansF_len n _).symm, ansF_in n fun c hc => (hm c hc).2.2⟩
  have mk := fun S => mk_custom q k ms _ S ok (allp_nodup ms (k + 1))
  refine w_def ?_ okO_cs
  unfold fsF_custom_at
  simp -dsimp (decide := true) [zc, h0, h1, zm]
  have hlen : (tIs (allp ms (k + 1))).length = (allp ms (k + 1)).length := List.length_map _
  generalize allp ms (k + 1) = Ms at *
  refine w_for (fun i env S' => env = [some (hsD q k ms), some (.int n), some (.obj S.length), some (.int (ansF (Ms.drop (Ms.length - i)) n).1), none, none, none] ∧ S' = S ++ [.lst ((ansF (Ms.drop (Ms.length - i)) n).2.reverse.map .int)]) ⟨by simp [ansF], by simp [ansF]⟩ ?_ ?_
  · rintro i y _ _ hy ⟨rfl, rfl⟩
    have il := (List.getElem?_eq_some_iff.1 hy).1
    rw [List.length_reverse, hlen] at il
    rw [List.getElem?_reverse (by rw [hlen]; exact il), hlen] at hy
    have hy' : (Ms.map tIn)[Ms.length - 1 - i]? = some y := hy
    rw [List.getElem?_map, Option.map_eq_some_iff] at hy'
    obtain ⟨c, hc, rfl⟩ := hy'
    have h2 := hm c (List.mem_of_getElem? hc)
    have zk := fun S => z_kinds c S (by omega)
    have hp : 0 < (kin c).length := List.length_pos_iff.2 h2.2.2
    have dr : Ms.drop (Ms.length - (i + 1)) = c :: Ms.drop (Ms.length - i) := by
      have jl : Ms.length - (i + 1) < Ms.length := by omega
      rw [List.drop_eq_getElem_cons jl, show Ms.length - (i + 1) + 1 = Ms.length - i by omega]
      rw [show Ms.length - 1 - i = Ms.length - (i + 1) by omega, List.getElem?_eq_getElem jl] at hc
      rw [Option.some.inj hc]
    have al := ansF_len n (Ms.drop (Ms.length - i))
    rw [List.length_drop] at al
    have r0 := Int.emod_nonneg (ansF (Ms.drop (Ms.length - i)) n).1 (show ((kin c).length : Int) ≠ 0 by omega)
    have r1 := Int.emod_lt_of_pos (ansF (Ms.drop (Ms.length - i)) n).1 (show (0 : Int) < (kin c).length by omega)
    have at' : atI ((kin c).map Dv.int) ((ansF (Ms.drop (Ms.length - i)) n).1 % ((kin c).length : Int)) = some (.int (((kin c)[((ansF (Ms.drop (Ms.length - i)) n).1 % ((kin c).length : Int)).toNat]?).getD 0)) := by
      have e : (ansF (Ms.drop (Ms.length - i)) n).1 % ((kin c).length : Int) = ((((ansF (Ms.drop (Ms.length - i)) n).1 % ((kin c).length : Int)).toNat : Nat) : Int) := by omega
      have hl : ((ansF (Ms.drop (Ms.length - i)) n).1 % ((kin c).length : Int)).toNat < (kin c).length := by omega
      conv => lhs; rw [e]
      rw [atI_nat, List.getElem?_map, List.getElem?_eq_getElem hl]
      rfl
    unfold LF_custom_at_1
    simp -dsimp (decide := true) [zk, show (kin c).length ≤ 1000000 by omega, hp, show ((kin c).length : Int) < 1073741824 by omega, at', al, show Ms.length - (Ms.length - i) ≤ 1000000 by omega]
    refine Hi_i ⟨?_, ?_⟩
    · rw [dr]; rfl
    · rw [dr]
      simp [ansF]
  · rintro _ _ ⟨rfl, rfl⟩
    have e0 : Ms.length - (tIs Ms).reverse.length = 0 := by rw [List.length_reverse, hlen]; omega
    rw [e0, List.drop_zero]
    have al := ansF_len n Ms
    simp -dsimp (decide := true) [mk]
end FCL

set_option Elab.async false
set_option linter.all false
set_option maxRecDepth 100000
set_option maxHeartbeats 4000000
namespace FCL
open PySem PySem.Spec L2 FC
/-! ### numbers that are none -/
open FCP (allp Nn mem_allp)
def nmD (n : Int) : Dv := .tup [.int n, .bl true, .bl true, .bl false]
theorem x_at (q k n : Int) (ms : List Int) (S : Store) (nn : Nn ms) (ne : ms ≠ []) (hl : ms.length ≤ 100) (hb : (allp ms (k + 1)).length ≤ 100000) (hn : ¬ (0 ≤ n ∧ n < cntC (allp ms (k + 1)))) : F_custom_at [hsD q k ms, .int n] S = some (.exc "BadNumber" [("number", .int n)] S) := by
  have zc := fun S => z_count q k ms S nn ne hl hb
  refine w_defX ?_ rfl
  unfold fsF_custom_at
  by_cases h0 : 0 ≤ n
  · have h1 : ¬ n < cntC (allp ms (k + 1)) := fun h => hn ⟨h0, h⟩
    simp -dsimp (decide := true) [zc, h0, h1]
  · simp -dsimp (decide := true) [h0]
theorem rf_number (q k n : Int) (ms : List Int) (S : Store) (nn : Nn ms) (ne : ms ≠ []) (hl : ms.length ≤ 100) (hb : (allp ms (k + 1)).length ≤ 100000) (hn : ¬ (0 ≤ n ∧ n < cntC (allp ms (k + 1)))) : F__law_refused_number [hsD q k ms, .int n] S = some (.ok (nmD n) S) := by
  have hx := fun S => x_at q k n ms S nn ne hl hb hn
  refine w_defP ?_ rfl
  unfold fsF__law_refused_number
  simp -dsimp (decide := true) [hx, nmD, cnL]
end FCL

set_option Elab.async false
set_option linter.all false
set_option maxRecDepth 100000
set_option maxHeartbeats 4000000
namespace FCL
open PySem PySem.Spec L2 FC
/-! ### draws of any size -/
theorem g_drawB {j k : Nat} {S0 S : Store} (m : Int) (h : PlS j k S0 S) (hk : k ≤ 1000000) (hm : 0 < m) (hm2 : m.natAbs.log2 < 9000) : ∃ v S', F__law_draw [.obj j, .int m] S = some (.ok (.int v) S') ∧ 0 ≤ v ∧ v < m ∧ PlS j (k + 1) S0 S' := by
  have h0 := h
  obtain ⟨d, ⟨a, b, c, ha, hb, hbk, hc, hc2, rfl⟩, hj, rfl⟩ := h
  obtain ⟨v, S', hB, hv0, hv1, hP⟩ : ∃ v S', bodyF 6 fsF__law_draw [.obj j, .int m] (S0.set j (.lst [.int a, .int b, .int c])) = some (.ok (.int v) S') ∧ 0 ≤ v ∧ v < m ∧ PlS j (k + 1) S0 S' := by
    have e0 : atI [Dv.int a, Dv.int (b + 1), Dv.int c] 0 = some (.int a) := rfl
    have e1 : atI [Dv.int a, Dv.int (b + 1), Dv.int c] 1 = some (.int (b + 1)) := rfl
    have e2 : atI [Dv.int a, Dv.int (b + 1), Dv.int c] 2 = some (.int c) := rfl
    have f1 : atI [Dv.int a, Dv.int b, Dv.int c] 1 = some (.int b) := rfl
    have x0 : ixN 3 0 = some 0 := rfl
    have x1 : ixN 3 1 = some 1 := rfl
    by_cases z : 0 < a
    · refine ⟨a % m, S0.set j (.lst [.int (a / m), .int (b + 1), .int c]), ?_, Int.emod_nonneg _ (by omega), Int.emod_lt_of_pos _ hm, _, ⟨a / m, b + 1, c, Int.ediv_nonneg ha (by omega), by omega, by omega, hc, hc2, rfl⟩, hj, rfl⟩
      have hd : ∀ S, oDiv (.int a) (.int m) S = _ := fun S => oDiv_i hm hm2
      simp [fsF__law_draw, e0, e1, e2, f1, x0, x1, z, hm, hd, hj]
    · generalize hS : (S0.set j (Dv.lst [Dv.int a, Dv.int (b + 1), Dv.int c]) : Store) = S1
      have g0 : S1[j]? = some (Dv.lst [Dv.int a, Dv.int (b + 1), Dv.int c]) := by rw [← hS]; simp [hj]
      have m1 : oMul (.int c) (.int 7919) S1 = _ := oMul_b hc (by omega) (by decide) (by decide)
      have m2 : oMul (.int (b + 1)) (.int 104729) S1 = _ := oMul_b (by omega) (by omega) (by decide) (by decide)
      have m3 : oMul (.int (b + 1)) (.int 31) S1 = _ := oMul_b (by omega) (by omega) (by decide) (by decide)
      have m4 : oMul (.int (b + 1)) (.int (b + 1)) S1 = _ := oMul_b (by omega) (by omega) (by omega) (by omega)
      have d1 : ∀ i, oDiv (.int i) (.int 1000) S1 = _ := fun i => oDiv_b (by decide) (by decide)
      have d2 : ∀ i, oDiv (.int i) (.int 1009) S1 = _ := fun i => oDiv_b (by decide) (by decide)
      have d3 : ∀ i, oDiv (.int i) (.int 7) S1 = _ := fun i => oDiv_b (by decide) (by decide)
      generalize hx : (c * 7919 + (b + 1) * 104729 + 12345) % 1000003 = x
      have hx0 : 0 ≤ x ∧ x < 1000003 := by omega
      have m5 : oMul (.int x) (.int x) S1 = _ := oMul_b hx0.1 (by omega) hx0.1 (by omega)
      generalize hy : (x * x + (b + 1) * 31 + c / 1000 + 7) % 998244353 = y
      have hy0 : 0 ≤ y ∧ y < 998244353 := by rw [← hy]; exact ⟨Int.emod_nonneg _ (by decide), Int.emod_lt_of_pos _ (by decide)⟩
      have m6 : oMul (.int y) (.int 48271) S1 = _ := oMul_b hy0.1 (by omega) (by decide) (by decide)
      refine ⟨(y * 48271 + y / 1009 + (b + 1) * (b + 1)) % 2147483647 / 7 % m, S1, ?_, Int.emod_nonneg _ (by omega), Int.emod_lt_of_pos _ hm, _, ⟨a, b + 1, c, ha, by omega, by omega, hc, hc2, rfl⟩, hj, hS.symm⟩
      simp [fsF__law_draw, e0, e1, e2, f1, x0, x1, z, hm, hS, g0, m1, m2, m3, m4, hx, m5, d1, hy, m6, d2, d3, hj]
  refine ⟨v, S', ?_, hv0, hv1, hP⟩
  show gcR _ (bodyF 6 fsF__law_draw _ _) = _
  rw [hB]
  exact gcR_okS (hP.st _ h0) (by rw [hP.len]; simp) rfl
theorem w_drawB {S0 L : Store} {d : Dv} {j k : Nat} {m : Int} {Q : Rs Dv → Prop} (hj : j < S0.length) (hp : Pool k d) (hk : k ≤ 1000000) (hm : 0 < m) (hm2 : m.natAbs.log2 < 9000) (h : ∀ (v : Int) (d' : Dv), 0 ≤ v → v < m → Pool (k + 1) d' → Q (.ok (.int v) (stP S0 j d' L))) : We (F__law_draw [.obj j, .int m] (stP S0 j d L)) Q := by
  have P0 : PlS j k (S0 ++ L) (stP S0 j d L) := ⟨d, hp, by simp; omega, by unfold stP; rw [List.set_append_left _ _ hj]⟩
  obtain ⟨v, S', e, v0, v1, d', hp', _, rfl⟩ := g_drawB m P0 hk hm hm2
  refine We_ok e ?_
  rw [show (S0 ++ L).set j d' = stP S0 j d' L by unfold stP; rw [List.set_append_left _ _ hj]]
  exact h v d' v0 v1 hp'
theorem w_pool {ns : List Int} {k : Nat} {S : Store} {Q : Rs Dv → Prop} (hn : ns.length ≤ 63) (h : ∀ d, Pool 0 d → Q (.ok (.obj S.length) (S ++ [d]))) : We (M__law_pool [.lst (ns.map .int), .int k] S) Q := by
  obtain ⟨d, h1, h2⟩ := g_pool ns k S hn
  exact We_ok h2 (h d h1)
/-! ### houses that may be -/
def VH (q k : Int) (ms : List Int) : Prop := 1 ≤ q ∧ q ≤ 6 ∧ 1 ≤ k ∧ k ≤ 5 ∧ (ms.length : Int) = q ∧ ∀ m ∈ ms, 1 ≤ m ∧ m ≤ 1000000000000000000
theorem VH.nn {q k : Int} {ms : List Int} (h : VH q k ms) : FCP.Nn ms := fun m hm => by have := (h.2.2.2.2.2 m hm).1; omega
theorem VH.len {q k : Int} {ms : List Int} (h : VH q k ms) : ms.length ≤ 6 := by have := h.2.1; have := h.2.2.2.2.1; omega
theorem VH.ne {q k : Int} {ms : List Int} (h : VH q k ms) : ms ≠ [] := fun e => by subst e; have := h.1; have := h.2.2.2.2.1; simp at this; omega
theorem VH.word {q k : Int} {ms : List Int} (h : VH q k ms) : wordH q k ms = none ∧ bnds q ms = ms := by
  obtain ⟨h1, h2, h3, h4, h5, h6⟩ := h
  constructor
  · unfold wordH
    rw [if_neg (by omega), if_neg (by omega), if_neg (by omega), if_neg]
    intro z
    obtain ⟨m, hm, hb⟩ := List.any_eq_true.1 z
    have := h6 m hm
    simp [badM, this.1, this.2] at hb
  · unfold bnds
    rw [if_neg]
    intro z
    subst z
    simp at h5
    omega
theorem mk_ok {q k : Int} {ms : List Int} (h : VH q k ms) (S : Store) : gcR S (mkR F_House___init__ "House" (fun o => [o, .int q, .int k, tIn ms]) S) = some (.ok (hsD q k ms) S) := by
  have e := mk_house q k ms S (by have := h.len; omega)
  unfold mkH at e
  rw [h.word.1, h.word.2] at e
  exact e
/-! ### how many meetings -/
def cb : Nat → Nat → Nat
  | 0 => fun n => if n = 0 then 1 else 0
  | q + 1 => fun n => ((List.range (n + 1)).map fun k => cb q (n - k)).sum
theorem cb_pre (q n : Nat) : ∀ m, m ≤ n + 1 → ((List.range m).map fun k => cb q (n - k)).sum ≤ ((List.range (n + 1)).map fun k => cb q (n - k)).sum := by
  intro m hm
  obtain ⟨t, ht⟩ : ∃ t, n + 1 = m + t := ⟨n + 1 - m, by omega⟩
  rw [ht, List.range_add, List.map_append, List.sum_append]
  omega
open FCP (allp Nn mem_allp) in
theorem allp_cb : ∀ (cs : List Int) (n : Nat), (allp cs n).length ≤ cb cs.length n
  | [], n => by
    unfold allp
    cases n with
    | zero => simp [cb]
    | succ n => rw [if_neg (by omega)]; simp
  | c :: cs, n => by
    have h : ∀ m : Nat, m ≤ n + 1 → ((FC.upTo 0 m).flatMap fun k => (allp cs ((n : Int) - k)).map (k :: ·)).length ≤ ((List.range m).map fun k => cb cs.length (n - k)).sum := by
      intro m
      induction m with
      | zero => intro _; simp [FC.upTo]
      | succ m ih =>
        intro hm
        have h1 := ih (by omega)
        have h2 := allp_cb cs (n - m)
        rw [FCP.upTo_add 0 m 1, List.flatMap_append, List.length_append, List.range_succ, List.map_append, List.sum_append]
        have e : FC.upTo (0 + (m : Int)) 1 = [(m : Int)] := by simp [FC.upTo]
        rw [e, List.flatMap_cons, List.flatMap_nil, List.append_nil, List.length_map, show ((n : Int) - (m : Int)) = ((n - m : Nat) : Int) by omega]
        simp only [List.map_cons, List.map_nil, List.sum_cons, List.sum_nil]
        omega
    have h1 := h (min c n + 1).toNat (by omega)
    have h2 := cb_pre cs.length n (min c n + 1).toNat (by omega)
    show ((FC.upTo 0 (min c (n : Int) + 1).toNat).flatMap _).length ≤ ((List.range (n + 1)).map fun k => cb cs.length (n - k)).sum
    omega
theorem cb462 : ∀ q, q ≤ 6 → ∀ n, n ≤ 6 → cb q n ≤ 462 := by decide +kernel
open FCP (allp) in
theorem VH.cnt {q k : Int} {ms : List Int} (h : VH q k ms) : (allp ms (k + 1)).length ≤ 462 := by
  have l := h.len
  obtain ⟨_, _, h3, h4, _⟩ := h
  have e : k + 1 = ((k + 1).toNat : Int) := by omega
  rw [e]
  exact Nat.le_trans (allp_cb ms _) (cb462 _ l _ (by omega))
end FCL

set_option Elab.async false
set_option linter.all false
set_option maxRecDepth 100000
set_option maxHeartbeats 4000000
namespace FCL
open PySem PySem.Spec L2 FC
/-! ### a house drawn -/
def hT (q k : Int) (ms : List Int) : Dv := .tup [.int q, .int k, tIn ms]
@[simp] theorem okO_hT {n q k ms} : okO n (hT q k ms) = true := by simp [hT]
theorem pairs16 {v : Int} (h0 : 0 ≤ v) (h1 : v < 16) : ∃ q c : Int, (1 ≤ q ∧ q ≤ 6 ∧ 1 ≤ c ∧ c ≤ 5) ∧ atI [Dv.tup [.int 2, .int 2], .tup [.int 3, .int 2], .tup [.int 3, .int 1], .tup [.int 4, .int 2], .tup [.int 2, .int 3], .tup [.int 4, .int 1], .tup [.int 3, .int 3], .tup [.int 5, .int 2], .tup [.int 2, .int 1], .tup [.int 5, .int 1], .tup [.int 3, .int 4], .tup [.int 1, .int 2], .tup [.int 2, .int 5], .tup [.int 5, .int 3], .tup [.int 6, .int 1], .tup [.int 6, .int 2]] v = some (.tup [.int q, .int c]) := by
  obtain ⟨rows, hrows⟩ : ∃ rows : List (Int × Int), rows = [(2, 2), (3, 2), (3, 1), (4, 2), (2, 3), (4, 1), (3, 3), (5, 2), (2, 1), (5, 1), (3, 4), (1, 2), (2, 5), (5, 3), (6, 1), (6, 2)] := ⟨_, rfl⟩
  have hlen : rows.length = 16 := by rw [hrows]; rfl
  obtain ⟨⟨q, ch⟩, hr⟩ : ∃ p, rows[v.toNat]? = some p := ⟨rows[v.toNat]'(by omega), List.getElem?_eq_getElem (by omega)⟩
  have hq : 1 ≤ q ∧ q ≤ 6 ∧ 1 ≤ ch ∧ ch ≤ 5 := by
    have := List.mem_of_getElem? hr
    rw [hrows] at this
    simp at this
    omega
  have ha : atI (rows.map fun p => Dv.tup [.int p.1, .int p.2]) v = some (.tup [.int q, .int ch]) := by
    rw [show v = ((v.toNat : Nat) : Int) by omega, atI_nat]
    simp [hr]
  rw [hrows] at ha
  simp only [List.map_cons, List.map_nil] at ha
  exact ⟨q, ch, hq, ha⟩
theorem lIn_snoc (xs : List Int) (x : Int) : Dv.lst (xs.map Dv.int ++ [.int x]) = lIn (xs ++ [x]) := by simp
def Lms (ms : List Int) : Prop := ∀ m ∈ ms, 1 ≤ m ∧ m ≤ 1000000000000000000
theorem Lms.add {ms : List Int} (h : Lms ms) {x : Int} (h1 : 1 ≤ x) (h2 : x ≤ 1000000000000000000) : Lms (ms ++ [x]) := fun m hm => by
  rcases List.mem_append.1 hm with z | z
  · exact h m z
  · simp at z; subst z; exact ⟨h1, h2⟩
theorem w_lhouse {S0 L : Store} {d : Dv} {j k : Nat} {Q : Rs Dv → Prop} (hj : j < S0.length) (hp : Pool k d) (hk : k ≤ 100000) (h : ∀ (q c : Int) (ms : List Int) (d' : Dv), VH q c ms → Pool (k + 20) d' → Q (.ok (hT q c ms) (stP S0 j d' L))) : We (F__law_house [.obj j] (stP S0 j d L)) Q := by
  refine w_defD (j := j) ?_
  unfold fsF__law_house
  simp -dsimp [oAddX, notTup]
  refine w_draw hj hp (by omega) (by decide) (by decide) fun v d1 v0 v1 p1 => ?_
  obtain ⟨q, c, hq, ha⟩ := pairs16 v0 v1
  simp -dsimp [ha]
  refine w_draw hj p1 (by omega) (by decide) (by decide) fun w d2 w0 w1 p2 => ?_
  have r1 : ∀ S, rng1 [.int q] S = some (.ok ((FC.upTo 0 q.toNat).map .int) S) := fun S => rng1_e (rngOk_of (by omega) (by omega))
  simp -dsimp [r1]
  have hcl : ((FC.upTo 0 q.toNat).map Dv.int).length = q.toNat := by simp [upTo_range]
  refine w_for (fun i env S => ∃ x ms d', env = [some (.obj j), x, some (.int q), some (.int c), some (.int w), some (.obj (S0.length + L.length)), none] ∧ S = stP S0 j d' (L ++ [lIn ms]) ∧ ms.length = i ∧ Lms ms ∧ Pool (k + 2 + i) d') ⟨_, [], d2, rfl, rfl, rfl, by simp [Lms], p2⟩ ?_ ?_
  · rintro i y _ _ hi ⟨x, ms, d3, rfl, rfl, rfl, hms, p3⟩
    have hi2 := (List.getElem?_eq_some_iff.1 hi).1
    rw [hcl] at hi2
    unfold LF__law_house_1
    by_cases z1 : w = 0
    · by_cases z2 : c + 2 ≤ q
      · simp -dsimp [decide_eq_true z1, z2, show ms.length ≤ 1000000 by omega]
        exact Hi_i ⟨_, ms ++ [1], d3, rfl, by rw [lIn_snoc], by simp, hms.add (by decide) (by decide), p3.mono (by omega)⟩
      · simp -dsimp [decide_eq_true z1, z2, show w < 2 by omega]
        refine w_draw hj p3 (by omega) (by omega) (by have : (2 : Int) ^ 100 = 1267650600228229401496703205376 := rfl; omega) fun u d4 u0 u1 p4 => ?_
        simp -dsimp [show ms.length ≤ 1000000 by omega]
        exact Hi_i ⟨_, ms ++ [1 + u], d4, rfl, by rw [lIn_snoc], by simp, hms.add (by omega) (by omega), p4.mono (by omega)⟩
    · by_cases z3 : w < 2
      · simp -dsimp [z1, z3]
        refine w_draw hj p3 (by omega) (by omega) (by have : (2 : Int) ^ 100 = 1267650600228229401496703205376 := rfl; omega) fun u d4 u0 u1 p4 => ?_
        simp -dsimp [show ms.length ≤ 1000000 by omega]
        exact Hi_i ⟨_, ms ++ [1 + u], d4, rfl, by rw [lIn_snoc], by simp, hms.add (by omega) (by omega), p4.mono (by omega)⟩
      · simp -dsimp [z1, z3, show ms.length ≤ 1000000 by omega]
        exact Hi_i ⟨_, ms ++ [1000000000000000000], d3, rfl, by rw [lIn_snoc], by simp, hms.add (by decide) (by decide), p3.mono (by omega)⟩
  · rintro _ _ ⟨x, ms, d3, rfl, rfl, hl, hms, p3⟩
    rw [hcl] at hl p3
    simp -dsimp
    exact PD_end [lIn ms] p3 okO_hT (h q c ms d3 ⟨hq.1, hq.2.1, hq.2.2.1, hq.2.2.2, by omega, hms⟩ (p3.mono (by omega)))
theorem w_lany {S0 L : Store} {d : Dv} {j k : Nat} {Q : Rs Dv → Prop} (hj : j < S0.length) (hp : Pool k d) (hk : k ≤ 10000) (h : ∀ (q c : Int) (ms : List Int) (d' : Dv), VH q c ms → Pool (k + 30) d' → Q (.ok (hT q c ms) (stP S0 j d' L))) : We (F__law_any_house [.obj j] (stP S0 j d L)) Q := by
  refine w_defD (j := j) ?_
  unfold fsF__law_any_house
  simp -dsimp
  refine w_draw hj hp (by omega) (by decide) (by decide) fun v d1 v0 v1 p1 => ?_
  simp -dsimp
  refine Br_of (fun _ => ?_) (fun _ => ?_)
  · simp -dsimp
    refine w_lhouse hj p1 (by omega) fun q c ms d2 vh p2 => ?_
    simp -dsimp
    exact PD_end0 p2 okO_hT (h q c ms d2 vh (p2.mono (by omega)))
  · simp -dsimp
    refine w_draw hj p1 (by omega) (by decide) (by decide) fun q d2 q0 q1 p2 => ?_
    simp -dsimp
    refine w_draw hj p2 (by omega) (by decide) (by decide) fun c d3 c0 c1 p3 => ?_
    have r1 : ∀ S, rng1 [.int (1 + q)] S = some (.ok ((FC.upTo 0 (1 + q).toNat).map .int) S) := fun S => rng1_e (rngOk_of (by omega) (by omega))
    simp -dsimp [r1]
    have hcl : ((FC.upTo 0 (1 + q).toNat).map Dv.int).length = (1 + q).toNat := by simp [upTo_range]
    refine w_for (fun i env S => ∃ ms d', env = [some (.obj j), some (.int (1 + q)), some (.int (1 + c)), some (.obj (S0.length + L.length)), none] ∧ S = stP S0 j d' (L ++ [lIn ms]) ∧ ms.length = i ∧ Lms ms ∧ Pool (k + 3 + 2 * i) d') ⟨[], d3, rfl, rfl, rfl, by simp [Lms], p3⟩ ?_ ?_
    · rintro i y _ _ hi ⟨ms, d4, rfl, rfl, rfl, hms, p4⟩
      have hi2 := (List.getElem?_eq_some_iff.1 hi).1
      rw [hcl] at hi2
      unfold LF__law_any_house_1
      simp -dsimp
      refine w_draw hj p4 (by omega) (by decide) (by decide) fun t d5 t0 t1 p5 => ?_
      simp -dsimp
      refine Br_of (fun _ => ?_) (fun _ => ?_)
      · simp -dsimp
        refine w_draw hj p5 (by omega) (by decide) (by decide) fun u d6 u0 u1 p6 => ?_
        simp -dsimp [show ms.length ≤ 1000000 by omega]
        exact Hi_i ⟨ms ++ [1 + u], d6, rfl, by rw [lIn_snoc], by simp, hms.add (by omega) (by omega), p6.mono (by omega)⟩
      · simp -dsimp
        refine w_draw hj p5 (by omega) (by omega) (by have : (2 : Int) ^ 100 = 1267650600228229401496703205376 := rfl; omega) fun u d6 u0 u1 p6 => ?_
        simp -dsimp [show ms.length ≤ 1000000 by omega]
        exact Hi_i ⟨ms ++ [1 + u], d6, rfl, by rw [lIn_snoc], by simp, hms.add (by omega) (by omega), p6.mono (by omega)⟩
    · rintro _ _ ⟨ms, d4, rfl, rfl, hl, hms, p4⟩
      rw [hcl] at hl p4
      simp -dsimp
      exact PD_end [lIn ms] p4 okO_hT (h (1 + q) (1 + c) ms d4 ⟨by omega, by omega, by omega, by omega, by omega, hms⟩ (p4.mono (by omega)))
end FCL

set_option Elab.async false
set_option linter.all false
set_option maxRecDepth 100000
set_option maxHeartbeats 4000000
namespace FCL
open PySem PySem.Spec L2 FC
/-! ### a table drawn -/
open FCP (allp Nn mem_allp)
theorem kin_rng (c : List Int) : ((upTo 0 c.length).filter fun i => decide (0 < (c[i.toNat]?).getD 0)) = kin c := by
  unfold kin
  have gen : ∀ (n : Nat) (d : List Int), (∀ j, c[n + j]? = d[j]?) → (upTo (n : Int) d.length).filter (fun i => decide (0 < (c[i.toNat]?).getD 0)) = (((upTo (n : Int) d.length).zip d).filter fun p => decide (0 < p.2)).map Prod.fst := by
    intro n d
    induction d generalizing n with
    | nil => intro _; rfl
    | cons x d ih =>
      intro h
      have e0 : upTo (n : Int) (x :: d).length = (n : Int) :: upTo ((n + 1 : Nat) : Int) d.length := by
        unfold FC.upTo
        rw [List.length_cons, List.range_succ_eq_map, List.map_cons, List.map_map]
        simp
        intro a _
        omega
      have h0 := h 0
      simp at h0
      have ih := ih (n + 1) fun j => by rw [show n + 1 + j = n + (j + 1) by omega, h]; rfl
      rw [e0, List.zip_cons_cons, List.filter_cons, List.filter_cons, ih]
      simp only [Int.toNat_natCast, h0, Option.getD_some]
      by_cases z : 0 < x
      · simp [z]
      · simp [z]
  have := gen 0 c fun j => by rw [Nat.zero_add]
  simpa using this
@[simp ↓] theorem w_sDput {fo fk fe : FE} {env : DEnv} {S : Store} {P : Rf → Prop} : Ws (sDput fo fk fe env S) P = We (fe env S) (sbK (fun v => sBnd fo fun o => sBnd fk fun k => fun env S => match setD o k v S with
  | some S' => some (.nx env S')
  | none => none) env P) := Ws_bnd
theorem zip_fsG {κ : Type} : ∀ kvs : List (κ × Dv), (kvs.map Prod.fst).zip (kvs.map Prod.snd) = kvs
  | [] => rfl
  | (a, b) :: r => by rw [List.map_cons, List.map_cons, List.zip_cons_cons, zip_fsG r]
theorem fzd_objt {n f k : Nat} {S : Store} {kvs : List (List Key × Dv)} (hk : n ≤ k) (hS : S[k]? = some (.dit kvs)) (h : okOs n (kvs.map Prod.snd) = true) : fzd n S (f + 1) (.obj k) = some (.dit kvs) := by
  unfold fzd
  rw [if_neg (by rw [okO_obj, decide_eq_true_eq]; omega)]
  simp only [hS, fzs_ok0 h]
  rw [zip_fsG]
/-- a def that draws, whose answer is a dict made on the way -/
def PT (S0 : Store) (j : Nat) (L : List Dv) (Q : Rs Dv → Prop) (r : Rs Dv) : Prop := ∃ xs d' k i G, r = .ok (.obj (S0.length + (L.length + i))) (stP S0 j d' (L ++ G)) ∧ G[i]? = some (.dit xs) ∧ Pool k d' ∧ okOs (S0.length + L.length) (xs.map Prod.snd) = true ∧ Q (.ok (.dit xs) (stP S0 j d' L))
theorem PT_end0 {S0 : Store} {j k : Nat} {L : List Dv} {Q : Rs Dv → Prop} {d : Dv} {xs : List (List Key × Dv)} (G : List Dv) (hp : Pool k d) (hv : okOs (S0.length + L.length) (xs.map Prod.snd) = true) (hQ : Q (.ok (.dit xs) (stP S0 j d L))) : PT S0 j L Q (.ok (.obj (S0.length + L.length)) (stP S0 j d (L ++ .dit xs :: G))) := ⟨xs, d, k, 0, _, rfl, rfl, hp, hv, hQ⟩
theorem w_defDT {n : Nat} {fs : FS} {ds : List Dv} {S0 L : Store} {j : Nat} {d : Dv} {Q : Rs Dv → Prop} (h : Ws (fs (ds.map some ++ List.replicate (n - ds.length) none) (stP S0 j d L)) (bdK (PT S0 j L Q))) : We (gcD (bodyF n fs) ds (stP S0 j d L)) Q := by
  rw [← w_body] at h
  obtain ⟨_, h, xs, d', k, i, G, rfl, h0, h1, h2, h3⟩ := h
  refine We_ok ?_ h3
  show gcR _ (bodyF n fs ds _) = _
  rw [h]
  unfold gcR
  have e1 : fzd (stP S0 j d L).length (stP S0 j d' (L ++ G)) 6 (.obj (S0.length + (L.length + i))) = some (.dit xs) := by
    refine fzd_objt (by simp) ?_ (by simpa using h2)
    rw [stP_get, app_get, h0]
  simp only [if_pos (stP_ok (S0 := S0) (L := L) (G := G) (j := j) (d := d) h1), e1]
  rw [show stP S0 j d' (L ++ G) = stP S0 j d' L ++ G by simp, List.take_append_of_le_length (by simp), List.take_of_length_le (by simp)]
/-- answers that may be -/
structure AnsOk (Ms : List (List Int)) (as : List Int) : Prop where
  l : as.length = Ms.length
  i : ∀ (i : Nat) (c : List Int) (a : Int), Ms[i]? = some c → as[i]? = some a → a ∈ kin c
theorem AnsOk.cs {q k : Int} {ms as : List Int} (vh : VH q k ms) (h : AnsOk (allp ms (k + 1)) as) : CsOk q k ms as := ⟨vh.nn, vh.ne, by have := vh.len; omega, by have := vh.cnt; omega, h.l.symm, h.i⟩
theorem AnsOk.add {Ms : List (List Int)} {as : List Int} {i : Nat} {c : List Int} {a : Int} (h : AnsOk (Ms.take i) as) (hc : Ms[i]? = some c) (ha : a ∈ kin c) : AnsOk (Ms.take (i + 1)) (as ++ [a]) := by
  have il := (List.getElem?_eq_some_iff.1 hc).1
  have hl := h.l
  rw [List.length_take] at hl
  refine ⟨by simp; omega, fun j d b h1 h2 => ?_⟩
  rw [List.getElem?_take] at h1
  by_cases z : j < i
  · rw [if_pos (by omega)] at h1
    rw [List.getElem?_append_left (by omega)] at h2
    exact h.i j d b (by rw [List.getElem?_take, if_pos z]; exact h1) h2
  · by_cases y : j = i
    · subst y
      rw [if_pos (by omega), hc] at h1
      rw [List.getElem?_append_right (by omega), show j - as.length = 0 by omega] at h2
      simp at h1 h2
      subst h1 h2
      exact ha
    · rw [if_neg (by omega)] at h1
      cases h1
theorem zip_take_add {Ms : List (List Int)} {as : List Int} {i : Nat} {c : List Int} {a : Int} (hl : as.length = (Ms.take i).length) (hc : Ms[i]? = some c) : (Ms.take (i + 1)).zip (as ++ [a]) = (Ms.take i).zip as ++ [(c, a)] := by
  rw [List.take_add_one, hc, List.zip_append hl.symm]
  rfl
theorem VH.m {q k : Int} {ms c : List Int} (h : VH q k ms) (hc : c ∈ allp ms (k + 1)) : c.length = ms.length ∧ kin c ≠ [] ∧ (kin c).length ≤ 6 := by
  have a1 := (allp_ne hc h.ne).2
  have a2 := kin_len c
  have a3 := (mem_allp hc).2.1
  have := h.len
  have := h.2.2.1
  exact ⟨a1, kin_ne (by omega), by omega⟩
theorem VH.parts {q k : Int} {ms : List Int} (h : VH q k ms) (S : Store) : F__law_parts [tIn ms, .int (k + 1)] S = some (.ok (.lst (tIs (allp ms (k + 1)))) S) := by
  have l := h.len
  have h3 := h.2.2.1
  have h4 := h.2.2.2.1
  have e : k + 1 = ((k + 1).toNat : Int) := by omega
  rw [e]
  exact z_parts ms (k + 1).toNat S h.nn (by omega)
theorem at_kin {c : List Int} {v : Int} (h0 : 0 ≤ v) (h1 : v < ((kin c).length : Int)) : ∃ a, a ∈ kin c ∧ atI ((kin c).map Dv.int) v = some (.int a) := by
  have hn : v.toNat < (kin c).length := by omega
  refine ⟨(kin c)[v.toNat], List.getElem_mem hn, ?_⟩
  have e := atI_nat ((kin c).map Dv.int) v.toNat
  rw [show ((v.toNat : Nat) : Int) = v by omega] at e
  rw [e]
  simp [hn]
theorem w_table {S0 L : Store} {d : Dv} {j k : Nat} {q c : Int} {ms : List Int} {Q : Rs Dv → Prop} (hj : j < S0.length) (hp : Pool k d) (hk : k ≤ 100000) (vh : VH q c ms) (h : ∀ (as : List Int) (d' : Dv), AnsOk (allp ms (c + 1)) as → Pool (k + 500) d' → Q (.ok (goesD (allp ms (c + 1)) as) (stP S0 j d' L))) : We (F__law_table [.obj j, tIn ms, .int c] (stP S0 j d L)) Q := by
  have zp := fun S => vh.parts S
  have cn := vh.cnt
  have nd := allp_nodup ms (c + 1)
  have hm := fun x hx => vh.m (c := x) hx
  have hr : ∀ S, rng1 [.int (ms.length : Int)] S = some (.ok ((FC.upTo 0 ms.length).map .int) S) := fun S => rng1_len (by have := vh.len; omega)
  have hne := fun x hx => (allp_ne (c := x) (ms := ms) (n := c + 1) hx vh.ne).1
  have ml := vh.len
  refine w_defDT (j := j) ?_
  unfold fsF__law_table
  simp -dsimp [zp]
  generalize allp ms (c + 1) = Ms at *
  have htl : (tIs Ms).length = Ms.length := List.length_map _
  refine w_for (fun i env S => ∃ as d', env = [some (.obj j), some (tIn ms), some (.int c), some (.obj (S0.length + L.length)), none, none, none] ∧ S = stP S0 j d' (L ++ [.dit (((Ms.take i).zip as).map fun p => (rk p.1, .int p.2))]) ∧ AnsOk (Ms.take i) as ∧ Pool (k + i) d') ⟨[], d, rfl, by simp, ⟨by simp, by simp⟩, hp⟩ ?_ ?_
  · rintro i y _ _ hy ⟨as, d1, rfl, rfl, ha, p1⟩
    have hy' : (Ms.map tIn)[i]? = some y := hy
    rw [List.getElem?_map, Option.map_eq_some_iff] at hy'
    obtain ⟨m, hm1, rfl⟩ := hy'
    have il := (List.getElem?_eq_some_iff.1 hm1).1
    have mm := List.mem_of_getElem? hm1
    obtain ⟨l1, l2, l3⟩ := hm m mm
    have hp : 0 < (kin m).length := List.length_pos_iff.2 l2
    have rw' := rowD_tIn (hne m mm)
    unfold LF__law_table_1
    simp -dsimp [hr]
    refine w_lc Dv.int (fun i => decide (0 < (m[i.toNat]?).getD 0)) Dv.int (FC.upTo 0 ms.length) (by simp [upTo_range]; omega) (fun x hx => ?_) ?_
    · obtain ⟨t, ht, rfl⟩ := mem_upTo hx
      have g : atI (m.map Dv.int) (t : Int) = some (.int ((m[t]?).getD 0)) := by
        rw [atI_nat, List.getElem?_map, List.getElem?_eq_getElem (by omega)]
        rfl
      simp -dsimp [g]
    rw [← l1, kin_rng]
    simp -dsimp [show (kin m).length ≤ 1000000 by omega]
    refine w_draw hj p1 (by omega) (by omega) (by have : (2 : Int) ^ 100 = 1267650600228229401496703205376 := rfl; omega) fun v d2 v0 v1 p2 => ?_
    obtain ⟨a, ha1, ha2⟩ := at_kin v0 v1
    have hnew : rk m ∉ (((Ms.take i).zip as).map fun p => (rk p.1, Dv.int p.2)).map Prod.fst := by
      rw [List.map_map]
      intro z
      obtain ⟨p, hp1, hp2⟩ := List.mem_map.1 z
      have e : p.1 = m := rk_inj hp2
      have := (List.of_mem_zip (show (p.1, p.2) ∈ _ from hp1)).1
      rw [e] at this
      obtain ⟨t, ht, e2⟩ := List.getElem_of_mem this
      rw [List.length_take] at ht
      rw [List.getElem_take] at e2
      rw [List.getElem?_eq_getElem il] at hm1
      have := (List.getElem_inj (i := t) (j := i) (h₀ := by omega) (h₁ := il) nd).1 (e2.trans (Option.some.inj hm1).symm)
      omega
    have hz : ((((Ms.take i).zip as).map fun p => (rk p.1, Dv.int p.2))).length ≤ big := by
      have : big = 1000000 := rfl
      rw [List.length_map, List.length_zip, List.length_take]
      omega
    have hput := putD2_new (y := Dv.int a) hnew
    simp -dsimp [-List.map_map, -List.length_map, -List.length_zip, -FC.setD, ha2]
    have sd : setD (.obj (S0.length + L.length)) (tIn m) (.int a) (stP S0 j d2 (L ++ [.dit (((Ms.take i).zip as).map fun p => (rk p.1, .int p.2))])) = some (stP S0 j d2 (L ++ [.dit (((Ms.take (i + 1)).zip (as ++ [a])).map fun p => (rk p.1, .int p.2))])) := by
      have g : (stP S0 j d2 (L ++ [.dit (((Ms.take i).zip as).map fun p => (rk p.1, .int p.2))]))[S0.length + L.length]? = some (.dit (((Ms.take i).zip as).map fun p => (rk p.1, .int p.2))) := by rw [stP_get]; simp
      unfold setD
      simp only [g, rw', if_pos hz, hput]
      rw [stP_set, app_set0, zip_take_add ha.l hm1, List.map_append]
      rfl
    rw [sd]
    simp -dsimp
    exact Hi_i ⟨as ++ [a], d2, rfl, rfl, ha.add hm1 ha1, p2.mono (by omega)⟩
  · rintro _ _ ⟨as, d1, rfl, rfl, ha, p1⟩
    rw [htl, List.take_of_length_le (Nat.le_refl _)] at *
    simp -dsimp
    refine PT_end0 [] p1 ?_ (h as d1 ha (p1.mono (by omega)))
    have := goes_okO (S0.length + L.length) Ms as
    unfold goesD at this
    rw [okO_dit] at this
    exact this
end FCL

set_option Elab.async false
set_option linter.all false
set_option maxRecDepth 100000
set_option maxHeartbeats 4000000
namespace FCL
open PySem PySem.Spec L2 FC
/-! ### the law's own number of answers -/
open FCP (allp Nn mem_allp)
def cntR : List (List Int) → Int
  | [] => 1
  | c :: Ms => cntR Ms * ((kin c).length : Int)
def numR : List (List Int × Int) → Int
  | [] => 0
  | p :: ps => numR ps + cntR (ps.map Prod.fst) * ((kin p.1).idxOf p.2 : Nat)
theorem cntC_R : ∀ (Ms : List (List Int)) (n : Int), Ms.foldl (fun n c => n * ((kin c).length : Int)) n = n * cntR Ms
  | [], n => by simp [cntR]
  | c :: Ms, n => by
    rw [List.foldl_cons, cntC_R Ms, cntR, Int.mul_assoc, Int.mul_comm (cntR Ms)]
theorem cntC_eq (Ms : List (List Int)) : cntC Ms = cntR Ms := by
  unfold cntC
  rw [cntC_R, Int.one_mul]
theorem numF_R : ∀ (ps : List (List Int × Int)) (n : Int), ps.foldl numS n = n * cntR (ps.map Prod.fst) + numR ps
  | [], n => by simp [cntR, numR]
  | p :: ps, n => by
    rw [List.foldl_cons, numF_R ps, List.map_cons, cntR, numR]
    unfold numS
    rw [Int.add_mul, Int.mul_assoc n, Int.mul_comm ((kin p.1).length : Int), Int.mul_comm (((kin p.1).idxOf p.2 : Nat) : Int)]
    omega
theorem numF_eq (ps : List (List Int × Int)) : numF ps = numR ps := by
  unfold numF
  rw [numF_R, Int.zero_mul, Int.zero_add]
theorem cntR_le : ∀ {Ms : List (List Int)}, (∀ c ∈ Ms, (kin c).length ≤ 6) → 0 ≤ cntR Ms ∧ cntR Ms ≤ 8 ^ Ms.length
  | [], _ => by simp [cntR]
  | c :: Ms, h => by
    have ih := cntR_le fun d hd => h d (List.mem_cons_of_mem _ hd)
    have hc := h c List.mem_cons_self
    refine ⟨Int.mul_nonneg ih.1 (by omega), ?_⟩
    rw [cntR, List.length_cons, Int.pow_succ]
    exact Int.mul_le_mul ih.2 (by omega) (by omega) (by exact_mod_cast Nat.zero_le _)
theorem cntR_pos : ∀ {Ms : List (List Int)}, (∀ c ∈ Ms, kin c ≠ []) → 0 < cntR Ms
  | [], _ => by simp [cntR]
  | c :: Ms, h => by
    have ih := cntR_pos fun d hd => h d (List.mem_cons_of_mem _ hd)
    have hp : 0 < (kin c).length := List.length_pos_iff.2 (h c List.mem_cons_self)
    exact Int.mul_pos ih (by omega)
theorem numR_lt : ∀ {ps : List (List Int × Int)}, (∀ p ∈ ps, p.2 ∈ kin p.1) → 0 ≤ numR ps ∧ numR ps < cntR (ps.map Prod.fst)
  | [], _ => by simp [numR, cntR]
  | p :: ps, h => by
    have ih := numR_lt fun q hq => h q (List.mem_cons_of_mem _ hq)
    have hj : (kin p.1).idxOf p.2 < (kin p.1).length := List.idxOf_lt_length_iff.2 (h p List.mem_cons_self)
    rw [numR, List.map_cons, cntR]
    generalize (kin p.1).idxOf p.2 = i at *
    generalize (kin p.1).length = l at *
    generalize cntR (ps.map Prod.fst) = w at *
    have a1 : 0 ≤ w * (i : Int) := Int.mul_nonneg (by omega) (by omega)
    have a2 : w * ((i : Int) + 1) ≤ w * (l : Int) := Int.mul_le_mul_of_nonneg_left (by omega) (by omega)
    rw [Int.mul_add, Int.mul_one] at a2
    omega
theorem big8 {i : Nat} (hi : i ≤ 462) {x : Int} (h0 : 0 ≤ x) (h : x ≤ 8 ^ i) : x.natAbs.log2 < 1388 := by
  refine log2_lt (k := 3 * i + 1) ?_ (by omega) (by omega)
  have e : ((8 ^ i : Nat) : Int) = (8 : Int) ^ i := by simp
  have h1 : x.natAbs ≤ 8 ^ i := by
    have : ((x.natAbs : Nat) : Int) ≤ ((8 ^ i : Nat) : Int) := by rw [Int.natAbs_of_nonneg h0, e]; exact h
    omega
  have h2 : 8 ^ i = 2 ^ (3 * i) := by rw [Nat.pow_mul]
  rw [Nat.pow_succ, ← h2]
  have : 0 < 8 ^ i := Nat.pow_pos (by decide)
  omega
/-- what bounds the meetings of a house -/
structure MsOk (Ms : List (List Int)) : Prop where
  l : Ms.length ≤ 462
  k : ∀ c ∈ Ms, c.length ≤ 6 ∧ kin c ≠ [] ∧ (kin c).length ≤ 6
theorem VH.ms {q k : Int} {ms : List Int} (h : VH q k ms) : MsOk (allp ms (k + 1)) := ⟨h.cnt, fun c hc => by
  have e := h.m hc
  have := h.len
  exact ⟨by omega, e.2.1, e.2.2⟩⟩
theorem MsOk.drop {Ms : List (List Int)} (h : MsOk Ms) (i : Nat) : MsOk (Ms.drop i) := ⟨by rw [List.length_drop]; have := h.l; omega, fun c hc => h.k c (List.mem_of_mem_drop hc)⟩
theorem MsOk.cnt {Ms : List (List Int)} (h : MsOk Ms) : 0 < cntR Ms ∧ (cntR Ms).natAbs.log2 < 1388 := ⟨cntR_pos fun c hc => (h.k c hc).2.1, by
  have := cntR_le fun c hc => (h.k c hc).2.2
  exact big8 h.l this.1 this.2⟩
theorem idx_l {a : Int} {c : List Int} (h : a ∈ c) : c.idxOf? a = some (c.idxOf a) := idx_some h
theorem dropZip {α β : Type} : ∀ (n : Nat) (xs : List α) (ys : List β), (xs.zip ys).drop n = (xs.drop n).zip (ys.drop n)
  | 0, _, _ => rfl
  | n + 1, [], _ => by simp
  | n + 1, _ :: _, [] => by simp
  | n + 1, x :: xs, y :: ys => by simp [dropZip n xs ys]
theorem z_lnum (Ms : List (List Int)) (as : List Int) (S : Store) (hM : MsOk Ms) (ha : AnsOk Ms as) : F__law_number [.lst (tIs Ms), lIn as] S = some (.ok (.tup [.int (numR (Ms.zip as)), .int (cntR Ms)]) S) := by
  have htl : (tIs Ms).length = Ms.length := List.length_map _
  have al := ha.l
  have ml := hM.l
  have r1 : ∀ S, rng1 [.int (Ms.length : Int)] S = some (.ok ((FC.upTo 0 Ms.length).map .int) S) := fun S => rng1_len (by omega)
  refine w_defP ?_ rfl
  unfold fsF__law_number
  simp -dsimp [htl, r1, show Ms.length ≤ 1000000 by omega]
  refine w_for (fun i env S' => env = [some (.lst (tIs Ms)), some (lIn as), some (.int (numR ((Ms.zip as).drop (Ms.length - i)))), some (.int (cntR (Ms.drop (Ms.length - i)))), none, none, none] ∧ S' = S) ⟨by rw [Nat.sub_zero, List.drop_of_length_le (l := Ms.zip as) (by rw [List.length_zip]; omega), List.drop_length]; rfl, rfl⟩ ?_ ?_
  · rintro i y _ _ hy ⟨rfl, rfl⟩
    rw [List.getElem?_map, Option.map_eq_some_iff] at hy
    obtain ⟨x, hx, rfl⟩ := hy
    have il := (List.getElem?_eq_some_iff.1 hx).1
    have iu : (FC.upTo 0 Ms.length).length = Ms.length := by simp [upTo_range]
    rw [iu] at il
    have ex : x = (i : Int) := by
      have := upTo_at (lo := 0) il
      rw [this] at hx
      have := Option.some.inj hx
      omega
    subst ex
    have jl : Ms.length - (i + 1) < Ms.length := by omega
    have hc : Ms[Ms.length - (i + 1)]? = some Ms[Ms.length - (i + 1)] := List.getElem?_eq_getElem jl
    have hb : as[Ms.length - (i + 1)]? = some (as[Ms.length - (i + 1)]'(by omega)) := List.getElem?_eq_getElem (by omega)
    have mem := ha.i _ _ _ hc hb
    have mk := hM.k _ (List.mem_of_getElem? hc)
    have dM : Ms.drop (Ms.length - (i + 1)) = Ms[Ms.length - (i + 1)] :: Ms.drop (Ms.length - i) := by
      rw [List.drop_eq_getElem_cons jl, show Ms.length - (i + 1) + 1 = Ms.length - i by omega]
    have dA : as.drop (Ms.length - (i + 1)) = as[Ms.length - (i + 1)]'(by omega) :: as.drop (Ms.length - i) := by
      rw [List.drop_eq_getElem_cons (by omega), show Ms.length - (i + 1) + 1 = Ms.length - i by omega]
    have dZ : (Ms.zip as).drop (Ms.length - (i + 1)) = (Ms[Ms.length - (i + 1)], as[Ms.length - (i + 1)]'(by omega)) :: (Ms.zip as).drop (Ms.length - i) := by
      rw [dropZip, dropZip, dM, dA, List.zip_cons_cons]
    have fz : ((Ms.zip as).drop (Ms.length - i)).map Prod.fst = Ms.drop (Ms.length - i) := by
      rw [dropZip, zip_fst (by rw [List.length_drop, List.length_drop]; omega)]
    generalize Ms[Ms.length - (i + 1)] = c at *
    generalize as[Ms.length - (i + 1)]'(by omega) = a at *
    have e1 : (Ms.length : Int) - 1 - (i : Int) = ((Ms.length - (i + 1) : Nat) : Int) := by omega
    have gM : atI (tIs Ms) ((Ms.length - (i + 1) : Nat) : Int) = some (tIn c) := by
      rw [atI_nat, show (tIs Ms)[Ms.length - (i + 1)]? = (Ms.map tIn)[Ms.length - (i + 1)]? from rfl, List.getElem?_map, hc]
      rfl
    have gA : atI (as.map Dv.int) ((Ms.length - (i + 1) : Nat) : Int) = some (.int a) := by
      rw [atI_nat, List.getElem?_map, hb]
      rfl
    have zi := fun S => z_inside c S (by omega)
    have ix := idx_l mem
    have cw := (hM.drop (Ms.length - i)).cnt
    have jx : (kin c).idxOf a < (kin c).length := List.idxOf_lt_length_iff.2 mem
    have l1 := log2_lt (i := (((kin c).idxOf a : Nat) : Int)) (k := 3) (n := 3) (by omega) (by decide) (by decide)
    have l2 := log2_lt (i := ((kin c).length : Int)) (k := 3) (n := 3) (by omega) (by decide) (by decide)
    have m1 : ∀ S, oMul (.int (cntR (Ms.drop (Ms.length - i)))) (.int (((kin c).idxOf a : Nat) : Int)) S = _ := fun S => oMul_i (by omega)
    have m2 : ∀ S, oMul (.int (cntR (Ms.drop (Ms.length - i)))) (.int ((kin c).length : Int)) S = _ := fun S => oMul_i (by omega)
    unfold LF__law_number_1
    simp -dsimp [htl, show Ms.length ≤ 1000000 by omega, e1, gM, gA, zi, ix, m1, m2, show (kin c).length ≤ 1000000 by omega]
    refine ⟨rfl, Hi_i ⟨?_, rfl⟩⟩
    rw [dZ, dM]
    simp only [numR, cntR, fz]
  · rintro _ _ ⟨rfl, rfl⟩
    have iu : ((FC.upTo 0 Ms.length).map Dv.int).length = Ms.length := by simp [upTo_range]
    rw [iu, Nat.sub_self, List.drop_zero, List.drop_zero]
    simp -dsimp
end FCL

set_option Elab.async false
set_option linter.all false
set_option maxRecDepth 100000
set_option maxHeartbeats 4000000
namespace FCL
open PySem PySem.Spec L2 FC
/-! ### the answers by weights -/
open FCP (allp Nn mem_allp)
theorem ansF_q (n : Int) (h0 : 0 ≤ n) : ∀ {Ms : List (List Int)}, (∀ c ∈ Ms, kin c ≠ []) → (ansF Ms n).1 = n / cntR Ms
  | [], _ => by simp [ansF, cntR]
  | c :: Ms, h => by
    have ih := ansF_q n h0 fun d hd => h d (List.mem_cons_of_mem _ hd)
    have hp := cntR_pos fun d hd => h d (List.mem_cons_of_mem _ hd)
    show (ansF Ms n).1 / _ = n / (cntR Ms * _)
    rw [ih, Int.ediv_ediv_of_nonneg (by omega)]
theorem mod_mul_div {n w l : Int} (h0 : 0 ≤ n) (hw : 0 < w) (hl : 0 < l) : n % (w * l) / w = n / w % l ∧ n % (w * l) - n % (w * l) / w * w = n % w := by
  have e : n % (w * l) / w = n / w % l := by
    obtain ⟨N, rfl⟩ : ∃ N : Nat, n = N := ⟨n.toNat, by omega⟩
    obtain ⟨W, rfl⟩ : ∃ N : Nat, w = N := ⟨w.toNat, by omega⟩
    obtain ⟨K, rfl⟩ : ∃ N : Nat, l = N := ⟨l.toNat, by omega⟩
    exact_mod_cast Nat.mod_mul_right_div_self N W K
  refine ⟨e, ?_⟩
  have h1 := Int.mul_ediv_add_emod (n % (w * l)) w
  have h2 : n % (w * l) % w = n % w := Int.emod_emod_of_dvd n ⟨l, rfl⟩
  rw [h2, Int.mul_comm] at h1
  omega
theorem z_lans (Ms : List (List Int)) (n : Int) (S : Store) (hM : MsOk Ms) (h0 : 0 ≤ n) (h1 : n < cntR Ms) : F__law_answers [.lst (tIs Ms), .int n, .int (cntR Ms)] S = some (.ok (tIn (ansF Ms n).2) S) := by
  have htl : (tIs Ms).length = Ms.length := List.length_map _
  have ml := hM.l
  have al := ansF_len n Ms
  have q0 := ansF_q n h0 fun d hd => (hM.k d hd).2.1
  refine w_def (n := 9) ?_ (by simp)
  unfold fsF__law_answers
  simp -dsimp
  refine w_for (fun i env S' => env = [some (.lst (tIs Ms)), some (.int n), some (.int (cntR Ms)), some (.obj S.length), some (.int (n % cntR (Ms.drop i))), some (.int (cntR (Ms.drop i))), none, none, none] ∧ S' = S ++ [lIn ((ansF Ms n).2.take i)]) ⟨by rw [List.drop_zero, Int.emod_eq_of_lt h0 h1], by simp⟩ ?_ ?_
  · rintro i y _ _ hy ⟨rfl, rfl⟩
    have hy' : (Ms.map tIn)[i]? = some y := hy
    rw [List.getElem?_map, Option.map_eq_some_iff] at hy'
    obtain ⟨c, hc, rfl⟩ := hy'
    have il := (List.getElem?_eq_some_iff.1 hc).1
    obtain ⟨k1, k2, k3⟩ := hM.k c (List.mem_of_getElem? hc)
    have hp : 0 < (kin c).length := List.length_pos_iff.2 k2
    have zi := fun S => z_inside c S (by omega)
    have dM : Ms.drop i = c :: Ms.drop (i + 1) := by
      rw [List.drop_eq_getElem_cons il]
      rw [List.getElem?_eq_getElem il] at hc
      rw [Option.some.inj hc]
    have cw := (hM.drop (i + 1)).cnt
    have cw0 := (hM.drop i).cnt
    have ec : cntR (Ms.drop i) = cntR (Ms.drop (i + 1)) * ((kin c).length : Int) := by rw [dM]; rfl
    have mm := mod_mul_div (l := ((kin c).length : Int)) h0 cw.1 (by omega)
    rw [← ec] at mm
    have l2 := log2_lt (i := ((kin c).length : Int)) (k := 3) (n := 3) (by omega) (by decide) (by decide)
    have d1 : ∀ S, oDiv (.int (cntR (Ms.drop i))) (.int ((kin c).length : Int)) S = some (.ok (.int (cntR (Ms.drop (i + 1)))) S) := fun S => by
      rw [oDiv_i (by omega) (by omega), ec, Int.mul_ediv_cancel _ (by omega)]
    have d2 : ∀ S, oDiv (.int (n % cntR (Ms.drop i))) (.int (cntR (Ms.drop (i + 1)))) S = some (.ok (.int (n / cntR (Ms.drop (i + 1)) % ((kin c).length : Int))) S) := fun S => by
      rw [oDiv_i cw.1 (by omega), mm.1]
    have r0 := Int.emod_nonneg (n / cntR (Ms.drop (i + 1))) (show ((kin c).length : Int) ≠ 0 by omega)
    have r1 := Int.emod_lt_of_pos (n / cntR (Ms.drop (i + 1))) (show (0 : Int) < ((kin c).length : Int) by omega)
    have qd : (ansF (Ms.drop (i + 1)) n).1 = n / cntR (Ms.drop (i + 1)) := ansF_q n h0 fun d hd => ((hM.drop (i + 1)).k d hd).2.1
    have ad : ∀ (Ms : List (List Int)) (i : Nat), (ansF Ms n).2.drop i = (ansF (Ms.drop i) n).2 := by
      intro Ms
      induction Ms with
      | nil => intro i; simp [ansF]
      | cons c Ms ih =>
        intro i
        cases i with
        | zero => rfl
        | succ i => exact ih i
    have ha : (ansF Ms n).2[i]? = some (((kin c)[(n / cntR (Ms.drop (i + 1)) % ((kin c).length : Int)).toNat]?).getD 0) := by
      have e := ad Ms i
      rw [dM] at e
      have : ((ansF Ms n).2.drop i)[0]? = (ansF Ms n).2[i]? := by rw [List.getElem?_drop, Nat.add_zero]
      rw [← this, e]
      show some (((kin c)[((ansF (Ms.drop (i + 1)) n).1 % ((kin c).length : Int)).toNat]?).getD 0) = _
      rw [qd]
    have mlt : ∀ S, oMul (.int (n / cntR (Ms.drop (i + 1)) % ((kin c).length : Int))) (.int (cntR (Ms.drop (i + 1)))) S = _ := fun S => oMul_i (by
      have := log2_lt (i := n / cntR (Ms.drop (i + 1)) % ((kin c).length : Int)) (k := 3) (n := 3) (by omega) (by decide) (by decide)
      omega)
    have e3 : n % cntR (Ms.drop i) - n / cntR (Ms.drop (i + 1)) % ((kin c).length : Int) * cntR (Ms.drop (i + 1)) = n % cntR (Ms.drop (i + 1)) := by rw [← mm.1]; exact mm.2
    have tk : (ansF Ms n).2.take (i + 1) = (ansF Ms n).2.take i ++ [((kin c)[(n / cntR (Ms.drop (i + 1)) % ((kin c).length : Int)).toNat]?).getD 0] := by rw [List.take_add_one, ha]; rfl
    have at' : atI ((kin c).map Dv.int) (n / cntR (Ms.drop (i + 1)) % ((kin c).length : Int)) = some (.int (((kin c)[(n / cntR (Ms.drop (i + 1)) % ((kin c).length : Int)).toNat]?).getD 0)) := by
      have hl : (n / cntR (Ms.drop (i + 1)) % ((kin c).length : Int)).toNat < (kin c).length := by omega
      have e := atI_nat ((kin c).map Dv.int) (n / cntR (Ms.drop (i + 1)) % ((kin c).length : Int)).toNat
      rw [show (((n / cntR (Ms.drop (i + 1)) % ((kin c).length : Int)).toNat : Nat) : Int) = n / cntR (Ms.drop (i + 1)) % ((kin c).length : Int) by omega] at e
      rw [e, List.getElem?_map, List.getElem?_eq_getElem hl]
      rfl
    unfold LF__law_answers_1
    simp -dsimp [-List.map_take, zi, show (kin c).length ≤ 1000000 by omega, d1, d2, at', mlt, e3, show min i (ansF Ms n).2.length ≤ 1000000 by omega]
    refine Hi_i ⟨rfl, ?_⟩
    rw [tk, lIn_snoc]
  · rintro _ _ ⟨rfl, rfl⟩
    rw [htl, List.drop_length, List.take_of_length_le (by omega)]
    simp -dsimp
theorem kin_nodup (c : List Int) : (kin c).Nodup := by
  unfold kin
  have h : (((FC.upTo 0 c.length).zip c).map Prod.fst).Nodup := by
    rw [zip_fst (by simp [upTo_range])]
    exact upTo_nodup _
  exact h.sublist ((List.filter_sublist).map _)
/-- the answers of a number lead back -/
theorem ansF_back (n : Int) (h0 : 0 ≤ n) : ∀ {Ms : List (List Int)}, (∀ c ∈ Ms, kin c ≠ []) → numR (Ms.zip (ansF Ms n).2) + (ansF Ms n).1 * cntR Ms = n
  | [], _ => by simp [ansF, cntR, numR]
  | c :: Ms, h => by
    have h' := fun d hd => h d (List.mem_cons_of_mem c hd)
    have ih := ansF_back n h0 h'
    have q := ansF_q n h0 h'
    have hp := cntR_pos h'
    have hk : 0 < (kin c).length := List.length_pos_iff.2 (h c List.mem_cons_self)
    have r0 := Int.emod_nonneg (ansF Ms n).1 (show ((kin c).length : Int) ≠ 0 by omega)
    have r1 := Int.emod_lt_of_pos (ansF Ms n).1 (show (0 : Int) < ((kin c).length : Int) by omega)
    have hl : ((ansF Ms n).1 % ((kin c).length : Int)).toNat < (kin c).length := by omega
    show numR ((c, _) :: Ms.zip (ansF Ms n).2) + (ansF Ms n).1 / ((kin c).length : Int) * (cntR Ms * ((kin c).length : Int)) = n
    rw [numR, zip_fst (ansF_len n Ms).symm]
    simp only []
    rw [List.getElem?_eq_getElem hl, Option.getD_some, (kin_nodup c).idxOf_getElem _ hl]
    rw [show (((((ansF Ms n).1 % ((kin c).length : Int)).toNat : Nat)) : Int) = (ansF Ms n).1 % ((kin c).length : Int) by omega]
    have e := Int.mul_ediv_add_emod (ansF Ms n).1 ((kin c).length : Int)
    generalize (ansF Ms n).1 / ((kin c).length : Int) = d at *
    generalize (ansF Ms n).1 % ((kin c).length : Int) = r at *
    generalize ((kin c).length : Int) = l at *
    generalize (ansF Ms n).1 = m at *
    generalize cntR Ms = w at *
    subst e
    rw [Int.add_mul] at ih
    have : d * (w * l) = l * d * w := by rw [Int.mul_comm w, ← Int.mul_assoc, Int.mul_comm d]
    rw [this, Int.mul_comm w r]
    omega
theorem ansF_num {n : Int} {Ms : List (List Int)} (hM : MsOk Ms) (h0 : 0 ≤ n) (h1 : n < cntR Ms) : numR (Ms.zip (ansF Ms n).2) = n := by
  have hk := fun d hd => (hM.k d hd).2.1
  have e := ansF_back n h0 hk
  rw [ansF_q n h0 hk, Int.ediv_eq_zero_of_lt h0 h1, Int.zero_mul] at e
  omega
theorem ansF_ok {n : Int} {Ms : List (List Int)} (hM : MsOk Ms) : AnsOk Ms (ansF Ms n).2 := ⟨ansF_len n Ms, ansF_in n fun c hc => (hM.k c hc).2.1⟩
end FCL

set_option Elab.async false
set_option linter.all false
set_option maxRecDepth 100000
set_option maxHeartbeats 4000000
namespace FCL
open PySem PySem.Spec L2 FC
/-! ### < of rows of numbers -/
def lexI : List Int → List Int → Bool
  | [], [] => false
  | [], _ :: _ => true
  | _ :: _, [] => false
  | x :: xs, y :: ys => if x = y then lexI xs ys else decide (x < y)
theorem alike_ints : ∀ xs ys : List Int, PySem.W.alikeAll (xs.map PyData.int) (ys.map PyData.int) = true
  | [], [] => rfl
  | [], _ :: _ => rfl
  | _ :: _, [] => rfl
  | x :: xs, y :: ys => by
    rw [List.map_cons, List.map_cons, PySem.W.alikeAll, alike_ints xs ys]
    rfl
theorem dataLt_ints : ∀ xs ys : List Int, PyProof.Rows.lexLt PyProof.Rows.itemOrd (PySem.W.keyToksAll (xs.map PyData.int)) (PySem.W.keyToksAll (ys.map PyData.int)) = lexI xs ys
  | [], [] => by decide
  | [], y :: ys => by
    rw [List.map_cons, PySem.W.toks_all_cons]
    rfl
  | x :: xs, [] => by
    rw [List.map_cons, PySem.W.toks_all_cons]
    rfl
  | x :: xs, y :: ys => by
    rw [List.map_cons, List.map_cons]
    unfold lexI
    by_cases z : x = y
    · rw [PySem.W.dataLt_all_yes (x := .int x) (y := .int y) rfl (by simp [PyData.eqv, z]), dataLt_ints xs ys, if_pos z]
    · rw [PySem.W.dataLt_all_no (x := .int x) (y := .int y) rfl (by simp [PyData.eqv, z]), PySem.W.dataLt_int, if_neg z]
theorem oLtX_tints (xs ys : List Int) (S : Store) : oLtX (tIn xs) (tIn ys) S = some (.ok (.bl (lexI xs ys)) S) := by
  unfold oLtX
  have e : ∀ l : List Int, toPy (tIn l) = some (.tuple (l.map PyData.int)) := fun l => by unfold toPy; rw [toPys_ints]; rfl
  rw [e, e]
  simp only
  rw [if_pos ⟨by unfold PySem.W.alike; exact alike_ints xs ys, by simp [PyData.depth, depthAll_ints]⟩, PySem.W.dataLt_tuple, dataLt_ints]
/-! ### the order of the numbers is that of the answers -/
def Asc (l : List Int) : Prop := l.Pairwise (· < ·)
theorem kin_asc (c : List Int) : Asc (kin c) := by
  unfold kin Asc
  have h : (((FC.upTo 0 c.length).zip c).map Prod.fst).Pairwise (· < ·) := by
    rw [zip_fst (by simp [upTo_range]), upTo_range, List.pairwise_map]
    exact List.pairwise_lt_range.imp fun h => by simpa using h
  exact h.sublist ((List.filter_sublist).map _)
theorem asc_idx : ∀ {l : List Int} {a b : Int}, Asc l → a ∈ l → b ∈ l → (l.idxOf a < l.idxOf b ↔ a < b)
  | [], _, _, _, h, _ => by cases h
  | x :: l, a, b, h, ha, hb => by
    rw [Asc, List.pairwise_cons] at h
    rw [List.idxOf_cons, List.idxOf_cons]
    by_cases za : x = a
    · by_cases zb : x = b
      · subst za zb; simp
      · have hb' : b ∈ l := (List.mem_cons.1 hb).resolve_left fun e => zb e.symm
        have := h.1 b hb'
        rw [show (x == a) = true by simpa using za, show (x == b) = false by simpa using zb]
        simp
        omega
    · have ha' : a ∈ l := (List.mem_cons.1 ha).resolve_left fun e => za e.symm
      by_cases zb : x = b
      · have := h.1 a ha'
        rw [show (x == b) = true by simpa using zb]
        simp
        omega
      · have hb' : b ∈ l := (List.mem_cons.1 hb).resolve_left fun e => zb e.symm
        have ih := asc_idx h.2 ha' hb'
        rw [show (x == a) = false by simpa using za, show (x == b) = false by simpa using zb]
        simp
        exact ih
theorem num_lex : ∀ {Ms : List (List Int)} {as bs : List Int}, as.length = Ms.length → bs.length = Ms.length → (∀ p ∈ Ms.zip as, p.2 ∈ kin p.1) → (∀ p ∈ Ms.zip bs, p.2 ∈ kin p.1) → decide (numR (Ms.zip as) < numR (Ms.zip bs)) = lexI as bs
  | [], [], [], _, _, _, _ => rfl
  | c :: Ms, a :: as, b :: bs, la, lb, ha, hb => by
    rw [List.zip_cons_cons] at ha hb ⊢
    rw [List.zip_cons_cons]
    simp only [List.length_cons, Nat.add_right_cancel_iff] at la lb
    have ha' := fun p hp => ha p (List.mem_cons_of_mem _ hp)
    have hb' := fun p hp => hb p (List.mem_cons_of_mem _ hp)
    have ia : a ∈ kin c := ha _ List.mem_cons_self
    have ib : b ∈ kin c := hb _ List.mem_cons_self
    have ih := num_lex la lb ha' hb'
    have na := numR_lt ha'
    have nb := numR_lt hb'
    rw [zip_fst la.symm] at na
    rw [zip_fst lb.symm] at nb
    have o1 := asc_idx (kin_asc c) ia ib
    have o2 := asc_idx (kin_asc c) ib ia
    rw [numR, numR, zip_fst la.symm, zip_fst lb.symm]
    unfold lexI
    by_cases z : a = b
    · subst z
      rw [if_pos rfl, ← ih]
      congr 1
      apply propext
      constructor <;> intro h <;> omega
    · rw [if_neg z]
      congr 1
      apply propext
      simp only
      generalize numR (Ms.zip as) = x at *
      generalize numR (Ms.zip bs) = y at *
      generalize cntR Ms = w at *
      generalize (kin c).idxOf a = i at *
      generalize (kin c).idxOf b = j at *
      constructor
      · intro h
        by_cases q : a < b
        · exact q
        · have hji : j < i := o2.2 (by omega)
          have : w * ((j : Int) + 1) ≤ w * (i : Int) := Int.mul_le_mul_of_nonneg_left (by omega) (by omega)
          rw [Int.mul_add, Int.mul_one] at this
          omega
      · intro h
        have hij : i < j := o1.2 h
        have : w * ((i : Int) + 1) ≤ w * (j : Int) := Int.mul_le_mul_of_nonneg_left (by omega) (by omega)
        rw [Int.mul_add, Int.mul_one] at this
        omega
theorem AnsOk.z {Ms : List (List Int)} {as : List Int} (h : AnsOk Ms as) : ∀ p ∈ Ms.zip as, p.2 ∈ kin p.1 := fun p hp => by
  obtain ⟨i, hi⟩ := List.getElem?_of_mem hp
  obtain ⟨h1, h2⟩ := List.getElem?_zip_eq_some.1 (show _ = some (p.1, p.2) from hi)
  exact h.i i _ _ h1 h2
end FCL

set_option Elab.async false
set_option linter.all false
set_option maxRecDepth 100000
set_option maxHeartbeats 4000000
namespace FCL
open PySem PySem.Spec L2 FC
/-! ### houses alike -/
theorem z_eq (q k q' k' : Int) (ms ms' : List Int) (S : Store) (h : ms.length ≤ 1000) (h' : ms'.length ≤ 1000) : F_House___eq__ [hsD q k ms, hsD q' k' ms'] S = some (.ok (.bl (decide (q = q') && (decide (k = k') && decide (ms = ms')))) S) := by
  refine gcD_pure ?_ rfl
  by_cases z : q = q'
  · subst z
    by_cases y : k = k'
    · subst y
      simp (decide := true) [fsF_House___eq__]
    · simp (decide := true) [fsF_House___eq__, y]
  · simp (decide := true) [fsF_House___eq__, z]
/-! ### what holds of a number -/
open FCP (allp Nn mem_allp)
theorem w_lcm_ {α : Type} {b : Bd} {fe : FE} {env0 : DEnv} {S : Store} {QL : Rs (List Dv) → Prop} {items : List Dv} (enc : α → Dv) (g : α → Dv) (xs : List α) (he : items = xs.map enc) (hl : xs.length ≤ 1000000)
    (h : ∀ x ∈ xs, Wb (b (enc x) env0) (fun e => We (fe e S) (fun r => r = .ok (g x) S)))
    (hQ : QL (.ok (xs.map g) S)) : We (compM b fYes fe env0 items [] S) QL := by
  subst he
  exact w_lcm enc g xs hl h hQ
@[simp ↓] theorem insOf_cs {q k : Int} {ms as : List Int} {S : Store} : insOf (csD q k ms as) S = some (("Custom" : Str), [(("house" : Str), hsD q k ms), (("answers" : Str), tIn as), (("_goes" : Str), goesD (allp ms (k + 1)) as)]) := rfl
theorem zip_snd {α β : Type} : ∀ {xs : List α} {ys : List β}, ys.length = xs.length → (xs.zip ys).map Prod.snd = ys
  | [], [], _ => rfl
  | x :: xs, y :: ys, h => by rw [List.zip_cons_cons, List.map_cons, zip_snd (by simpa using h)]
theorem zips_fst {Ms : List (List Int)} {as : List Int} (h : as.length = Ms.length) : tIs Ms = (Ms.zip as).map fun p => tIn p.1 := by
  have e := zip_fst (xs := Ms) (ys := as) h.symm
  conv => lhs; rw [← e]
  show List.map tIn (List.map Prod.fst (Ms.zip as)) = _
  rw [List.map_map]
  rfl
theorem zips_snd {Ms : List (List Int)} {as : List Int} (h : as.length = Ms.length) : (Ms.zip as).map (fun p => Dv.int p.2) = as.map Dv.int := by
  have e := zip_snd (xs := Ms) (ys := as) h
  conv => rhs; rw [← e]
  rw [List.map_map]
  rfl
theorem goes_get {Ms : List (List Int)} {as : List Int} (nd : Ms.Nodup) (hne : ∀ c ∈ Ms, c ≠ []) {p : List Int × Int} (hp : p ∈ Ms.zip as) (S : Store) : oDget (goesD Ms as) (tIn p.1) S = some (.ok (.int p.2) S) := by
  have hr := rowD_tIn (hne p.1 (List.of_mem_zip (show (p.1, p.2) ∈ _ from hp)).1)
  have hv := valD_zip nd (show (p.1, p.2) ∈ _ from hp)
  unfold oDget dLook goesD
  simp only [hr, Option.map_some, hv]
theorem z_count' {q k : Int} {ms : List Int} (vh : VH q k ms) (S : Store) : F_count_customs [hsD q k ms] S = some (.ok (.int (cntR (allp ms (k + 1)))) S) := by
  rw [← cntC_eq]
  exact z_count q k ms S vh.nn vh.ne (by have := vh.len; omega) (by have := vh.cnt; omega)
theorem z_number' {q k : Int} {ms as : List Int} (vh : VH q k ms) (ha : AnsOk (allp ms (k + 1)) as) (S : Store) : F_number_of [csD q k ms as] S = some (.ok (.int (numR ((allp ms (k + 1)).zip as))) S) := by
  rw [← numF_eq]
  exact z_number q k ms as S (ha.cs vh) (allp_nodup _ _)
theorem z_at' {q k n : Int} {ms : List Int} (vh : VH q k ms) (h0 : 0 ≤ n) (h1 : n < cntR (allp ms (k + 1))) (S : Store) : F_custom_at [hsD q k ms, .int n] S = some (.ok (csD q k ms (ansF (allp ms (k + 1)) n).2) S) :=
  z_at q k n ms S vh.nn vh.ne (by have := vh.len; omega) (by have := vh.cnt; omega) (by have := vh.2.2.1; omega) h0 (by rw [cntC_eq]; exact h1)
theorem z_holds {q k : Int} {ms : List Int} (n : Int) (S : Store) (vh : VH q k ms) : F__law_number_holds [hsD q k ms, .lst (tIs (allp ms (k + 1))), .int n, .int (cntR (allp ms (k + 1)))] S = some (.ok (.bl true) S) := by
  have ml := vh.len
  have cn := vh.cnt
  refine w_defP ?_ rfl
  unfold fsF__law_number_holds
  by_cases h0 : 0 ≤ n ∧ n < cntR (allp ms (k + 1))
  · obtain ⟨h0, h1⟩ := h0
    have za := fun S => z_at' vh h0 h1 S
    have zn := fun S => z_number' vh (ansF_ok (n := n) vh.ms) S
    rw [ansF_num vh.ms h0 h1] at zn
    have zl := fun S => z_lans (allp ms (k + 1)) n S vh.ms h0 h1
    have al := ansF_len n (allp ms (k + 1))
    have s1 : ∀ S, F__law_same [tIn (ansF (allp ms (k + 1)) n).2, tIn (ansF (allp ms (k + 1)) n).2] S = some (.ok (.bl true) S) := fun S => same_ (cmp_tIn (n := 3) (by omega))
    have s2 : ∀ S, F__law_same [.int n, .int n] S = some (.ok (.bl true) S) := fun S => same_ rfl
    have he := fun S => z_eq q k q k ms ms S (by omega) (by omega)
    simp -dsimp (decide := true) [h0, h1, za, zl, zn, s1, s2, oOwn, he]
  · have rf := fun S => rf_number q k n ms S vh.nn vh.ne (by omega) (by omega) (by rw [cntC_eq]; exact h0)
    have s1 : ∀ S, F__law_same [nmD n, .tup [.int n, .bl true, .bl true, .bl false]] S = some (.ok (.bl true) S) := fun S => same_ rfl
    by_cases z : 0 ≤ n
    · have z2 : ¬ n < cntR (allp ms (k + 1)) := fun h => h0 ⟨z, h⟩
      simp -dsimp (decide := true) [z, z2, rf, s1]
    · simp -dsimp (decide := true) [z, rf, s1]
end FCL

set_option Elab.async false
set_option linter.all false
set_option maxRecDepth 100000
set_option maxHeartbeats 4000000
namespace FCL
open PySem PySem.Spec L2 FC
/-! ### instances made with keywords, from the front -/
section
variable {c : Str} {n m : Nat} {gD : List Dv → List Dv → List Dv} {F : DFn} {fa fk : FA} {env : DEnv} {S S0 S1 : Store} {QD : Rs Dv → Prop} {ds es : List Dv}
def mgk2 (S0 : Store) (c : Str) (n m : Nat) (gD : List Dv → List Dv → List Dv) (F : DFn) (ds : List Dv) (Q : Rs Dv → Prop) : Rs (List Dv) → Prop
  | .ok es S2 => We (gcR S0 (if ds.length = n ∧ es.length = m then mkR F c (fun o => gD (o :: ds) es) S2 else none)) Q
  | .exc x fs S1 => We (gcR S0 (some (.exc x fs S1))) Q
def mgk1 (S0 : Store) (c : Str) (n m : Nat) (gD : List Dv → List Dv → List Dv) (F : DFn) (fk : FA) (env : DEnv) (Q : Rs Dv → Prop) : Rs (List Dv) → Prop
  | .ok ds S1 => We (fk env S1) (mgk2 S0 c n m gD F ds Q)
  | .exc x fs S1 => We (gcR S0 (some (.exc x fs S1))) Q
@[simp ↓] theorem mgk2_ok : mgk2 S0 c n m gD F ds QD (.ok es S1) = We (gcR S0 (if ds.length = n ∧ es.length = m then mkR F c (fun o => gD (o :: ds) es) S1 else none)) QD := rfl
@[simp ↓] theorem mgk1_ok : mgk1 S0 c n m gD F fk env QD (.ok ds S1) = We (fk env S1) (mgk2 S0 c n m gD F ds QD) := rfl
@[simp ↓] theorem w_fGcMkK : We (fGc (fMkK c n m gD F fa fk) env S) QD = We (fa env S) (mgk1 S c n m gD F fk env QD) := by
  unfold fGc fMkK
  simp only [bnd]
  cases h : fa env S with
  | none => simp [We, gcR]
  | some r =>
    rw [We_some]
    cases r with
    | exc => rfl
    | ok ds S1 =>
      rw [mgk1_ok]
      show We (gcR S (bnd (fk env) _ S1)) QD = _
      unfold bnd
      cases h2 : fk env S1 with
      | none => simp [We, gcR]
      | some r => rw [We_some]; cases r <;> rfl
end
/-! ### the law -/
open FCP (allp Nn mem_allp)
theorem law_good (ns : List Int) (h : ns.length ≤ 63) : ∃ S', F_law [.lst (ns.map Dv.int)] [] = some (.ok (.bl true) S') := by
  suffices H : We (F_law [.lst (ns.map Dv.int)] []) (fun r => ∃ S', r = .ok (.bl true) S') by
    obtain ⟨r, e, S', rfl⟩ := H
    exact ⟨S', e⟩
  show We (bodyF 21 fsF_law _ _) _
  rw [w_body]
  unfold fsF_law
  simp -dsimp
  refine w_pool (k := 0) h fun q0 p0 => ?_
  simp -dsimp
  refine w_draw (S0 := [q0]) (j := 0) (d := q0) (L := []) (by simp) p0 (by decide) (by decide) (by decide) fun t d0 t0 t1 p0 => ?_
  simp -dsimp
  refine Br_mid (fun y => ∃ q k ms d0, y = .nx [some (.lst (ns.map Dv.int)), some (.obj 0), some (.int q), some (.int k), some (tIn ms), none, none, none, none, none, none, none, none, none, none, none, none, none, none, none, none] [d0] ∧ VH q k ms) (fun _ => ?_) (fun _ => ?_) ?_
  · have r6 : ∀ S, rng1 [.int 6] S = some (.ok ((FC.upTo 0 6).map .int) S) := fun S => rng1_e (by decide)
    simp -dsimp [r6]
    refine w_lcm Dv.int (fun _ => Dv.int 1000000000000000000) (FC.upTo 0 6) (by decide) (fun x _ => by simp -dsimp) ?_
    have e : (FC.upTo 0 6).map (fun _ => Dv.int 1000000000000000000) = [1000000000000000000, 1000000000000000000, 1000000000000000000, 1000000000000000000, 1000000000000000000, 1000000000000000000].map Dv.int := rfl
    rw [e]
    simp -dsimp
    exact Hd_i ⟨6, 5, [1000000000000000000, 1000000000000000000, 1000000000000000000, 1000000000000000000, 1000000000000000000, 1000000000000000000], d0, by simp [stP], by decide, by decide, by decide, by decide, by simp, by simp⟩
  · simp -dsimp
    refine w_lany (S0 := [q0]) (j := 0) (d := d0) (L := []) (by simp) p0 (by decide) fun q k ms d0 vh p0 => ?_
    unfold hT
    simp -dsimp
    exact Hd_i ⟨q, k, ms, d0, by simp [stP], vh⟩
  rintro _ ⟨q, k, ms, d0, rfl, vh⟩
  have ml := vh.len
  have cn := vh.cnt
  have mk := fun S => mk_ok vh S
  have zp := fun S => vh.parts S
  have hM := vh.ms
  have nd := allp_nodup ms (k + 1)
  have hne := fun x hx => (allp_ne (c := x) (ms := ms) (n := k + 1) hx vh.ne).1
  have zc := fun S => z_count' vh S
  have cw := hM.cnt
  simp -dsimp [mk, zp]
  refine w_pool (k := 1) h fun q1 p1 => ?_
  simp -dsimp
  refine w_table (S0 := [d0, q1]) (j := 1) (d := q1) (L := []) (by simp) p1 (by decide) vh fun as d1 ha p1 => ?_
  simp -dsimp [stP]
  refine w_lcm_ (fun p : List Int × Int => tIn p.1) (fun p => .int p.2) ((allp ms (k + 1)).zip as) (zips_fst ha.l) (by rw [List.length_zip]; omega) (fun p hp => by simp -dsimp [-FC.oDget, goes_get nd hne hp]) ?_
  have ea : ((allp ms (k + 1)).zip as).map (fun p => Dv.int p.2) = as.map Dv.int := zips_snd ha.l
  rw [ea]
  simp -dsimp
  refine w_pool (k := 2) h fun q2 p2 => ?_
  simp -dsimp
  refine w_table (S0 := [d0, d1, q2]) (j := 2) (d := q2) (L := []) (by simp) p2 (by decide) vh fun bs d2 hb p2 => ?_
  simp -dsimp [stP]
  refine w_lcm_ (fun p : List Int × Int => tIn p.1) (fun p => .int p.2) ((allp ms (k + 1)).zip bs) (zips_fst hb.l) (by rw [List.length_zip]; omega) (fun p hp => by simp -dsimp [-FC.oDget, goes_get nd hne hp]) ?_
  have eb : ((allp ms (k + 1)).zip bs).map (fun p => Dv.int p.2) = bs.map Dv.int := zips_snd hb.l
  rw [eb]
  have la := fun S => z_lnum (allp ms (k + 1)) as S hM ha
  have lb := fun S => z_lnum (allp ms (k + 1)) bs S hM hb
  have sc : ∀ (n : Int) S, F__law_same [.int n, .int n] S = some (.ok (.bl true) S) := fun n S => same_ rfl
  have ma := fun S => mk_custom q k ms as S (ha.cs vh) nd
  have mb := fun S => mk_custom q k ms bs S (hb.cs vh) nd
  have na := fun S => z_number' vh ha S
  have nb := fun S => z_number' vh hb S
  have lx := fun S => oLtX_tints as bs S
  have ll := num_lex ha.l hb.l ha.z hb.z
  have al := ha.l
  have bl := hb.l
  have rng := numR_lt ha.z
  rw [zip_fst ha.l.symm] at rng
  simp -dsimp (decide := true) [la, lb, zc, sc, ma, mb, na, nb, lx, ll, show as.length ≤ 1000000 by omega, show bs.length ≤ 1000000 by omega]
  refine w_pool (k := 3) h fun q3 p3 => ?_
  simp -dsimp
  refine w_drawB (S0 := [d0, d1, d2, q3]) (j := 3) (d := q3) (L := []) (by simp) p3 (by decide) cw.1 (by omega) fun u d3 u0 u1 p3 => ?_
  simp -dsimp
  refine w_draw (S0 := [d0, d1, d2, q3]) (j := 3) (d := d3) (L := []) (by simp) p3 (by decide) (by decide) (by decide) fun far d3 f0 f1 p3 => ?_
  have zh := fun n S => z_holds n S vh
  unfold LF_law_1
  by_cases hlow : numR ((allp ms (k + 1)).zip as) + 1 < cntR (allp ms (k + 1))
  · have za := fun S => z_at' vh (show 0 ≤ numR ((allp ms (k + 1)).zip as) + 1 by omega) hlow S
    have hc : AnsOk (allp ms (k + 1)) (ansF (allp ms (k + 1)) (numR ((allp ms (k + 1)).zip as) + 1)).2 := ansF_ok hM
    have l2 := num_lex ha.l hc.l ha.z hc.z
    rw [ansF_num hM (by omega) hlow] at l2
    have lx2 := fun S => oLtX_tints as (ansF (allp ms (k + 1)) (numR ((allp ms (k + 1)).zip as) + 1)).2 S
    rw [← l2] at lx2
    simp -dsimp (decide := true) [zh, za, lx2, hlow, na, zc, sc, show numR ((allp ms (k + 1)).zip as) < numR ((allp ms (k + 1)).zip as) + 1 by omega]
  · simp -dsimp (decide := true) [zh, hlow, na, zc, sc]
end FCL


set_option Elab.async false
set_option linter.all false
set_option maxRecDepth 100000
set_option maxHeartbeats 4000000
namespace FCL
open PySem PySem.Spec L2 FC
open PySem.SupX (SupTxt)
theorem all_mk {l : PySem.W.OpenLaw} {w : World} {K : PySem.W.Frag} {h : Heap} {mg : Str → Option Value} {fa : Addr} (hl : l.prog = PySem.Challenge.pw_fewchairs_k04_custom_numbers) (X : K.In h) (G : h.Ns mainGlobals mg) (hfa : mg "law" = some (.ref fa))
    {f__law_pool : Addr} {od__law_pool an__law_pool : Option Addr} {sl__law_pool : Array (Option Value)} {oc__law_pool dc__law_pool pm__law_pool cd__law_pool ct__law_pool : Value}
    {kV__law_pool : Value}
    {f__law_draw : Addr} {od__law_draw an__law_draw : Option Addr} {sl__law_draw : Array (Option Value)} {oc__law_draw dc__law_draw pm__law_draw cd__law_draw ct__law_draw : Value}
    {kV__law_draw : Value}
    {f__law_house : Addr} {od__law_house an__law_house : Option Addr} {sl__law_house : Array (Option Value)} {oc__law_house dc__law_house pm__law_house cd__law_house ct__law_house : Value}
    {kV__law_house : Value}
    {f__law_any_house : Addr} {od__law_any_house an__law_any_house : Option Addr} {sl__law_any_house : Array (Option Value)} {oc__law_any_house dc__law_any_house pm__law_any_house cd__law_any_house ct__law_any_house : Value}
    {kV__law_any_house : Value}
    {f_House___init__ : Addr} {od_House___init__ an_House___init__ : Option Addr} {sl_House___init__ : Array (Option Value)} {oc_House___init__ dc_House___init__ pm_House___init__ cd_House___init__ ct_House___init__ : Value}
    {D_House___init__ : Addr}
    {f__law_parts : Addr} {od__law_parts an__law_parts : Option Addr} {sl__law_parts : Array (Option Value)} {oc__law_parts dc__law_parts pm__law_parts cd__law_parts ct__law_parts : Value}
    {kV__law_parts : Value}
    {f__law_table : Addr} {od__law_table an__law_table : Option Addr} {sl__law_table : Array (Option Value)} {oc__law_table dc__law_table pm__law_table cd__law_table ct__law_table : Value}
    {kV__law_table : Value}
    {f__law_inside : Addr} {od__law_inside an__law_inside : Option Addr} {sl__law_inside : Array (Option Value)} {oc__law_inside dc__law_inside pm__law_inside cd__law_inside ct__law_inside : Value}
    {kV__law_inside : Value}
    {f__law_number : Addr} {od__law_number an__law_number : Option Addr} {sl__law_number : Array (Option Value)} {oc__law_number dc__law_number pm__law_number cd__law_number ct__law_number : Value}
    {kV__law_number : Value}
    {f__law_same : Addr} {od__law_same an__law_same : Option Addr} {sl__law_same : Array (Option Value)} {oc__law_same dc__law_same pm__law_same cd__law_same ct__law_same : Value}
    {kV__law_same : Value}
    {f_size : Addr} {od_size an_size : Option Addr} {sl_size : Array (Option Value)} {oc_size dc_size pm_size cd_size ct_size : Value}
    {kV_size : Value}
    {f__first_part : Addr} {od__first_part an__first_part : Option Addr} {sl__first_part : Array (Option Value)} {oc__first_part dc__first_part pm__first_part cd__first_part ct__first_part : Value}
    {kV__first_part : Value}
    {f__next_part : Addr} {od__next_part an__next_part : Option Addr} {sl__next_part : Array (Option Value)} {oc__next_part dc__next_part pm__next_part cd__next_part ct__next_part : Value}
    {kV__next_part : Value}
    {f_part_list : Addr} {od_part_list an_part_list : Option Addr} {sl_part_list : Array (Option Value)} {oc_part_list dc_part_list pm_part_list cd_part_list ct_part_list : Value}
    {kV_part_list : Value}
    {f_House_crowds : Addr} {od_House_crowds an_House_crowds : Option Addr} {sl_House_crowds : Array (Option Value)} {oc_House_crowds dc_House_crowds pm_House_crowds cd_House_crowds ct_House_crowds : Value}
    {kV_House_crowds : Value}
    {f_House_meetings : Addr} {od_House_meetings an_House_meetings : Option Addr} {sl_House_meetings : Array (Option Value)} {oc_House_meetings dc_House_meetings pm_House_meetings cd_House_meetings ct_House_meetings : Value}
    {kV_House_meetings : Value}
    {f_kinds_in : Addr} {od_kinds_in an_kinds_in : Option Addr} {sl_kinds_in : Array (Option Value)} {oc_kinds_in dc_kinds_in pm_kinds_in cd_kinds_in ct_kinds_in : Value}
    {kV_kinds_in : Value}
    {f_count_customs : Addr} {od_count_customs an_count_customs : Option Addr} {sl_count_customs : Array (Option Value)} {oc_count_customs dc_count_customs pm_count_customs cd_count_customs ct_count_customs : Value}
    {kV_count_customs : Value}
    {f_check_answers : Addr} {od_check_answers an_check_answers : Option Addr} {sl_check_answers : Array (Option Value)} {oc_check_answers dc_check_answers pm_check_answers cd_check_answers ct_check_answers : Value}
    {kV_check_answers : Value}
    {f_Custom___init__ : Addr} {od_Custom___init__ an_Custom___init__ : Option Addr} {sl_Custom___init__ : Array (Option Value)} {oc_Custom___init__ dc_Custom___init__ pm_Custom___init__ cd_Custom___init__ ct_Custom___init__ : Value}
    {kV_Custom___init__ : Value}
    {f_Custom_table : Addr} {od_Custom_table an_Custom_table : Option Addr} {sl_Custom_table : Array (Option Value)} {oc_Custom_table dc_Custom_table pm_Custom_table cd_Custom_table ct_Custom_table : Value}
    {kV_Custom_table : Value}
    {f_number_of : Addr} {od_number_of an_number_of : Option Addr} {sl_number_of : Array (Option Value)} {oc_number_of dc_number_of pm_number_of cd_number_of ct_number_of : Value}
    {kV_number_of : Value}
    {f_custom_at : Addr} {od_custom_at an_custom_at : Option Addr} {sl_custom_at : Array (Option Value)} {oc_custom_at dc_custom_at pm_custom_at cd_custom_at ct_custom_at : Value}
    {kV_custom_at : Value}
    {f__law_refused_number : Addr} {od__law_refused_number an__law_refused_number : Option Addr} {sl__law_refused_number : Array (Option Value)} {oc__law_refused_number dc__law_refused_number pm__law_refused_number cd__law_refused_number ct__law_refused_number : Value}
    {kV__law_refused_number : Value}
    {f__law_answers : Addr} {od__law_answers an__law_answers : Option Addr} {sl__law_answers : Array (Option Value)} {oc__law_answers dc__law_answers pm__law_answers cd__law_answers ct__law_answers : Value}
    {kV__law_answers : Value}
    {f_House___eq__ : Addr} {od_House___eq__ an_House___eq__ : Option Addr} {sl_House___eq__ : Array (Option Value)} {oc_House___eq__ dc_House___eq__ pm_House___eq__ cd_House___eq__ ct_House___eq__ : Value}
    {kV_House___eq__ : Value}
    {f__law_number_holds : Addr} {od__law_number_holds an__law_number_holds : Option Addr} {sl__law_number_holds : Array (Option Value)} {oc__law_number_holds dc__law_number_holds pm__law_number_holds cd__law_number_holds ct__law_number_holds : Value}
    {kV__law_number_holds : Value}
    {f_law : Addr} {od_law an_law : Option Addr} {sl_law : Array (Option Value)} {oc_law dc_law pm_law cd_law ct_law : Value}
    {kV_law : Value}
    {C_Custom : Addr}
    (a_Custom : PySem.W.nsIn K mainGlobals "Custom" = some (some (.ref C_Custom)))
    (pg_Custom : PySem.W.plainGet K C_Custom Str.empty = true)
    (hd_Custom : PySem.W.hasDictIn K C_Custom = true)
    (po_Custom : PySem.W.plainOver K C_Custom = true)
    (sa_Custom : PySem.W.findIn K (.ref C_Custom) "__setattr__" = some (some (.builtin "object.__setattr__")))
    (rd_Custom : PySem.W.readsIn K C_Custom (.type "type") = true)
    (ga_Custom : PySem.W.specialIn K (.ref C_Custom) "__getattribute__" = some (some (.builtin "type.__getattribute__")))
    (mk_Custom : PySem.W.makesIn K C_Custom = true)
    (kp_Custom : PySem.W.keepIn K (.ref C_Custom) = true)
    {C_House : Addr}
    (a_House : PySem.W.nsIn K mainGlobals "House" = some (some (.ref C_House)))
    (pg_House : PySem.W.plainGet K C_House Str.empty = true)
    (hd_House : PySem.W.hasDictIn K C_House = true)
    (po_House : PySem.W.plainOver K C_House = true)
    (sa_House : PySem.W.findIn K (.ref C_House) "__setattr__" = some (some (.builtin "object.__setattr__")))
    (rd_House : PySem.W.readsIn K C_House (.type "type") = true)
    (ga_House : PySem.W.specialIn K (.ref C_House) "__getattribute__" = some (some (.builtin "type.__getattribute__")))
    (mk_House : PySem.W.makesIn K C_House = true)
    (kp_House : PySem.W.keepIn K (.ref C_House) = true)
    (cla_House : PySem.W.findIn K (.ref C_House) "__class__" = some (some (.builtin "object.__class__")))
    (mo_House : PySem.W.mroIn K C_House (.type "object") = some true)
    (spg : PySem.W.specialIn K (.builtin "object.__class__") "__get__" = some (some (.builtin "getset_descriptor.__get__")))
    (tko : PySem.W.takesIn K (.builtin "object.__class__") = some true)
    (kito_House_House : PySem.W.kitOne K (.ref C_House) (.ref C_House) = some true)
    (mt_Custom_table : PySem.W.findIn K (.ref C_Custom) "table" = some (some (.ref f_Custom_table)))
    (mt_House_crowds : PySem.W.findIn K (.ref C_House) "crowds" = some (some (.ref f_House_crowds)))
    (mt_House_meetings : PySem.W.findIn K (.ref C_House) "meetings" = some (some (.ref f_House_meetings)))
    (in_Custom : PySem.W.findIn K (.ref C_Custom) "__init__" = some (some (.ref f_Custom___init__)))
    (in_House : PySem.W.findIn K (.ref C_House) "__init__" = some (some (.ref f_House___init__)))
    (eq_House : PySem.W.findIn K (.ref C_House) "__eq__" = some (some (.ref f_House___eq__)))
    (na_Custom__goes : PySem.W.findIn K (.ref C_Custom) "_goes" = some none)
    (na_Custom_answers : PySem.W.findIn K (.ref C_Custom) "answers" = some none)
    (na_Custom_house : PySem.W.findIn K (.ref C_Custom) "house" = some none)
    (na_House_chairs : PySem.W.findIn K (.ref C_House) "chairs" = some none)
    (na_House_kinds : PySem.W.findIn K (.ref C_House) "kinds" = some none)
    (na_House_most : PySem.W.findIn K (.ref C_House) "most" = some none)
    {ct_House_CHAIRS : Tok}
    (cc_House_CHAIRS : PySem.W.findCls K (.ref C_House) (.type "type") "CHAIRS" = some (.val (.int 5 ct_House_CHAIRS)))
    {ct_House_KINDS : Tok}
    (cc_House_KINDS : PySem.W.findCls K (.ref C_House) (.type "type") "KINDS" = some (.val (.int 6 ct_House_KINDS)))
    {ct_House_MANY : Tok}
    (cc_House_MANY : PySem.W.findCls K (.ref C_House) (.type "type") "MANY" = some (.val (.int 1000000000000000000 ct_House_MANY)))
    (a__law_pool : PySem.W.nsIn K mainGlobals "_law_pool" = some (some (.ref f__law_pool)))
    (l__law_pool : K.lookup f__law_pool = some ⟨oc__law_pool, od__law_pool, .func (PySem.W.fnOf "_law_pool" "_law_pool" (defArgs s__law_pool) (defBody s__law_pool) (defScope s__law_pool) .none kV__law_pool dc__law_pool pm__law_pool an__law_pool cd__law_pool ct__law_pool), sl__law_pool⟩)
    (c__law_pool : PySem.W.codeIn K cd__law_pool "_law_pool" = true)
    (k__law_pool : PySem.W.keepIn K (.ref f__law_pool) = true)
    (a__law_draw : PySem.W.nsIn K mainGlobals "_law_draw" = some (some (.ref f__law_draw)))
    (l__law_draw : K.lookup f__law_draw = some ⟨oc__law_draw, od__law_draw, .func (PySem.W.fnOf "_law_draw" "_law_draw" (defArgs s__law_draw) (defBody s__law_draw) (defScope s__law_draw) .none kV__law_draw dc__law_draw pm__law_draw an__law_draw cd__law_draw ct__law_draw), sl__law_draw⟩)
    (c__law_draw : PySem.W.codeIn K cd__law_draw "_law_draw" = true)
    (k__law_draw : PySem.W.keepIn K (.ref f__law_draw) = true)
    (a__law_house : PySem.W.nsIn K mainGlobals "_law_house" = some (some (.ref f__law_house)))
    (l__law_house : K.lookup f__law_house = some ⟨oc__law_house, od__law_house, .func (PySem.W.fnOf "_law_house" "_law_house" (defArgs s__law_house) (defBody s__law_house) (defScope s__law_house) .none kV__law_house dc__law_house pm__law_house an__law_house cd__law_house ct__law_house), sl__law_house⟩)
    (c__law_house : PySem.W.codeIn K cd__law_house "_law_house" = true)
    (k__law_house : PySem.W.keepIn K (.ref f__law_house) = true)
    (a__law_any_house : PySem.W.nsIn K mainGlobals "_law_any_house" = some (some (.ref f__law_any_house)))
    (l__law_any_house : K.lookup f__law_any_house = some ⟨oc__law_any_house, od__law_any_house, .func (PySem.W.fnOf "_law_any_house" "_law_any_house" (defArgs s__law_any_house) (defBody s__law_any_house) (defScope s__law_any_house) .none kV__law_any_house dc__law_any_house pm__law_any_house an__law_any_house cd__law_any_house ct__law_any_house), sl__law_any_house⟩)
    (c__law_any_house : PySem.W.codeIn K cd__law_any_house "_law_any_house" = true)
    (k__law_any_house : PySem.W.keepIn K (.ref f__law_any_house) = true)
    (l_House___init__ : K.lookup f_House___init__ = some ⟨oc_House___init__, od_House___init__, .func (PySem.W.fnOf "__init__" "House.__init__" (defArgs s_House___init__) (defBody s_House___init__) (defScope s_House___init__) .none (.ref D_House___init__) dc_House___init__ pm_House___init__ an_House___init__ cd_House___init__ ct_House___init__), sl_House___init__⟩)
    (c_House___init__ : PySem.W.codeIn K cd_House___init__ "House.__init__" = true)
    (k_House___init__ : PySem.W.keepIn K (.ref f_House___init__) = true)
    (fn_House___init__ : PySem.W.isFn K (.ref f_House___init__) = true)
    {T_House___init___most : Addr} {n_House___init___most : Nat}
    (kd_House___init___most : PySem.W.nsIn K D_House___init__ "most" = some (some (.ref T_House___init___most)))
    {od_House___init___most : Option Addr} {sl_House___init___most : Array (Option Value)}
    (kt_House___init___most : K.lookup T_House___init___most = some ⟨.type "tuple", od_House___init___most, .seq #[] n_House___init___most, sl_House___init___most⟩)
    (a__law_parts : PySem.W.nsIn K mainGlobals "_law_parts" = some (some (.ref f__law_parts)))
    (l__law_parts : K.lookup f__law_parts = some ⟨oc__law_parts, od__law_parts, .func (PySem.W.fnOf "_law_parts" "_law_parts" (defArgs s__law_parts) (defBody s__law_parts) (defScope s__law_parts) .none kV__law_parts dc__law_parts pm__law_parts an__law_parts cd__law_parts ct__law_parts), sl__law_parts⟩)
    (c__law_parts : PySem.W.codeIn K cd__law_parts "_law_parts" = true)
    (k__law_parts : PySem.W.keepIn K (.ref f__law_parts) = true)
    (a__law_table : PySem.W.nsIn K mainGlobals "_law_table" = some (some (.ref f__law_table)))
    (l__law_table : K.lookup f__law_table = some ⟨oc__law_table, od__law_table, .func (PySem.W.fnOf "_law_table" "_law_table" (defArgs s__law_table) (defBody s__law_table) (defScope s__law_table) .none kV__law_table dc__law_table pm__law_table an__law_table cd__law_table ct__law_table), sl__law_table⟩)
    (c__law_table : PySem.W.codeIn K cd__law_table "_law_table" = true)
    (k__law_table : PySem.W.keepIn K (.ref f__law_table) = true)
    (a__law_inside : PySem.W.nsIn K mainGlobals "_law_inside" = some (some (.ref f__law_inside)))
    (l__law_inside : K.lookup f__law_inside = some ⟨oc__law_inside, od__law_inside, .func (PySem.W.fnOf "_law_inside" "_law_inside" (defArgs s__law_inside) (defBody s__law_inside) (defScope s__law_inside) .none kV__law_inside dc__law_inside pm__law_inside an__law_inside cd__law_inside ct__law_inside), sl__law_inside⟩)
    (c__law_inside : PySem.W.codeIn K cd__law_inside "_law_inside" = true)
    (k__law_inside : PySem.W.keepIn K (.ref f__law_inside) = true)
    (a__law_number : PySem.W.nsIn K mainGlobals "_law_number" = some (some (.ref f__law_number)))
    (l__law_number : K.lookup f__law_number = some ⟨oc__law_number, od__law_number, .func (PySem.W.fnOf "_law_number" "_law_number" (defArgs s__law_number) (defBody s__law_number) (defScope s__law_number) .none kV__law_number dc__law_number pm__law_number an__law_number cd__law_number ct__law_number), sl__law_number⟩)
    (c__law_number : PySem.W.codeIn K cd__law_number "_law_number" = true)
    (k__law_number : PySem.W.keepIn K (.ref f__law_number) = true)
    (a__law_same : PySem.W.nsIn K mainGlobals "_law_same" = some (some (.ref f__law_same)))
    (l__law_same : K.lookup f__law_same = some ⟨oc__law_same, od__law_same, .func (PySem.W.fnOf "_law_same" "_law_same" (defArgs s__law_same) (defBody s__law_same) (defScope s__law_same) .none kV__law_same dc__law_same pm__law_same an__law_same cd__law_same ct__law_same), sl__law_same⟩)
    (c__law_same : PySem.W.codeIn K cd__law_same "_law_same" = true)
    (k__law_same : PySem.W.keepIn K (.ref f__law_same) = true)
    (a_size : PySem.W.nsIn K mainGlobals "size" = some (some (.ref f_size)))
    (l_size : K.lookup f_size = some ⟨oc_size, od_size, .func (PySem.W.fnOf "size" "size" (defArgs s_size) (defBody s_size) (defScope s_size) .none kV_size dc_size pm_size an_size cd_size ct_size), sl_size⟩)
    (c_size : PySem.W.codeIn K cd_size "size" = true)
    (k_size : PySem.W.keepIn K (.ref f_size) = true)
    (a__first_part : PySem.W.nsIn K mainGlobals "_first_part" = some (some (.ref f__first_part)))
    (l__first_part : K.lookup f__first_part = some ⟨oc__first_part, od__first_part, .func (PySem.W.fnOf "_first_part" "_first_part" (defArgs s__first_part) (defBody s__first_part) (defScope s__first_part) .none kV__first_part dc__first_part pm__first_part an__first_part cd__first_part ct__first_part), sl__first_part⟩)
    (c__first_part : PySem.W.codeIn K cd__first_part "_first_part" = true)
    (k__first_part : PySem.W.keepIn K (.ref f__first_part) = true)
    (a__next_part : PySem.W.nsIn K mainGlobals "_next_part" = some (some (.ref f__next_part)))
    (l__next_part : K.lookup f__next_part = some ⟨oc__next_part, od__next_part, .func (PySem.W.fnOf "_next_part" "_next_part" (defArgs s__next_part) (defBody s__next_part) (defScope s__next_part) .none kV__next_part dc__next_part pm__next_part an__next_part cd__next_part ct__next_part), sl__next_part⟩)
    (c__next_part : PySem.W.codeIn K cd__next_part "_next_part" = true)
    (k__next_part : PySem.W.keepIn K (.ref f__next_part) = true)
    (a_part_list : PySem.W.nsIn K mainGlobals "part_list" = some (some (.ref f_part_list)))
    (l_part_list : K.lookup f_part_list = some ⟨oc_part_list, od_part_list, .func (PySem.W.fnOf "part_list" "part_list" (defArgs s_part_list) (defBody s_part_list) (defScope s_part_list) .none kV_part_list dc_part_list pm_part_list an_part_list cd_part_list ct_part_list), sl_part_list⟩)
    (c_part_list : PySem.W.codeIn K cd_part_list "part_list" = true)
    (k_part_list : PySem.W.keepIn K (.ref f_part_list) = true)
    (l_House_crowds : K.lookup f_House_crowds = some ⟨oc_House_crowds, od_House_crowds, .func (PySem.W.fnOf "crowds" "House.crowds" (defArgs s_House_crowds) (defBody s_House_crowds) (defScope s_House_crowds) .none kV_House_crowds dc_House_crowds pm_House_crowds an_House_crowds cd_House_crowds ct_House_crowds), sl_House_crowds⟩)
    (c_House_crowds : PySem.W.codeIn K cd_House_crowds "House.crowds" = true)
    (k_House_crowds : PySem.W.keepIn K (.ref f_House_crowds) = true)
    (fn_House_crowds : PySem.W.isFn K (.ref f_House_crowds) = true)
    (l_House_meetings : K.lookup f_House_meetings = some ⟨oc_House_meetings, od_House_meetings, .func (PySem.W.fnOf "meetings" "House.meetings" (defArgs s_House_meetings) (defBody s_House_meetings) (defScope s_House_meetings) .none kV_House_meetings dc_House_meetings pm_House_meetings an_House_meetings cd_House_meetings ct_House_meetings), sl_House_meetings⟩)
    (c_House_meetings : PySem.W.codeIn K cd_House_meetings "House.meetings" = true)
    (k_House_meetings : PySem.W.keepIn K (.ref f_House_meetings) = true)
    (fn_House_meetings : PySem.W.isFn K (.ref f_House_meetings) = true)
    (a_kinds_in : PySem.W.nsIn K mainGlobals "kinds_in" = some (some (.ref f_kinds_in)))
    (l_kinds_in : K.lookup f_kinds_in = some ⟨oc_kinds_in, od_kinds_in, .func (PySem.W.fnOf "kinds_in" "kinds_in" (defArgs s_kinds_in) (defBody s_kinds_in) (defScope s_kinds_in) .none kV_kinds_in dc_kinds_in pm_kinds_in an_kinds_in cd_kinds_in ct_kinds_in), sl_kinds_in⟩)
    (c_kinds_in : PySem.W.codeIn K cd_kinds_in "kinds_in" = true)
    (k_kinds_in : PySem.W.keepIn K (.ref f_kinds_in) = true)
    (a_count_customs : PySem.W.nsIn K mainGlobals "count_customs" = some (some (.ref f_count_customs)))
    (l_count_customs : K.lookup f_count_customs = some ⟨oc_count_customs, od_count_customs, .func (PySem.W.fnOf "count_customs" "count_customs" (defArgs s_count_customs) (defBody s_count_customs) (defScope s_count_customs) .none kV_count_customs dc_count_customs pm_count_customs an_count_customs cd_count_customs ct_count_customs), sl_count_customs⟩)
    (c_count_customs : PySem.W.codeIn K cd_count_customs "count_customs" = true)
    (k_count_customs : PySem.W.keepIn K (.ref f_count_customs) = true)
    (a_check_answers : PySem.W.nsIn K mainGlobals "check_answers" = some (some (.ref f_check_answers)))
    (l_check_answers : K.lookup f_check_answers = some ⟨oc_check_answers, od_check_answers, .func (PySem.W.fnOf "check_answers" "check_answers" (defArgs s_check_answers) (defBody s_check_answers) (defScope s_check_answers) .none kV_check_answers dc_check_answers pm_check_answers an_check_answers cd_check_answers ct_check_answers), sl_check_answers⟩)
    (c_check_answers : PySem.W.codeIn K cd_check_answers "check_answers" = true)
    (k_check_answers : PySem.W.keepIn K (.ref f_check_answers) = true)
    (l_Custom___init__ : K.lookup f_Custom___init__ = some ⟨oc_Custom___init__, od_Custom___init__, .func (PySem.W.fnOf "__init__" "Custom.__init__" (defArgs s_Custom___init__) (defBody s_Custom___init__) (defScope s_Custom___init__) .none kV_Custom___init__ dc_Custom___init__ pm_Custom___init__ an_Custom___init__ cd_Custom___init__ ct_Custom___init__), sl_Custom___init__⟩)
    (c_Custom___init__ : PySem.W.codeIn K cd_Custom___init__ "Custom.__init__" = true)
    (k_Custom___init__ : PySem.W.keepIn K (.ref f_Custom___init__) = true)
    (fn_Custom___init__ : PySem.W.isFn K (.ref f_Custom___init__) = true)
    (l_Custom_table : K.lookup f_Custom_table = some ⟨oc_Custom_table, od_Custom_table, .func (PySem.W.fnOf "table" "Custom.table" (defArgs s_Custom_table) (defBody s_Custom_table) (defScope s_Custom_table) .none kV_Custom_table dc_Custom_table pm_Custom_table an_Custom_table cd_Custom_table ct_Custom_table), sl_Custom_table⟩)
    (c_Custom_table : PySem.W.codeIn K cd_Custom_table "Custom.table" = true)
    (k_Custom_table : PySem.W.keepIn K (.ref f_Custom_table) = true)
    (fn_Custom_table : PySem.W.isFn K (.ref f_Custom_table) = true)
    (a_number_of : PySem.W.nsIn K mainGlobals "number_of" = some (some (.ref f_number_of)))
    (l_number_of : K.lookup f_number_of = some ⟨oc_number_of, od_number_of, .func (PySem.W.fnOf "number_of" "number_of" (defArgs s_number_of) (defBody s_number_of) (defScope s_number_of) .none kV_number_of dc_number_of pm_number_of an_number_of cd_number_of ct_number_of), sl_number_of⟩)
    (c_number_of : PySem.W.codeIn K cd_number_of "number_of" = true)
    (k_number_of : PySem.W.keepIn K (.ref f_number_of) = true)
    (a_custom_at : PySem.W.nsIn K mainGlobals "custom_at" = some (some (.ref f_custom_at)))
    (l_custom_at : K.lookup f_custom_at = some ⟨oc_custom_at, od_custom_at, .func (PySem.W.fnOf "custom_at" "custom_at" (defArgs s_custom_at) (defBody s_custom_at) (defScope s_custom_at) .none kV_custom_at dc_custom_at pm_custom_at an_custom_at cd_custom_at ct_custom_at), sl_custom_at⟩)
    (c_custom_at : PySem.W.codeIn K cd_custom_at "custom_at" = true)
    (k_custom_at : PySem.W.keepIn K (.ref f_custom_at) = true)
    (a__law_refused_number : PySem.W.nsIn K mainGlobals "_law_refused_number" = some (some (.ref f__law_refused_number)))
    (l__law_refused_number : K.lookup f__law_refused_number = some ⟨oc__law_refused_number, od__law_refused_number, .func (PySem.W.fnOf "_law_refused_number" "_law_refused_number" (defArgs s__law_refused_number) (defBody s__law_refused_number) (defScope s__law_refused_number) .none kV__law_refused_number dc__law_refused_number pm__law_refused_number an__law_refused_number cd__law_refused_number ct__law_refused_number), sl__law_refused_number⟩)
    (c__law_refused_number : PySem.W.codeIn K cd__law_refused_number "_law_refused_number" = true)
    (k__law_refused_number : PySem.W.keepIn K (.ref f__law_refused_number) = true)
    (a__law_answers : PySem.W.nsIn K mainGlobals "_law_answers" = some (some (.ref f__law_answers)))
    (l__law_answers : K.lookup f__law_answers = some ⟨oc__law_answers, od__law_answers, .func (PySem.W.fnOf "_law_answers" "_law_answers" (defArgs s__law_answers) (defBody s__law_answers) (defScope s__law_answers) .none kV__law_answers dc__law_answers pm__law_answers an__law_answers cd__law_answers ct__law_answers), sl__law_answers⟩)
    (c__law_answers : PySem.W.codeIn K cd__law_answers "_law_answers" = true)
    (k__law_answers : PySem.W.keepIn K (.ref f__law_answers) = true)
    (l_House___eq__ : K.lookup f_House___eq__ = some ⟨oc_House___eq__, od_House___eq__, .func (PySem.W.fnOf "__eq__" "House.__eq__" (defArgs s_House___eq__) (defBody s_House___eq__) (defScope s_House___eq__) .none kV_House___eq__ dc_House___eq__ pm_House___eq__ an_House___eq__ cd_House___eq__ ct_House___eq__), sl_House___eq__⟩)
    (c_House___eq__ : PySem.W.codeIn K cd_House___eq__ "House.__eq__" = true)
    (k_House___eq__ : PySem.W.keepIn K (.ref f_House___eq__) = true)
    (fn_House___eq__ : PySem.W.isFn K (.ref f_House___eq__) = true)
    (a__law_number_holds : PySem.W.nsIn K mainGlobals "_law_number_holds" = some (some (.ref f__law_number_holds)))
    (l__law_number_holds : K.lookup f__law_number_holds = some ⟨oc__law_number_holds, od__law_number_holds, .func (PySem.W.fnOf "_law_number_holds" "_law_number_holds" (defArgs s__law_number_holds) (defBody s__law_number_holds) (defScope s__law_number_holds) .none kV__law_number_holds dc__law_number_holds pm__law_number_holds an__law_number_holds cd__law_number_holds ct__law_number_holds), sl__law_number_holds⟩)
    (c__law_number_holds : PySem.W.codeIn K cd__law_number_holds "_law_number_holds" = true)
    (k__law_number_holds : PySem.W.keepIn K (.ref f__law_number_holds) = true)
    (a_law : PySem.W.nsIn K mainGlobals "law" = some (some (.ref f_law)))
    (l_law : K.lookup f_law = some ⟨oc_law, od_law, .func (PySem.W.fnOf "law" "law" (defArgs s_law) (defBody s_law) (defScope s_law) .none kV_law dc_law pm_law an_law cd_law ct_law), sl_law⟩)
    (c_law : PySem.W.codeIn K cd_law "law" = true)
    (k_law : PySem.W.keepIn K (.ref f_law) = true)
    (z_ValueError : PySem.W.nsIn K mainGlobals "ValueError" = some none)
    (z_abs : PySem.W.nsIn K mainGlobals "abs" = some none)
    (z_all : PySem.W.nsIn K mainGlobals "all" = some none)
    (z_bool : PySem.W.nsIn K mainGlobals "bool" = some none)
    (z_divmod : PySem.W.nsIn K mainGlobals "divmod" = some none)
    (z_enumerate : PySem.W.nsIn K mainGlobals "enumerate" = some none)
    (z_int : PySem.W.nsIn K mainGlobals "int" = some none)
    (z_isinstance : PySem.W.nsIn K mainGlobals "isinstance" = some none)
    (z_len : PySem.W.nsIn K mainGlobals "len" = some none)
    (z_list : PySem.W.nsIn K mainGlobals "list" = some none)
    (z_min : PySem.W.nsIn K mainGlobals "min" = some none)
    (z_range : PySem.W.nsIn K mainGlobals "range" = some none)
    (z_reversed : PySem.W.nsIn K mainGlobals "reversed" = some none)
    (z_str : PySem.W.nsIn K mainGlobals "str" = some none)
    (z_sum : PySem.W.nsIn K mainGlobals "sum" = some none)
    (z_tuple : PySem.W.nsIn K mainGlobals "tuple" = some none)
    (z_zip : PySem.W.nsIn K mainGlobals "zip" = some none)
    (z_super : PySem.W.nsIn K mainGlobals "super" = some none)
    {C_HallError : Addr}
    (a_HallError : PySem.W.nsIn K mainGlobals "HallError" = some (some (.ref C_HallError)))
    {C_BadHouse I_BadHouse cc_BadHouse cda_BadHouse : Addr} {nm_BadHouse q_BadHouse : Str} {NN_BadHouse : Addr} {bs_BadHouse bm_BadHouse : List Value} {sn_BadHouse : List Str} {sub_BadHouse : List Value} {ab_BadHouse : Bool} {col_BadHouse : Option Bool} {dd_BadHouse : Option Addr} {m0_BadHouse m1_BadHouse m2_BadHouse m3_BadHouse m5_BadHouse : Option Value}
    {od_BadHouse an_BadHouse cdd_BadHouse cld_BadHouse : Option Addr} {sl_BadHouse ccs_BadHouse csl_BadHouse : Array (Option Value)} {oc_BadHouse dc_BadHouse pm_BadHouse ct_BadHouse ccl_BadHouse cl_BadHouse : Value} {vs_BadHouse : Array Value} {file_BadHouse : Str} {tf_BadHouse : Tok}
    (a_BadHouse : PySem.W.nsIn K mainGlobals "BadHouse" = some (some (.ref C_BadHouse)))
    (x_BadHouse : K.lookup C_BadHouse = some (excClassObj nm_BadHouse q_BadHouse C_BadHouse NN_BadHouse bs_BadHouse bm_BadHouse true sn_BadHouse sub_BadHouse ab_BadHouse col_BadHouse dd_BadHouse m0_BadHouse m1_BadHouse m2_BadHouse m3_BadHouse m5_BadHouse "ValueError.__new__"))
    (bm_ok_BadHouse : PySem.HandSPX.refsVE bm_BadHouse = true)
    (sa_BadHouse : PySem.W.findIn K (.ref C_BadHouse) "__setattr__" = some (some (.builtin "object.__setattr__")))
    (ga_BadHouse : PySem.W.findIn K (.ref C_BadHouse) "__getattribute__" = some (some (.builtin "BaseException.__getattribute__")))
    (gg_BadHouse : PySem.W.findIn K (.ref C_BadHouse) "__getattr__" = some none)
    (nn_BadHouse : PySem.W.findIn K (.ref C_BadHouse) "what" = some none)
    (i_BadHouse : PySem.W.findIn K (.ref C_BadHouse) "__init__" = some (some (.ref I_BadHouse)))
    (t_BadHouse : PySem.W.typeIn K (.ref I_BadHouse) = some (.type "function"))
    (kc_BadHouse : PySem.W.keepIn K (.ref C_BadHouse) = true)
    (ec_BadHouse : PySem.W.subIn K (.ref C_BadHouse) (.type "BaseException") = some true)
    (vc_BadHouse : PySem.W.subIn K (.ref C_BadHouse) (.type "ValueError") = some true)
    (ty_BadHouse : PySem.W.typeIn K (.ref C_BadHouse) = some (.type "type"))
    (hd_BadHouse : PySem.W.hasDictIn K C_BadHouse = true)
    (sp_BadHouse : PySem.W.ks_superIn K C_BadHouse C_BadHouse "__init__" = some (some (.builtin "ValueError.__init__")))
    (l_BadHouse : K.lookup I_BadHouse = some ⟨oc_BadHouse, od_BadHouse, .func (PySem.W.ksFn "__init__" "BadHouse.__init__" (PySem.SupX.sArgs "what" ⟨9, 17, 9, 21⟩ ⟨9, 23, 9, 27⟩) (PySem.SupX.sBody "what" "an argument of the house is out of its bounds" ⟨10, 8, 10, 13⟩ ⟨10, 8, 10, 15⟩ ⟨10, 8, 10, 24⟩ ⟨10, 25, 10, 72⟩ ⟨10, 8, 10, 73⟩ ⟨10, 8, 10, 73⟩ ⟨11, 8, 11, 12⟩ ⟨11, 8, 11, 17⟩ ⟨11, 20, 11, 24⟩ ⟨11, 8, 11, 24⟩) (PySem.SupX.sScope "what") .none .none dc_BadHouse pm_BadHouse an_BadHouse (.ref cda_BadHouse) ct_BadHouse cc_BadHouse), sl_BadHouse⟩)
    (c_BadHouse : PySem.W.codeIn K (.ref cda_BadHouse) "BadHouse.__init__" = true)
    (cd_BadHouse : K.lookup cda_BadHouse = some ⟨ccl_BadHouse, cdd_BadHouse, .fields vs_BadHouse, ccs_BadHouse⟩)
    (vs2_BadHouse : vs_BadHouse[2]? = some (.str file_BadHouse tf_BadHouse))
    (fi_BadHouse : ((PySem.Challenge.pw_fewchairs_k04_custom_numbers.main.file : Str) == file_BadHouse) = true)
    (ce_BadHouse : K.lookup cc_BadHouse = some ⟨cl_BadHouse, cld_BadHouse, .cell (some (.ref C_BadHouse)), csl_BadHouse⟩)
    {C_BadCustom I_BadCustom cc_BadCustom cda_BadCustom : Addr} {nm_BadCustom q_BadCustom : Str} {NN_BadCustom : Addr} {bs_BadCustom bm_BadCustom : List Value} {sn_BadCustom : List Str} {sub_BadCustom : List Value} {ab_BadCustom : Bool} {col_BadCustom : Option Bool} {dd_BadCustom : Option Addr} {m0_BadCustom m1_BadCustom m2_BadCustom m3_BadCustom m5_BadCustom : Option Value}
    {od_BadCustom an_BadCustom cdd_BadCustom cld_BadCustom : Option Addr} {sl_BadCustom ccs_BadCustom csl_BadCustom : Array (Option Value)} {oc_BadCustom dc_BadCustom pm_BadCustom ct_BadCustom ccl_BadCustom cl_BadCustom : Value} {vs_BadCustom : Array Value} {file_BadCustom : Str} {tf_BadCustom : Tok}
    (a_BadCustom : PySem.W.nsIn K mainGlobals "BadCustom" = some (some (.ref C_BadCustom)))
    (x_BadCustom : K.lookup C_BadCustom = some (excClassObj nm_BadCustom q_BadCustom C_BadCustom NN_BadCustom bs_BadCustom bm_BadCustom true sn_BadCustom sub_BadCustom ab_BadCustom col_BadCustom dd_BadCustom m0_BadCustom m1_BadCustom m2_BadCustom m3_BadCustom m5_BadCustom "ValueError.__new__"))
    (bm_ok_BadCustom : PySem.HandSPX.refsVE bm_BadCustom = true)
    (sa_BadCustom : PySem.W.findIn K (.ref C_BadCustom) "__setattr__" = some (some (.builtin "object.__setattr__")))
    (ga_BadCustom : PySem.W.findIn K (.ref C_BadCustom) "__getattribute__" = some (some (.builtin "BaseException.__getattribute__")))
    (gg_BadCustom : PySem.W.findIn K (.ref C_BadCustom) "__getattr__" = some none)
    (nn_BadCustom : PySem.W.findIn K (.ref C_BadCustom) "at" = some none)
    (i_BadCustom : PySem.W.findIn K (.ref C_BadCustom) "__init__" = some (some (.ref I_BadCustom)))
    (t_BadCustom : PySem.W.typeIn K (.ref I_BadCustom) = some (.type "function"))
    (kc_BadCustom : PySem.W.keepIn K (.ref C_BadCustom) = true)
    (ec_BadCustom : PySem.W.subIn K (.ref C_BadCustom) (.type "BaseException") = some true)
    (vc_BadCustom : PySem.W.subIn K (.ref C_BadCustom) (.type "ValueError") = some true)
    (ty_BadCustom : PySem.W.typeIn K (.ref C_BadCustom) = some (.type "type"))
    (hd_BadCustom : PySem.W.hasDictIn K C_BadCustom = true)
    (sp_BadCustom : PySem.W.ks_superIn K C_BadCustom C_BadCustom "__init__" = some (some (.builtin "ValueError.__init__")))
    (l_BadCustom : K.lookup I_BadCustom = some ⟨oc_BadCustom, od_BadCustom, .func (PySem.W.ksFn "__init__" "BadCustom.__init__" (PySem.SupX.sArgs "at" ⟨19, 17, 19, 21⟩ ⟨19, 23, 19, 25⟩) (PySem.SupX.sBody "at" "the answers do not fit the meetings" ⟨20, 8, 20, 13⟩ ⟨20, 8, 20, 15⟩ ⟨20, 8, 20, 24⟩ ⟨20, 25, 20, 62⟩ ⟨20, 8, 20, 63⟩ ⟨20, 8, 20, 63⟩ ⟨21, 8, 21, 12⟩ ⟨21, 8, 21, 15⟩ ⟨21, 18, 21, 20⟩ ⟨21, 8, 21, 20⟩) (PySem.SupX.sScope "at") .none .none dc_BadCustom pm_BadCustom an_BadCustom (.ref cda_BadCustom) ct_BadCustom cc_BadCustom), sl_BadCustom⟩)
    (c_BadCustom : PySem.W.codeIn K (.ref cda_BadCustom) "BadCustom.__init__" = true)
    (cd_BadCustom : K.lookup cda_BadCustom = some ⟨ccl_BadCustom, cdd_BadCustom, .fields vs_BadCustom, ccs_BadCustom⟩)
    (vs2_BadCustom : vs_BadCustom[2]? = some (.str file_BadCustom tf_BadCustom))
    (fi_BadCustom : ((PySem.Challenge.pw_fewchairs_k04_custom_numbers.main.file : Str) == file_BadCustom) = true)
    (ce_BadCustom : K.lookup cc_BadCustom = some ⟨cl_BadCustom, cld_BadCustom, .cell (some (.ref C_BadCustom)), csl_BadCustom⟩)
    {C_BadNumber I_BadNumber cc_BadNumber cda_BadNumber : Addr} {nm_BadNumber q_BadNumber : Str} {NN_BadNumber : Addr} {bs_BadNumber bm_BadNumber : List Value} {sn_BadNumber : List Str} {sub_BadNumber : List Value} {ab_BadNumber : Bool} {col_BadNumber : Option Bool} {dd_BadNumber : Option Addr} {m0_BadNumber m1_BadNumber m2_BadNumber m3_BadNumber m5_BadNumber : Option Value}
    {od_BadNumber an_BadNumber cdd_BadNumber cld_BadNumber : Option Addr} {sl_BadNumber ccs_BadNumber csl_BadNumber : Array (Option Value)} {oc_BadNumber dc_BadNumber pm_BadNumber ct_BadNumber ccl_BadNumber cl_BadNumber : Value} {vs_BadNumber : Array Value} {file_BadNumber : Str} {tf_BadNumber : Tok}
    (a_BadNumber : PySem.W.nsIn K mainGlobals "BadNumber" = some (some (.ref C_BadNumber)))
    (x_BadNumber : K.lookup C_BadNumber = some (excClassObj nm_BadNumber q_BadNumber C_BadNumber NN_BadNumber bs_BadNumber bm_BadNumber true sn_BadNumber sub_BadNumber ab_BadNumber col_BadNumber dd_BadNumber m0_BadNumber m1_BadNumber m2_BadNumber m3_BadNumber m5_BadNumber "ValueError.__new__"))
    (bm_ok_BadNumber : PySem.HandSPX.refsVE bm_BadNumber = true)
    (sa_BadNumber : PySem.W.findIn K (.ref C_BadNumber) "__setattr__" = some (some (.builtin "object.__setattr__")))
    (ga_BadNumber : PySem.W.findIn K (.ref C_BadNumber) "__getattribute__" = some (some (.builtin "BaseException.__getattribute__")))
    (gg_BadNumber : PySem.W.findIn K (.ref C_BadNumber) "__getattr__" = some none)
    (nn_BadNumber : PySem.W.findIn K (.ref C_BadNumber) "number" = some none)
    (i_BadNumber : PySem.W.findIn K (.ref C_BadNumber) "__init__" = some (some (.ref I_BadNumber)))
    (t_BadNumber : PySem.W.typeIn K (.ref I_BadNumber) = some (.type "function"))
    (kc_BadNumber : PySem.W.keepIn K (.ref C_BadNumber) = true)
    (ec_BadNumber : PySem.W.subIn K (.ref C_BadNumber) (.type "BaseException") = some true)
    (vc_BadNumber : PySem.W.subIn K (.ref C_BadNumber) (.type "ValueError") = some true)
    (ty_BadNumber : PySem.W.typeIn K (.ref C_BadNumber) = some (.type "type"))
    (hd_BadNumber : PySem.W.hasDictIn K C_BadNumber = true)
    (sp_BadNumber : PySem.W.ks_superIn K C_BadNumber C_BadNumber "__init__" = some (some (.builtin "ValueError.__init__")))
    (l_BadNumber : K.lookup I_BadNumber = some ⟨oc_BadNumber, od_BadNumber, .func (PySem.W.ksFn "__init__" "BadNumber.__init__" (PySem.SupX.sArgs "number" ⟨24, 17, 24, 21⟩ ⟨24, 23, 24, 29⟩) (PySem.SupX.sBody "number" "the number is out of its bounds" ⟨25, 8, 25, 13⟩ ⟨25, 8, 25, 15⟩ ⟨25, 8, 25, 24⟩ ⟨25, 25, 25, 58⟩ ⟨25, 8, 25, 59⟩ ⟨25, 8, 25, 59⟩ ⟨26, 8, 26, 12⟩ ⟨26, 8, 26, 19⟩ ⟨26, 22, 26, 28⟩ ⟨26, 8, 26, 28⟩) (PySem.SupX.sScope "number") .none .none dc_BadNumber pm_BadNumber an_BadNumber (.ref cda_BadNumber) ct_BadNumber cc_BadNumber), sl_BadNumber⟩)
    (c_BadNumber : PySem.W.codeIn K (.ref cda_BadNumber) "BadNumber.__init__" = true)
    (cd_BadNumber : K.lookup cda_BadNumber = some ⟨ccl_BadNumber, cdd_BadNumber, .fields vs_BadNumber, ccs_BadNumber⟩)
    (vs2_BadNumber : vs_BadNumber[2]? = some (.str file_BadNumber tf_BadNumber))
    (fi_BadNumber : ((PySem.Challenge.pw_fewchairs_k04_custom_numbers.main.file : Str) == file_BadNumber) = true)
    (ce_BadNumber : K.lookup cc_BadNumber = some ⟨cl_BadNumber, cld_BadNumber, .cell (some (.ref C_BadNumber)), csl_BadNumber⟩)
    (opq : PySem.W.nsIn K PySem.cStatics "thirdparty.any" = some none)
    (cls_BadNumber : PySem.W.findIn K (.ref C_BadNumber) "__class__" = some (some (.builtin "object.__class__")))
    (mo_BadNumber : PySem.W.mroIn K C_BadNumber (.type "object") = some true)
    (isc_BadNumber : PySem.W.isClsIn K C_BadNumber = true)
    (ss_BadNumber_BadNumber : PySem.W.subIn K (.ref C_BadNumber) (.ref C_BadNumber) = some true)
    (kit_BadNumber_BadCustom : PySem.W.kitOne K (.ref C_BadNumber) (.ref C_BadCustom) = some false)
    (kit_BadNumber_HallError : PySem.W.kitOne K (.ref C_BadNumber) (.ref C_HallError) = some true)
    (kit_BadNumber_ValueError : PySem.W.kitOne K (.ref C_BadNumber) (.type "ValueError") = some true)
    (goodS : ∀ ns : List Int, ns.length ≤ 63 → ∃ S', F_law [.lst (ns.map Dv.int)] [] = some (.ok (.bl true) S')) :
    ∃ fd : FuncData, (∀ (s : Shared) (v : Value), BindsTo s fd ⟨[v], []⟩ [("script", v)]) ∧ ∀ base : Heap, K.In base → base.Ns mainGlobals mg → FnOk l.prog w K mg base (L2.CX l.prog w) 12 fa fd ["script"] (spLaw 63 K) := by
  have e := hfa.symm.trans (PySem.W.mg_of X G a_law)
  cases e
  rw [hl]
  have F_law_pool := fun_mk (st := s__law_pool) l__law_pool c__law_pool k__law_pool
  have F_law_draw := fun_mk (st := s__law_draw) l__law_draw c__law_draw k__law_draw
  have F_law_house := fun_mk (st := s__law_house) l__law_house c__law_house k__law_house
  have F_law_any_house := fun_mk (st := s__law_any_house) l__law_any_house c__law_any_house k__law_any_house
  have FHouse___init__ := fun_mk (st := s_House___init__) l_House___init__ c_House___init__ k_House___init__
  have F_law_parts := fun_mk (st := s__law_parts) l__law_parts c__law_parts k__law_parts
  have F_law_table := fun_mk (st := s__law_table) l__law_table c__law_table k__law_table
  have F_law_inside := fun_mk (st := s__law_inside) l__law_inside c__law_inside k__law_inside
  have F_law_number := fun_mk (st := s__law_number) l__law_number c__law_number k__law_number
  have F_law_same := fun_mk (st := s__law_same) l__law_same c__law_same k__law_same
  have Fsize := fun_mk (st := s_size) l_size c_size k_size
  have F_first_part := fun_mk (st := s__first_part) l__first_part c__first_part k__first_part
  have F_next_part := fun_mk (st := s__next_part) l__next_part c__next_part k__next_part
  have Fpart_list := fun_mk (st := s_part_list) l_part_list c_part_list k_part_list
  have FHouse_crowds := fun_mk (st := s_House_crowds) l_House_crowds c_House_crowds k_House_crowds
  have FHouse_meetings := fun_mk (st := s_House_meetings) l_House_meetings c_House_meetings k_House_meetings
  have Fkinds_in := fun_mk (st := s_kinds_in) l_kinds_in c_kinds_in k_kinds_in
  have Fcount_customs := fun_mk (st := s_count_customs) l_count_customs c_count_customs k_count_customs
  have Fcheck_answers := fun_mk (st := s_check_answers) l_check_answers c_check_answers k_check_answers
  have FCustom___init__ := fun_mk (st := s_Custom___init__) l_Custom___init__ c_Custom___init__ k_Custom___init__
  have FCustom_table := fun_mk (st := s_Custom_table) l_Custom_table c_Custom_table k_Custom_table
  have Fnumber_of := fun_mk (st := s_number_of) l_number_of c_number_of k_number_of
  have Fcustom_at := fun_mk (st := s_custom_at) l_custom_at c_custom_at k_custom_at
  have F_law_refused_number := fun_mk (st := s__law_refused_number) l__law_refused_number c__law_refused_number k__law_refused_number
  have F_law_answers := fun_mk (st := s__law_answers) l__law_answers c__law_answers k__law_answers
  have FHouse___eq__ := fun_mk (st := s_House___eq__) l_House___eq__ c_House___eq__ k_House___eq__
  have F_law_number_holds := fun_mk (st := s__law_number_holds) l__law_number_holds c__law_number_holds k__law_number_holds
  have Flaw := fun_mk (st := s_law) l_law c_law k_law
  have B_law_pool := F_law_pool.binds (ps := ["script", "at"]) fun _ _ _ _ _ _ us hl => match us, hl with | [_, _], _ => rfl
  have B_law_draw := F_law_draw.binds (ps := ["pool", "many"]) fun _ _ _ _ _ _ us hl => match us, hl with | [_, _], _ => rfl
  have B_law_house := F_law_house.binds (ps := ["pool"]) fun _ _ _ _ _ _ us hl => match us, hl with | [_], _ => rfl
  have B_law_any_house := F_law_any_house.binds (ps := ["pool"]) fun _ _ _ _ _ _ us hl => match us, hl with | [_], _ => rfl
  have DHouse___init__ : FunD K "__init__" "House.__init__" (defArgs s_House___init__) (defBody s_House___init__) (defScope s_House___init__) [] [("most", V.ref T_House___init___most)] f_House___init__ _ := ⟨⟨_, _, _, _, _, _, _, _, _, _, rfl, l_House___init__, c_House___init__, .inl ⟨rfl, rfl⟩, .inr ⟨D_House___init__, rfl, fun q hq => by rw [List.mem_singleton.mp hq]; exact ⟨_, kd_House___init___most, rfl⟩⟩⟩, k_House___init__⟩
  obtain ⟨ddsHouse___init__, DVHouse___init__, DBHouse___init__⟩ := FunD.binds0 (ps := ["self", "kinds", "chairs", "most"]) DHouse___init__ 3 (by simp) rfl fun D doc pm an cdv ct us ks h1 h2 => match us, ks, h1, h2 with | [_, _, _], [_], _, _ => ⟨_, _, _, _, _, _, rfl, rfl, rfl⟩
  obtain ⟨_, KBHouse___init__⟩ := FunD.kbinds0 (ps := ["self", "kinds", "chairs", "most"]) DHouse___init__ 3 ["most"] [] (fun x _ y => x ++ y) (by simp) (fun q hq => by cases hq) (fun r1 _ r3 => r1.append r3) fun D doc pm an cdv ct us mv ws h1 h2 h3 => match us, mv, ws, h1, h2, h3 with | [_, _, _], [], [_], _, _, _ => rfl
  have DDHouse___init__ : ∀ cA : Str → Addr, DfOk ⟨K, cA⟩ [V.ref T_House___init___most] [.tup []] := fun cA w => .cons (.tup (.inr ⟨rfl, _, _, _, kt_House___init___most, rfl, rfl, by decide, .nil⟩) .nil) .nil
  have B_law_parts := F_law_parts.binds (ps := ["limits", "number"]) fun _ _ _ _ _ _ us hl => match us, hl with | [_, _], _ => rfl
  have B_law_table := F_law_table.binds (ps := ["pool", "limits", "chairs"]) fun _ _ _ _ _ _ us hl => match us, hl with | [_, _, _], _ => rfl
  have B_law_inside := F_law_inside.binds (ps := ["meeting"]) fun _ _ _ _ _ _ us hl => match us, hl with | [_], _ => rfl
  have B_law_number := F_law_number.binds (ps := ["meetings", "answers"]) fun _ _ _ _ _ _ us hl => match us, hl with | [_, _], _ => rfl
  have B_law_same := F_law_same.binds (ps := ["got", "due"]) fun _ _ _ _ _ _ us hl => match us, hl with | [_, _], _ => rfl
  have Bsize := Fsize.binds (ps := ["crowd"]) fun _ _ _ _ _ _ us hl => match us, hl with | [_], _ => rfl
  have B_first_part := F_first_part.binds (ps := ["crowd", "number"]) fun _ _ _ _ _ _ us hl => match us, hl with | [_, _], _ => rfl
  have B_next_part := F_next_part.binds (ps := ["crowd", "part"]) fun _ _ _ _ _ _ us hl => match us, hl with | [_, _], _ => rfl
  have Bpart_list := Fpart_list.binds (ps := ["crowd", "number"]) fun _ _ _ _ _ _ us hl => match us, hl with | [_, _], _ => rfl
  have BHouse_crowds := FHouse_crowds.binds (ps := ["self", "number"]) fun _ _ _ _ _ _ us hl => match us, hl with | [_, _], _ => rfl
  have BHouse_meetings := FHouse_meetings.binds (ps := ["self"]) fun _ _ _ _ _ _ us hl => match us, hl with | [_], _ => rfl
  have Bkinds_in := Fkinds_in.binds (ps := ["crowd"]) fun _ _ _ _ _ _ us hl => match us, hl with | [_], _ => rfl
  have Bcount_customs := Fcount_customs.binds (ps := ["house"]) fun _ _ _ _ _ _ us hl => match us, hl with | [_], _ => rfl
  have Bcheck_answers := Fcheck_answers.binds (ps := ["choices", "answers"]) fun _ _ _ _ _ _ us hl => match us, hl with | [_, _], _ => rfl
  have BCustom___init__ := FCustom___init__.binds (ps := ["self", "house", "answers"]) fun _ _ _ _ _ _ us hl => match us, hl with | [_, _, _], _ => rfl
  have BCustom_table := FCustom_table.binds (ps := ["self"]) fun _ _ _ _ _ _ us hl => match us, hl with | [_], _ => rfl
  have Bnumber_of := Fnumber_of.binds (ps := ["custom"]) fun _ _ _ _ _ _ us hl => match us, hl with | [_], _ => rfl
  have Bcustom_at := Fcustom_at.binds (ps := ["house", "number"]) fun _ _ _ _ _ _ us hl => match us, hl with | [_, _], _ => rfl
  have B_law_refused_number := F_law_refused_number.binds (ps := ["house", "number"]) fun _ _ _ _ _ _ us hl => match us, hl with | [_, _], _ => rfl
  have B_law_answers := F_law_answers.binds (ps := ["meetings", "number", "count"]) fun _ _ _ _ _ _ us hl => match us, hl with | [_, _, _], _ => rfl
  have BHouse___eq__ := FHouse___eq__.binds (ps := ["self", "other"]) fun _ _ _ _ _ _ us hl => match us, hl with | [_, _], _ => rfl
  have B_law_number_holds := F_law_number_holds.binds (ps := ["house", "meetings", "number", "count"]) fun _ _ _ _ _ _ us hl => match us, hl with | [_, _, _, _], _ => rfl
  have gCustom := PySem.W.mg_of X G a_Custom
  have coCustom : cOf mg "Custom" = C_Custom := cOf_of gCustom
  have gHouse := PySem.W.mg_of X G a_House
  have coHouse : cOf mg "House" = C_House := cOf_of gHouse
  have gHallError := PySem.W.mg_of X G a_HallError
  have coHallError : cOf mg "HallError" = C_HallError := cOf_of gHallError
  have gBadHouse := PySem.W.mg_of X G a_BadHouse
  have coBadHouse : cOf mg "BadHouse" = C_BadHouse := cOf_of gBadHouse
  have gBadCustom := PySem.W.mg_of X G a_BadCustom
  have coBadCustom : cOf mg "BadCustom" = C_BadCustom := cOf_of gBadCustom
  have gBadNumber := PySem.W.mg_of X G a_BadNumber
  have coBadNumber : cOf mg "BadNumber" = C_BadNumber := cOf_of gBadNumber
  have TBadHouse : SupTxt PySem.Challenge.pw_fewchairs_k04_custom_numbers K mg "BadHouse" "what" C_BadHouse I_BadHouse := { gC := gBadHouse, cls := ⟨_, _, _, _, _, _, _, _, _, _, _, _, _, _, _, x_BadHouse, bm_ok_BadHouse⟩, sa := sa_BadHouse, ga := ga_BadHouse, gg := gg_BadHouse, noN := nn_BadHouse, iC := i_BadHouse, tC := t_BadHouse, kC := kc_BadHouse, exC := ec_BadHouse, vC := vc_BadHouse, tyC := ty_BadHouse, hdC := hd_BadHouse, opq := opq, spI := sp_BadHouse, spN := PySem.W.mg_none_of X G z_super, top := (by decide +kernel), l1 := rfl, l2 := rfl, l3 := rfl, l4 := (by decide), l5 := (by decide), fn := ⟨"BadHouse.__init__", _, _, _, _, _, _, cda_BadHouse, cc_BadHouse, _, _, _, _, _, _, _, _, _, _, _, _, _, _, _, _, _, _, _, _, _, _, _, l_BadHouse, c_BadHouse, cd_BadHouse, vs2_BadHouse, fi_BadHouse, ce_BadHouse, fun _ _ => rfl, _, fun _ => rfl⟩ }
  have TBadCustom : SupTxt PySem.Challenge.pw_fewchairs_k04_custom_numbers K mg "BadCustom" "at" C_BadCustom I_BadCustom := { gC := gBadCustom, cls := ⟨_, _, _, _, _, _, _, _, _, _, _, _, _, _, _, x_BadCustom, bm_ok_BadCustom⟩, sa := sa_BadCustom, ga := ga_BadCustom, gg := gg_BadCustom, noN := nn_BadCustom, iC := i_BadCustom, tC := t_BadCustom, kC := kc_BadCustom, exC := ec_BadCustom, vC := vc_BadCustom, tyC := ty_BadCustom, hdC := hd_BadCustom, opq := opq, spI := sp_BadCustom, spN := PySem.W.mg_none_of X G z_super, top := (by decide +kernel), l1 := rfl, l2 := rfl, l3 := rfl, l4 := (by decide), l5 := (by decide), fn := ⟨"BadCustom.__init__", _, _, _, _, _, _, cda_BadCustom, cc_BadCustom, _, _, _, _, _, _, _, _, _, _, _, _, _, _, _, _, _, _, _, _, _, _, _, l_BadCustom, c_BadCustom, cd_BadCustom, vs2_BadCustom, fi_BadCustom, ce_BadCustom, fun _ _ => rfl, _, fun _ => rfl⟩ }
  have TBadNumber : SupTxt PySem.Challenge.pw_fewchairs_k04_custom_numbers K mg "BadNumber" "number" C_BadNumber I_BadNumber := { gC := gBadNumber, cls := ⟨_, _, _, _, _, _, _, _, _, _, _, _, _, _, _, x_BadNumber, bm_ok_BadNumber⟩, sa := sa_BadNumber, ga := ga_BadNumber, gg := gg_BadNumber, noN := nn_BadNumber, iC := i_BadNumber, tC := t_BadNumber, kC := kc_BadNumber, exC := ec_BadNumber, vC := vc_BadNumber, tyC := ty_BadNumber, hdC := hd_BadNumber, opq := opq, spI := sp_BadNumber, spN := PySem.W.mg_none_of X G z_super, top := (by decide +kernel), l1 := rfl, l2 := rfl, l3 := rfl, l4 := (by decide), l5 := (by decide), fn := ⟨"BadNumber.__init__", _, _, _, _, _, _, cda_BadNumber, cc_BadNumber, _, _, _, _, _, _, _, _, _, _, _, _, _, _, _, _, _, _, _, _, _, _, _, l_BadNumber, c_BadNumber, cd_BadNumber, vs2_BadNumber, fi_BadNumber, ce_BadNumber, fun _ _ => rfl, _, fun _ => rfl⟩ }
  have iscHouse_House : ∀ c' b, ([("House", true)] : List (Str × Bool)).lookup c' = some b → InsC' K (cOf mg c') ∧ PySem.W.kitOne K (.ref (cOf mg c')) (.ref (cOf mg "House")) = some b := by
    refine lk_all fun q hq => ?_
    simp only [List.mem_cons, List.not_mem_nil, or_false] at hq
    subst hq
    · rw [coHouse]; exact ⟨⟨⟨pg_House, hd_House, po_House, sa_House⟩, cla_House, spg, tko, mo_House⟩, kito_House_House⟩
  let T : Txt PySem.Challenge.pw_fewchairs_k04_custom_numbers K mg := { m_ValueError := PySem.W.mg_none_of X G z_ValueError, m_abs := PySem.W.mg_none_of X G z_abs, m_all := PySem.W.mg_none_of X G z_all, m_bool := PySem.W.mg_none_of X G z_bool, m_divmod := PySem.W.mg_none_of X G z_divmod, m_enumerate := PySem.W.mg_none_of X G z_enumerate, m_int := PySem.W.mg_none_of X G z_int, m_isinstance := PySem.W.mg_none_of X G z_isinstance, m_len := PySem.W.mg_none_of X G z_len, m_list := PySem.W.mg_none_of X G z_list, m_min := PySem.W.mg_none_of X G z_min, m_range := PySem.W.mg_none_of X G z_range, m_reversed := PySem.W.mg_none_of X G z_reversed, m_str := PySem.W.mg_none_of X G z_str, m_sum := PySem.W.mg_none_of X G z_sum, m_tuple := PySem.W.mg_none_of X G z_tuple, m_zip := PySem.W.mg_none_of X G z_zip, f__law_pool := f__law_pool, d__law_pool := _, F__law_pool := F_law_pool, g__law_pool := PySem.W.mg_of X G a__law_pool, B__law_pool := B_law_pool, f__law_draw := f__law_draw, d__law_draw := _, F__law_draw := F_law_draw, g__law_draw := PySem.W.mg_of X G a__law_draw, B__law_draw := B_law_draw, f__law_house := f__law_house, d__law_house := _, F__law_house := F_law_house, g__law_house := PySem.W.mg_of X G a__law_house, B__law_house := B_law_house, f__law_any_house := f__law_any_house, d__law_any_house := _, F__law_any_house := F_law_any_house, g__law_any_house := PySem.W.mg_of X G a__law_any_house, B__law_any_house := B_law_any_house, f_House___init__ := f_House___init__, d_House___init__ := _, F_House___init__ := FHouse___init__, dds_House___init__ := ddsHouse___init__, dvs_House___init__ := [V.ref T_House___init___most], DB_House___init__ := DBHouse___init__, DV_House___init__ := DVHouse___init__, DD_House___init__ := DDHouse___init__, DN_House___init__ := rfl, KB_House___init__ := KBHouse___init__, fn_House___init__ := fn_House___init__, f__law_parts := f__law_parts, d__law_parts := _, F__law_parts := F_law_parts, g__law_parts := PySem.W.mg_of X G a__law_parts, B__law_parts := B_law_parts, f__law_table := f__law_table, d__law_table := _, F__law_table := F_law_table, g__law_table := PySem.W.mg_of X G a__law_table, B__law_table := B_law_table, f__law_inside := f__law_inside, d__law_inside := _, F__law_inside := F_law_inside, g__law_inside := PySem.W.mg_of X G a__law_inside, B__law_inside := B_law_inside, f__law_number := f__law_number, d__law_number := _, F__law_number := F_law_number, g__law_number := PySem.W.mg_of X G a__law_number, B__law_number := B_law_number, f__law_same := f__law_same, d__law_same := _, F__law_same := F_law_same, g__law_same := PySem.W.mg_of X G a__law_same, B__law_same := B_law_same, f_size := f_size, d_size := _, F_size := Fsize, g_size := PySem.W.mg_of X G a_size, B_size := Bsize, f__first_part := f__first_part, d__first_part := _, F__first_part := F_first_part, g__first_part := PySem.W.mg_of X G a__first_part, B__first_part := B_first_part, f__next_part := f__next_part, d__next_part := _, F__next_part := F_next_part, g__next_part := PySem.W.mg_of X G a__next_part, B__next_part := B_next_part, f_part_list := f_part_list, d_part_list := _, F_part_list := Fpart_list, g_part_list := PySem.W.mg_of X G a_part_list, B_part_list := Bpart_list, f_House_crowds := f_House_crowds, d_House_crowds := _, F_House_crowds := FHouse_crowds, B_House_crowds := BHouse_crowds, fn_House_crowds := fn_House_crowds, f_House_meetings := f_House_meetings, d_House_meetings := _, F_House_meetings := FHouse_meetings, B_House_meetings := BHouse_meetings, fn_House_meetings := fn_House_meetings, f_kinds_in := f_kinds_in, d_kinds_in := _, F_kinds_in := Fkinds_in, g_kinds_in := PySem.W.mg_of X G a_kinds_in, B_kinds_in := Bkinds_in, f_count_customs := f_count_customs, d_count_customs := _, F_count_customs := Fcount_customs, g_count_customs := PySem.W.mg_of X G a_count_customs, B_count_customs := Bcount_customs, f_check_answers := f_check_answers, d_check_answers := _, F_check_answers := Fcheck_answers, g_check_answers := PySem.W.mg_of X G a_check_answers, B_check_answers := Bcheck_answers, f_Custom___init__ := f_Custom___init__, d_Custom___init__ := _, F_Custom___init__ := FCustom___init__, B_Custom___init__ := BCustom___init__, fn_Custom___init__ := fn_Custom___init__, f_Custom_table := f_Custom_table, d_Custom_table := _, F_Custom_table := FCustom_table, B_Custom_table := BCustom_table, fn_Custom_table := fn_Custom_table, f_number_of := f_number_of, d_number_of := _, F_number_of := Fnumber_of, g_number_of := PySem.W.mg_of X G a_number_of, B_number_of := Bnumber_of, f_custom_at := f_custom_at, d_custom_at := _, F_custom_at := Fcustom_at, g_custom_at := PySem.W.mg_of X G a_custom_at, B_custom_at := Bcustom_at, f__law_refused_number := f__law_refused_number, d__law_refused_number := _, F__law_refused_number := F_law_refused_number, g__law_refused_number := PySem.W.mg_of X G a__law_refused_number, B__law_refused_number := B_law_refused_number, f__law_answers := f__law_answers, d__law_answers := _, F__law_answers := F_law_answers, g__law_answers := PySem.W.mg_of X G a__law_answers, B__law_answers := B_law_answers, f_House___eq__ := f_House___eq__, d_House___eq__ := _, F_House___eq__ := FHouse___eq__, B_House___eq__ := BHouse___eq__, fn_House___eq__ := fn_House___eq__, f__law_number_holds := f__law_number_holds, d__law_number_holds := _, F__law_number_holds := F_law_number_holds, g__law_number_holds := PySem.W.mg_of X G a__law_number_holds, B__law_number_holds := B_law_number_holds, g_Custom := by rw [coCustom]; exact gCustom, cl_Custom := by rw [coCustom]; exact ⟨pg_Custom, hd_Custom, po_Custom, sa_Custom⟩, cr_Custom := by rw [coCustom]; exact ⟨rd_Custom, ga_Custom⟩, mk_Custom := by rw [coCustom]; exact ⟨mk_Custom, in_Custom, fn_Custom___init__, kp_Custom⟩, g_House := by rw [coHouse]; exact gHouse, cl_House := by rw [coHouse]; exact ⟨pg_House, hd_House, po_House, sa_House⟩, cr_House := by rw [coHouse]; exact ⟨rd_House, ga_House⟩, mk_House := by rw [coHouse]; exact ⟨mk_House, in_House, fn_House___init__, kp_House⟩, eq_House := by rw [coHouse]; exact eq_House, na_Custom__goes := by rw [coCustom]; exact na_Custom__goes, na_Custom_answers := by rw [coCustom]; exact na_Custom_answers, na_Custom_house := by rw [coCustom]; exact na_Custom_house, na_House_chairs := by rw [coHouse]; exact na_House_chairs, na_House_kinds := by rw [coHouse]; exact na_House_kinds, na_House_most := by rw [coHouse]; exact na_House_most, mt_Custom_table := by rw [coCustom]; exact ⟨mt_Custom_table, fn_Custom_table, k_Custom_table⟩, mt_House_crowds := by rw [coHouse]; exact ⟨mt_House_crowds, fn_House_crowds, k_House_crowds⟩, mt_House_meetings := by rw [coHouse]; exact ⟨mt_House_meetings, fn_House_meetings, k_House_meetings⟩, cct_House_CHAIRS := _, cc_House_CHAIRS := by rw [coHouse]; exact cc_House_CHAIRS, cct_House_KINDS := _, cc_House_KINDS := by rw [coHouse]; exact cc_House_KINDS, cct_House_MANY := _, cc_House_MANY := by rw [coHouse]; exact cc_House_MANY, isc_House_House := iscHouse_House, C_HallError := C_HallError, g_HallError := gHallError, C_BadHouse := C_BadHouse, I_BadHouse := I_BadHouse, g_BadHouse := gBadHouse, T_BadHouse := TBadHouse, C_BadCustom := C_BadCustom, I_BadCustom := I_BadCustom, g_BadCustom := gBadCustom, T_BadCustom := TBadCustom, C_BadNumber := C_BadNumber, I_BadNumber := I_BadNumber, g_BadNumber := gBadNumber, T_BadNumber := TBadNumber, xf_BadNumber := by rw [coBadNumber]; exact ⟨ga_BadNumber, gg_BadNumber, ec_BadNumber, hd_BadNumber⟩, xn_BadNumber := by rw [coBadNumber]; exact nn_BadNumber, ec_BadNumber := by rw [coBadNumber]; exact ⟨ga_BadNumber, gg_BadNumber, ec_BadNumber, hd_BadNumber, cls_BadNumber, spg, tko, mo_BadNumber⟩, exm_BadNumber_BadNumber := by rw [coBadNumber]; exact PySem.W.exm_ref ec_BadNumber hd_BadNumber ty_BadNumber ss_BadNumber_BadNumber, kit_BadNumber_BadCustom := by rw [coBadNumber]; exact kit_BadNumber_BadCustom, kit_BadNumber_HallError := by rw [coBadNumber]; exact kit_BadNumber_HallError, kit_BadNumber_ValueError := by rw [coBadNumber]; exact kit_BadNumber_ValueError }
  exact ⟨PySem.W.fnOf "law" "law" (defArgs s_law) (defBody s_law) (defScope s_law) .none kV_law dc_law pm_law an_law cd_law ct_law, fun s v => .of_eq rfl, fun base _ _ => fn_law (ok_law T Flaw) goodS⟩
end FCL
open PySem PySem.W PyProof.Rows
set_option maxHeartbeats 0 in
theorem PySem.Challenge.cw_fewchairs_k04_custom_numbers_holds : PySem.Challenge.rw_fewchairs_k04_custom_numbers.Holds := by
  w_on; o_law; k_head; (case hw => w_witness2)
  k_fill
  refine L2.walk_of (l := PySem.Challenge.rw_fewchairs_k04_custom_numbers) (n := 63) (k := 12) (x := "script") (CX := fun w => L2.CX PySem.Challenge.rw_fewchairs_k04_custom_numbers.prog w) (sp := fun w => FC.spLaw 63 _) rfl (by decide) rfl ⟨rfl, by decide, by decide⟩ (fun w h Y => PySem.W.kIn_of Y) ?F (fun _ _ a ns hl _ hS => ⟨a, ns, rfl, hS, hl, fun _ => rfl⟩) (fun _ _ _ _ _ h => by obtain ⟨_, _, _, _, _, _, _, _, _, _, _, _, z⟩ := h; exact z.elim)
  case F =>
    intro w mg fa h KX G hmg
    refine' FCL.all_mk rfl KX G hmg ?a_Custom ?pg_Custom ?hd_Custom ?po_Custom ?sa_Custom ?rd_Custom ?ga_Custom ?mk_Custom ?kp_Custom ?a_House ?pg_House ?hd_House ?po_House ?sa_House ?rd_House ?ga_House ?mk_House ?kp_House ?cla_House ?mo_House ?spg ?tko ?kito_House_House ?mt_Custom_table ?mt_House_crowds ?mt_House_meetings ?in_Custom ?in_House ?eq_House ?na_Custom__goes ?na_Custom_answers ?na_Custom_house ?na_House_chairs ?na_House_kinds ?na_House_most ?cc_House_CHAIRS ?cc_House_KINDS ?cc_House_MANY ?a__law_pool ?l__law_pool ?c__law_pool ?k__law_pool ?a__law_draw ?l__law_draw ?c__law_draw ?k__law_draw ?a__law_house ?l__law_house ?c__law_house ?k__law_house ?a__law_any_house ?l__law_any_house ?c__law_any_house ?k__law_any_house ?l_House___init__ ?c_House___init__ ?k_House___init__ ?fn_House___init__ ?kd_House___init___most ?kt_House___init___most ?a__law_parts ?l__law_parts ?c__law_parts ?k__law_parts ?a__law_table ?l__law_table ?c__law_table ?k__law_table ?a__law_inside ?l__law_inside ?c__law_inside ?k__law_inside ?a__law_number ?l__law_number ?c__law_number ?k__law_number ?a__law_same ?l__law_same ?c__law_same ?k__law_same ?a_size ?l_size ?c_size ?k_size ?a__first_part ?l__first_part ?c__first_part ?k__first_part ?a__next_part ?l__next_part ?c__next_part ?k__next_part ?a_part_list ?l_part_list ?c_part_list ?k_part_list ?l_House_crowds ?c_House_crowds ?k_House_crowds ?fn_House_crowds ?l_House_meetings ?c_House_meetings ?k_House_meetings ?fn_House_meetings ?a_kinds_in ?l_kinds_in ?c_kinds_in ?k_kinds_in ?a_count_customs ?l_count_customs ?c_count_customs ?k_count_customs ?a_check_answers ?l_check_answers ?c_check_answers ?k_check_answers ?l_Custom___init__ ?c_Custom___init__ ?k_Custom___init__ ?fn_Custom___init__ ?l_Custom_table ?c_Custom_table ?k_Custom_table ?fn_Custom_table ?a_number_of ?l_number_of ?c_number_of ?k_number_of ?a_custom_at ?l_custom_at ?c_custom_at ?k_custom_at ?a__law_refused_number ?l__law_refused_number ?c__law_refused_number ?k__law_refused_number ?a__law_answers ?l__law_answers ?c__law_answers ?k__law_answers ?l_House___eq__ ?c_House___eq__ ?k_House___eq__ ?fn_House___eq__ ?a__law_number_holds ?l__law_number_holds ?c__law_number_holds ?k__law_number_holds ?a_law ?l_law ?c_law ?k_law ?z_ValueError ?z_abs ?z_all ?z_bool ?z_divmod ?z_enumerate ?z_int ?z_isinstance ?z_len ?z_list ?z_min ?z_range ?z_reversed ?z_str ?z_sum ?z_tuple ?z_zip ?z_super ?a_HallError ?a_BadHouse ?x_BadHouse ?bm_ok_BadHouse ?sa_BadHouse ?ga_BadHouse ?gg_BadHouse ?nn_BadHouse ?i_BadHouse ?t_BadHouse ?kc_BadHouse ?ec_BadHouse ?vc_BadHouse ?ty_BadHouse ?hd_BadHouse ?sp_BadHouse ?l_BadHouse ?c_BadHouse ?cd_BadHouse ?vs2_BadHouse ?fi_BadHouse ?ce_BadHouse ?a_BadCustom ?x_BadCustom ?bm_ok_BadCustom ?sa_BadCustom ?ga_BadCustom ?gg_BadCustom ?nn_BadCustom ?i_BadCustom ?t_BadCustom ?kc_BadCustom ?ec_BadCustom ?vc_BadCustom ?ty_BadCustom ?hd_BadCustom ?sp_BadCustom ?l_BadCustom ?c_BadCustom ?cd_BadCustom ?vs2_BadCustom ?fi_BadCustom ?ce_BadCustom ?a_BadNumber ?x_BadNumber ?bm_ok_BadNumber ?sa_BadNumber ?ga_BadNumber ?gg_BadNumber ?nn_BadNumber ?i_BadNumber ?t_BadNumber ?kc_BadNumber ?ec_BadNumber ?vc_BadNumber ?ty_BadNumber ?hd_BadNumber ?sp_BadNumber ?l_BadNumber ?c_BadNumber ?cd_BadNumber ?vs2_BadNumber ?fi_BadNumber ?ce_BadNumber ?opq ?cls_BadNumber ?mo_BadNumber ?isc_BadNumber ?ss_BadNumber_BadNumber ?kit_BadNumber_BadCustom ?kit_BadNumber_HallError ?kit_BadNumber_ValueError FCL.law_good
    (case a_Custom => k_is)
    (case pg_Custom => k_is)
    (case hd_Custom => k_is)
    (case po_Custom => k_is)
    (case sa_Custom => k_is)
    (case rd_Custom => k_is)
    (case ga_Custom => k_is)
    (case mk_Custom => k_is)
    (case kp_Custom => k_is)
    (case a_House => k_is)
    (case pg_House => k_is)
    (case hd_House => k_is)
    (case po_House => k_is)
    (case sa_House => k_is)
    (case rd_House => k_is)
    (case ga_House => k_is)
    (case mk_House => k_is)
    (case kp_House => k_is)
    (case cla_House => k_is)
    (case mo_House => k_is)
    (case spg => k_is)
    (case tko => k_is)
    (case kito_House_House => first | kit_is | k_is | rfl)
    (case mt_Custom_table => k_is)
    (case mt_House_crowds => k_is)
    (case mt_House_meetings => k_is)
    (case in_Custom => k_is)
    (case in_House => k_is)
    (case eq_House => k_is)
    (case na_Custom__goes => k_is)
    (case na_Custom_answers => k_is)
    (case na_Custom_house => k_is)
    (case na_House_chairs => k_is)
    (case na_House_kinds => k_is)
    (case na_House_most => k_is)
    (case cc_House_CHAIRS => k_is)
    (case cc_House_KINDS => k_is)
    (case cc_House_MANY => k_is)
    (case a__law_pool => k_is)
    (case l__law_pool => k_is)
    (case c__law_pool => k_is)
    (case k__law_pool => k_is)
    (case a__law_draw => k_is)
    (case l__law_draw => k_is)
    (case c__law_draw => k_is)
    (case k__law_draw => k_is)
    (case a__law_house => k_is)
    (case l__law_house => k_is)
    (case c__law_house => k_is)
    (case k__law_house => k_is)
    (case a__law_any_house => k_is)
    (case l__law_any_house => k_is)
    (case c__law_any_house => k_is)
    (case k__law_any_house => k_is)
    (case l_House___init__ => k_is)
    (case c_House___init__ => k_is)
    (case k_House___init__ => k_is)
    (case fn_House___init__ => k_is)
    (case kd_House___init___most => k_is)
    (case kt_House___init___most => k_is)
    (case a__law_parts => k_is)
    (case l__law_parts => k_is)
    (case c__law_parts => k_is)
    (case k__law_parts => k_is)
    (case a__law_table => k_is)
    (case l__law_table => k_is)
    (case c__law_table => k_is)
    (case k__law_table => k_is)
    (case a__law_inside => k_is)
    (case l__law_inside => k_is)
    (case c__law_inside => k_is)
    (case k__law_inside => k_is)
    (case a__law_number => k_is)
    (case l__law_number => k_is)
    (case c__law_number => k_is)
    (case k__law_number => k_is)
    (case a__law_same => k_is)
    (case l__law_same => k_is)
    (case c__law_same => k_is)
    (case k__law_same => k_is)
    (case a_size => k_is)
    (case l_size => k_is)
    (case c_size => k_is)
    (case k_size => k_is)
    (case a__first_part => k_is)
    (case l__first_part => k_is)
    (case c__first_part => k_is)
    (case k__first_part => k_is)
    (case a__next_part => k_is)
    (case l__next_part => k_is)
    (case c__next_part => k_is)
    (case k__next_part => k_is)
    (case a_part_list => k_is)
    (case l_part_list => k_is)
    (case c_part_list => k_is)
    (case k_part_list => k_is)
    (case l_House_crowds => k_is)
    (case c_House_crowds => k_is)
    (case k_House_crowds => k_is)
    (case fn_House_crowds => k_is)
    (case l_House_meetings => k_is)
    (case c_House_meetings => k_is)
    (case k_House_meetings => k_is)
    (case fn_House_meetings => k_is)
    (case a_kinds_in => k_is)
    (case l_kinds_in => k_is)
    (case c_kinds_in => k_is)
    (case k_kinds_in => k_is)
    (case a_count_customs => k_is)
    (case l_count_customs => k_is)
    (case c_count_customs => k_is)
    (case k_count_customs => k_is)
    (case a_check_answers => k_is)
    (case l_check_answers => k_is)
    (case c_check_answers => k_is)
    (case k_check_answers => k_is)
    (case l_Custom___init__ => k_is)
    (case c_Custom___init__ => k_is)
    (case k_Custom___init__ => k_is)
    (case fn_Custom___init__ => k_is)
    (case l_Custom_table => k_is)
    (case c_Custom_table => k_is)
    (case k_Custom_table => k_is)
    (case fn_Custom_table => k_is)
    (case a_number_of => k_is)
    (case l_number_of => k_is)
    (case c_number_of => k_is)
    (case k_number_of => k_is)
    (case a_custom_at => k_is)
    (case l_custom_at => k_is)
    (case c_custom_at => k_is)
    (case k_custom_at => k_is)
    (case a__law_refused_number => k_is)
    (case l__law_refused_number => k_is)
    (case c__law_refused_number => k_is)
    (case k__law_refused_number => k_is)
    (case a__law_answers => k_is)
    (case l__law_answers => k_is)
    (case c__law_answers => k_is)
    (case k__law_answers => k_is)
    (case l_House___eq__ => k_is)
    (case c_House___eq__ => k_is)
    (case k_House___eq__ => k_is)
    (case fn_House___eq__ => k_is)
    (case a__law_number_holds => k_is)
    (case l__law_number_holds => k_is)
    (case c__law_number_holds => k_is)
    (case k__law_number_holds => k_is)
    (case a_law => k_is)
    (case l_law => k_is)
    (case c_law => k_is)
    (case k_law => k_is)
    (case z_ValueError => k_is)
    (case z_abs => k_is)
    (case z_all => k_is)
    (case z_bool => k_is)
    (case z_divmod => k_is)
    (case z_enumerate => k_is)
    (case z_int => k_is)
    (case z_isinstance => k_is)
    (case z_len => k_is)
    (case z_list => k_is)
    (case z_min => k_is)
    (case z_range => k_is)
    (case z_reversed => k_is)
    (case z_str => k_is)
    (case z_sum => k_is)
    (case z_tuple => k_is)
    (case z_zip => k_is)
    (case z_super => k_is)
    (case a_HallError => k_is)
    (case a_BadHouse => k_is)
    (case x_BadHouse => k_is)
    (case bm_ok_BadHouse => decide +kernel)
    (case sa_BadHouse => k_is)
    (case ga_BadHouse => k_is)
    (case gg_BadHouse => k_is)
    (case nn_BadHouse => k_is)
    (case i_BadHouse => k_is)
    (case t_BadHouse => k_is)
    (case kc_BadHouse => k_is)
    (case ec_BadHouse => k_is)
    (case vc_BadHouse => k_is)
    (case ty_BadHouse => k_is)
    (case hd_BadHouse => k_is)
    (case sp_BadHouse => first | ks_is | k_is)
    (case l_BadHouse => k_is)
    (case c_BadHouse => k_is)
    (case cd_BadHouse => k_is)
    (case vs2_BadHouse => rfl)
    (case fi_BadHouse => decide +kernel)
    (case ce_BadHouse => k_is)
    (case a_BadCustom => k_is)
    (case x_BadCustom => k_is)
    (case bm_ok_BadCustom => decide +kernel)
    (case sa_BadCustom => k_is)
    (case ga_BadCustom => k_is)
    (case gg_BadCustom => k_is)
    (case nn_BadCustom => k_is)
    (case i_BadCustom => k_is)
    (case t_BadCustom => k_is)
    (case kc_BadCustom => k_is)
    (case ec_BadCustom => k_is)
    (case vc_BadCustom => k_is)
    (case ty_BadCustom => k_is)
    (case hd_BadCustom => k_is)
    (case sp_BadCustom => first | ks_is | k_is)
    (case l_BadCustom => k_is)
    (case c_BadCustom => k_is)
    (case cd_BadCustom => k_is)
    (case vs2_BadCustom => rfl)
    (case fi_BadCustom => decide +kernel)
    (case ce_BadCustom => k_is)
    (case a_BadNumber => k_is)
    (case x_BadNumber => k_is)
    (case bm_ok_BadNumber => decide +kernel)
    (case sa_BadNumber => k_is)
    (case ga_BadNumber => k_is)
    (case gg_BadNumber => k_is)
    (case nn_BadNumber => k_is)
    (case i_BadNumber => k_is)
    (case t_BadNumber => k_is)
    (case kc_BadNumber => k_is)
    (case ec_BadNumber => k_is)
    (case vc_BadNumber => k_is)
    (case ty_BadNumber => k_is)
    (case hd_BadNumber => k_is)
    (case sp_BadNumber => first | ks_is | k_is)
    (case l_BadNumber => k_is)
    (case c_BadNumber => k_is)
    (case cd_BadNumber => k_is)
    (case vs2_BadNumber => rfl)
    (case fi_BadNumber => decide +kernel)
    (case ce_BadNumber => k_is)
    (case opq => k_is)
    (case cls_BadNumber => k_is)
    (case mo_BadNumber => k_is)
    (case isc_BadNumber => k_is)
    (case ss_BadNumber_BadNumber => first | rfl | k_is)
    (case kit_BadNumber_BadCustom => first | kit_is | k_is | rfl)
    (case kit_BadNumber_HallError => first | kit_is | k_is | rfl)
    (case kit_BadNumber_ValueError => first | kit_is | k_is | rfl)

