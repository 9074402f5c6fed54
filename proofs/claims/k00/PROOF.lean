import PyProof.Rows.All
import Wide.All
import OpenK.AllK
import Wide.FinOn
import HandS.ForMost
import HandS.ForExc
import HandS.Walk
import HandS.Zip
import HandS.IsInst
import HandS.Wide
import HandS.CallSlots
import HandS.TryOnly
import HandS.ExcField
import HandS.Flow
import KE.GoesEnum
import KE.GoesMore
import KE.KExcSuper
import KE.KSuper
import HandS.ExcSuper
import HandS.ExcIs
import KE.KExcIs
import HandS.Conv
import PyProof.EqAt
import PyProof.EqKinds
import PyProof.TupleCall
import KE.RegKSuper
import PySem.Challenge.RW_fewchairs_k00_crowd_sums
set_option Elab.async false
set_option linter.all false
set_option maxRecDepth 100000
namespace FC
open PySem PySem.Spec L2

/-! ### data, stores, results -/
inductive Dv where
  | non | bl (b : Bool) | int (i : Int) | str (x : Str)
  | tup (xs : List Dv) | lst (xs : List Dv)
  | obj (n : Nat)
  | ins (c : Str) (fs : List (Str × Dv))
  | dic (kvs : List (Key × Dv)) | dit (kvs : List (List Key × Dv))
abbrev Store := List Dv
inductive Rs (α : Type) where
  | ok (a : α) (S : Store)
  | exc (c : Str) (fs : List (Str × Dv)) (S : Store)
abbrev Mm (α : Type) := Store → Option (Rs α)
@[simp] def ret {α : Type} (a : α) : Mm α := fun S => some (.ok a S)
@[simp] def bnd {α β : Type} (m : Mm α) (k : α → Mm β) : Mm β := fun S => match m S with
  | none => none
  | some (.exc c fs S') => some (.exc c fs S')
  | some (.ok a S') => k a S'
@[simp] def stuck {α : Type} : Mm α := fun _ => none
@[simp] def ofO {α : Type} (o : Option α) : Mm α := fun S => match o with
  | none => none
  | some a => some (.ok a S)
abbrev DEnv := List (Option Dv)
abbrev FE := DEnv → Mm Dv
abbrev FT := DEnv → Mm Bool
abbrev FA := DEnv → Mm (List Dv)

/-! ### the worlds -/
structure Gp where
  K : PySem.W.Frag
  cA : Str → Addr
structure Wd where
  H : Hp
  as : List Addr
  M0 : List Addr
def Wd.M (w : Wd) (a : Addr) : Prop := a ∈ w.M0 ∨ a ∈ w.as
def SqLM (G : Gp) (w : Wd) (a : Addr) (xs : List V) : Prop :=
  (Rd w.H a (.lst xs) ∧ ¬ w.M a) ∨
    ∃ (o : Obj) (its : Array Value) (n : Nat), G.K.lookup a = some o ∧ o.cls = .type "list" ∧ o.dict = none ∧ o.data = .seq its n ∧ its.size ≤ sizeLine ∧ Vals xs its.toList
def SqTM (G : Gp) (w : Wd) (a : Addr) (xs : List V) : Prop :=
  (Rd w.H a (.tup xs) ∧ ¬ w.M a) ∨
    ∃ (o : Obj) (its : Array Value) (n : Nat), G.K.lookup a = some o ∧ o.cls = .type "tuple" ∧ o.data = .seq its n ∧ its.size ≤ sizeLine ∧ Vals xs its.toList
theorem SqLM.to {G : Gp} {w : Wd} {a : Addr} {xs : List V} (h : SqLM G w a xs) : SqL G.K w.H a xs := by
  rcases h with h | h
  · exact .inl h.1
  · exact .inr h
theorem SqTM.to {G : Gp} {w : Wd} {a : Addr} {xs : List V} (h : SqTM G w a xs) : SqT G.K w.H a xs := by
  rcases h with h | h
  · exact .inl h.1
  · exact .inr h
mutual
inductive Rp (G : Gp) (w : Wd) : V → Dv → Prop
  | non : Rp G w .non .non
  | bl (b : Bool) : Rp G w (.bl b) (.bl b)
  | int (i : Int) : Rp G w (.int i) (.int i)
  | str (x : Str) : Rp G w (.str x) (.str x)
  | tup {a : Addr} {xs : List V} {ds : List Dv} : SqTM G w a xs → RpAll G w xs ds → Rp G w (.ref a) (.tup ds)
  | lst {a : Addr} {xs : List V} {ds : List Dv} : SqLM G w a xs → RpAll G w xs ds → Rp G w (.ref a) (.lst ds)
  | obj {a : Addr} {n : Nat} : w.as[n]? = some a → Rp G w (.ref a) (.obj n)
  | ins {a dx : Addr} {c : Str} {fs' : List (Str × V)} {fs : List (Str × Dv)} : w.H a = some (.ins (G.cA c) dx fs') → ¬ w.M a → fs'.map Prod.fst = fs.map Prod.fst → RpAll G w (fs'.map Prod.snd) (fs.map Prod.snd) → Rp G w (.ref a) (.ins c fs)
  | dic {a : Addr} {kvs' : List (Key × V)} {kvs : List (Key × Dv)} : w.H a = some (.dK kvs') → ¬ w.M a → kvs'.map Prod.fst = kvs.map Prod.fst → RpAll G w (kvs'.map Prod.snd) (kvs.map Prod.snd) → Rp G w (.ref a) (.dic kvs)
  | dit {a : Addr} {kvs' : List (List Key × V)} {kvs : List (List Key × Dv)} : w.H a = some (.dT kvs') → ¬ w.M a → kvs'.map Prod.fst = kvs.map Prod.fst → RpAll G w (kvs'.map Prod.snd) (kvs.map Prod.snd) → Rp G w (.ref a) (.dit kvs)
inductive RpAll (G : Gp) (w : Wd) : List V → List Dv → Prop
  | nil : RpAll G w [] []
  | cons {v : V} {vs : List V} {d : Dv} {ds : List Dv} : Rp G w v d → RpAll G w vs ds → RpAll G w (v :: vs) (d :: ds)
end

/-- what may have happened since: new objects, changes of the named ones -/
structure Ext (w w' : Wd) : Prop where
  as : ∃ bs, w'.as = w.as ++ bs
  m0 : ∀ a ∈ w.M0, a ∈ w'.M0
  na : ∀ a o, w.H a = some o → a ∉ w.as → a ∉ w'.as
  nM : ∀ a o, w.H a = some o → ¬ w.M a → ¬ w'.M a
  keep : ∀ a o, a ∉ w.as → w.H a = some o → w'.H a = some o
theorem Ext.refl (w : Wd) : Ext w w := ⟨⟨[], by simp⟩, fun _ h => h, fun _ _ _ h => h, fun _ _ _ h => h, fun _ _ _ h => h⟩
theorem Ext.as_of {w w' : Wd} (e : Ext w w') {n : Nat} {a : Addr} (h : w.as[n]? = some a) : w'.as[n]? = some a := by
  obtain ⟨bs, hb⟩ := e.as
  rw [hb]
  have hn : n < w.as.length := (List.getElem?_eq_some_iff.mp h).1
  rw [List.getElem?_append_left hn]
  exact h
theorem Ext.trans {w w1 w2 : Wd} (a : Ext w w1) (b : Ext w1 w2) : Ext w w2 := by
  obtain ⟨bs, hb⟩ := a.as
  obtain ⟨cs, hc⟩ := b.as
  refine ⟨⟨bs ++ cs, by rw [hc, hb, List.append_assoc]⟩, fun x hx => b.m0 x (a.m0 x hx), fun x o h n => ?_, fun x o h n => ?_, fun x o hx h => ?_⟩
  · exact b.na x o (a.keep x o n h) (a.na x o h n)
  · exact b.nM x o (a.keep x o (fun z => n (.inr z)) h) (a.nM x o h n)
  · exact b.keep x o (a.na x o h hx) (a.keep x o hx h)
theorem Ext.rd {w w' : Wd} (e : Ext w w') {a : Addr} {u : HO} (h : Rd w.H a u) (n : ¬ w.M a) : Rd w'.H a u ∧ ¬ w'.M a := by
  have na : a ∉ w.as := fun z => n (.inr z)
  rcases h with h | ⟨o, h⟩
  · exact ⟨.inl (e.keep _ _ na h), e.nM _ _ h n⟩
  · exact ⟨.inr ⟨o, e.keep _ _ na h⟩, e.nM _ _ h n⟩
theorem SqLM.mono {G : Gp} {w w' : Wd} (e : Ext w w') {a : Addr} {xs : List V} (h : SqLM G w a xs) : SqLM G w' a xs := by
  rcases h with h | h
  · exact .inl (e.rd h.1 h.2)
  · exact .inr h
theorem SqTM.mono {G : Gp} {w w' : Wd} (e : Ext w w') {a : Addr} {xs : List V} (h : SqTM G w a xs) : SqTM G w' a xs := by
  rcases h with h | h
  · exact .inl (e.rd h.1 h.2)
  · exact .inr h
mutual
theorem Rp.mono {G : Gp} {w w' : Wd} (e : Ext w w') : ∀ {v : V} {d : Dv}, Rp G w v d → Rp G w' v d
  | _, _, .non => .non
  | _, _, .bl b => .bl b
  | _, _, .int i => .int i
  | _, _, .str x => .str x
  | _, _, .tup h r => .tup (h.mono e) (RpAll.mono e r)
  | _, _, .lst h r => .lst (h.mono e) (RpAll.mono e r)
  | _, _, .obj h => .obj (e.as_of h)
  | _, _, .ins h n q r => .ins (e.keep _ _ (fun z => n (.inr z)) h) (e.nM _ _ h n) q (RpAll.mono e r)
  | _, _, .dic h n q r => .dic (e.keep _ _ (fun z => n (.inr z)) h) (e.nM _ _ h n) q (RpAll.mono e r)
  | _, _, .dit h n q r => .dit (e.keep _ _ (fun z => n (.inr z)) h) (e.nM _ _ h n) q (RpAll.mono e r)
theorem RpAll.mono {G : Gp} {w w' : Wd} (e : Ext w w') : ∀ {vs : List V} {ds : List Dv}, RpAll G w vs ds → RpAll G w' vs ds
  | _, _, .nil => .nil
  | _, _, .cons h r => .cons (Rp.mono e h) (RpAll.mono e r)
end
/-- fewer names set apart, the same heap -/
structure Less (w w' : Wd) : Prop where
  H : w'.H = w.H
  M : ∀ a, w'.M a → w.M a
  as : ∀ (n : Nat) (a : Addr), w.as[n]? = some a → w'.as[n]? = some a
mutual
theorem Rp.less {G : Gp} {w w' : Wd} (e : Less w w') : ∀ {v : V} {d : Dv}, Rp G w v d → Rp G w' v d
  | _, _, .non => .non
  | _, _, .bl b => .bl b
  | _, _, .int i => .int i
  | _, _, .str x => .str x
  | _, _, .tup h r => .tup (by
      rcases h with h | h
      · exact .inl ⟨by rw [e.H]; exact h.1, fun z => h.2 (e.M _ z)⟩
      · exact .inr h) (RpAll.less e r)
  | _, _, .lst h r => .lst (by
      rcases h with h | h
      · exact .inl ⟨by rw [e.H]; exact h.1, fun z => h.2 (e.M _ z)⟩
      · exact .inr h) (RpAll.less e r)
  | _, _, .obj h => .obj (e.as _ _ h)
  | _, _, .ins h n q r => .ins (by rw [e.H]; exact h) (fun z => n (e.M _ z)) q (RpAll.less e r)
  | _, _, .dic h n q r => .dic (by rw [e.H]; exact h) (fun z => n (e.M _ z)) q (RpAll.less e r)
  | _, _, .dit h n q r => .dit (by rw [e.H]; exact h) (fun z => n (e.M _ z)) q (RpAll.less e r)
theorem RpAll.less {G : Gp} {w w' : Wd} (e : Less w w') : ∀ {vs : List V} {ds : List Dv}, RpAll G w vs ds → RpAll G w' vs ds
  | _, _, .nil => .nil
  | _, _, .cons h r => .cons (Rp.less e h) (RpAll.less e r)
end
section
variable {G : Gp} {w : Wd}
theorem RpAll.length : ∀ {vs : List V} {ds : List Dv}, RpAll G w vs ds → vs.length = ds.length
  | _, _, .nil => rfl
  | _, _, .cons _ r => by
    show _ + 1 = _ + 1
    rw [RpAll.length r]
theorem RpAll.get : ∀ {vs : List V} {ds : List Dv} {i : Nat} {d : Dv}, RpAll G w vs ds → ds[i]? = some d → ∃ v, vs[i]? = some v ∧ Rp G w v d
  | _, _, _, _, .nil, h => by simp at h
  | _, _, 0, _, .cons r _, h => by
    simp at h
    subst h
    exact ⟨_, rfl, r⟩
  | _, _, i + 1, d, .cons _ r, h => by
    obtain ⟨v, h1, h2⟩ := RpAll.get (i := i) (d := d) r (by simpa using h)
    exact ⟨v, by simpa using h1, h2⟩
theorem RpAll.getV : ∀ {vs : List V} {ds : List Dv} {i : Nat} {v : V}, RpAll G w vs ds → vs[i]? = some v → ∃ d, ds[i]? = some d ∧ Rp G w v d
  | _, _, _, _, .nil, h => by simp at h
  | _, _, 0, _, .cons r _, h => by
    simp at h
    subst h
    exact ⟨_, rfl, r⟩
  | _, _, i + 1, d, .cons _ r, h => by
    obtain ⟨v, h1, h2⟩ := RpAll.getV (i := i) (v := d) r (by simpa using h)
    exact ⟨v, by simpa using h1, h2⟩
theorem RpAll.append : ∀ {vs us : List V} {ds es : List Dv}, RpAll G w vs ds → RpAll G w us es → RpAll G w (vs ++ us) (ds ++ es)
  | _, _, _, _, .nil, s => s
  | _, _, _, _, .cons h r, s => .cons h (RpAll.append r s)
theorem RpAll.set {v : V} {d : Dv} (h : Rp G w v d) : ∀ {vs : List V} {ds : List Dv} (i : Nat), RpAll G w vs ds → RpAll G w (vs.set i v) (ds.set i d)
  | _, _, _, .nil => .nil
  | _, _, 0, .cons _ r => .cons h r
  | _, _, i + 1, .cons q r => .cons q (RpAll.set h i r)
theorem RpAll.take : ∀ {vs : List V} {ds : List Dv} (n : Nat), RpAll G w vs ds → RpAll G w (vs.take n) (ds.take n)
  | _, _, 0, _ => .nil
  | _, _, _ + 1, .nil => .nil
  | _, _, n + 1, .cons h r => .cons h (RpAll.take n r)
theorem RpAll.drop : ∀ {vs : List V} {ds : List Dv} (n : Nat), RpAll G w vs ds → RpAll G w (vs.drop n) (ds.drop n)
  | _, _, 0, r => r
  | _, _, _ + 1, .nil => .nil
  | _, _, n + 1, .cons _ r => RpAll.drop n r
theorem RpAll.ints : ∀ {vs : List V} {ns : List Int}, RpAll G w vs (ns.map Dv.int) → vs = ns.map V.int
  | _, [], h => by cases h; rfl
  | _, n :: ns, h => by
    cases h with
    | cons h r =>
      cases h
      rw [RpAll.ints r]
      rfl
theorem RpAll.bls : ∀ {vs : List V} {ns : List Bool}, RpAll G w vs (ns.map Dv.bl) → vs = ns.map V.bl
  | _, [], h => by cases h; rfl
  | _, n :: ns, h => by
    cases h with
    | cons h r =>
      cases h
      rw [RpAll.bls r]
      rfl
theorem RpAll.of_ints : ∀ (ns : List Int), RpAll G w (ns.map V.int) (ns.map Dv.int)
  | [] => .nil
  | n :: ns => .cons (.int n) (RpAll.of_ints ns)
end

/-! ### stores -/
def MOk (G : Gp) (w : Wd) (a : Addr) : Dv → Prop
  | .lst ds => ∃ xs, w.H a = some (.lst xs) ∧ RpAll G w xs ds
  | .ins c fs => ∃ dx fs', w.H a = some (.ins (G.cA c) dx fs') ∧ fs'.map Prod.fst = fs.map Prod.fst ∧ RpAll G w (fs'.map Prod.snd) (fs.map Prod.snd)
  | .dic kvs => ∃ kvs', w.H a = some (.dK kvs') ∧ kvs'.map Prod.fst = kvs.map Prod.fst ∧ RpAll G w (kvs'.map Prod.snd) (kvs.map Prod.snd)
  | .dit kvs => ∃ kvs', w.H a = some (.dT kvs') ∧ kvs'.map Prod.fst = kvs.map Prod.fst ∧ RpAll G w (kvs'.map Prod.snd) (kvs.map Prod.snd)
  | _ => False
theorem MOk.there {G : Gp} {w : Wd} {a : Addr} {d : Dv} (h : MOk G w a d) : ∃ o, w.H a = some o := by
  cases d <;> first | exact h.elim | skip
  · obtain ⟨xs, h, _⟩ := h; exact ⟨_, h⟩
  · obtain ⟨_, _, h, _⟩ := h; exact ⟨_, h⟩
  · obtain ⟨_, h, _⟩ := h; exact ⟨_, h⟩
  · obtain ⟨_, h, _⟩ := h; exact ⟨_, h⟩
/-- the object stands as it was -/
theorem MOk.mono {G : Gp} {w w' : Wd} (e : Ext w w') {a : Addr} {d : Dv} (hk : w'.H a = w.H a) (h : MOk G w a d) : MOk G w' a d := by
  cases d <;> first | exact h.elim | skip
  · obtain ⟨xs, h, r⟩ := h; exact ⟨xs, hk.trans h, r.mono e⟩
  · obtain ⟨dx, fs', h, q, r⟩ := h; exact ⟨dx, fs', hk.trans h, q, r.mono e⟩
  · obtain ⟨kvs', h, q, r⟩ := h; exact ⟨kvs', hk.trans h, q, r.mono e⟩
  · obtain ⟨kvs', h, q, r⟩ := h; exact ⟨kvs', hk.trans h, q, r.mono e⟩
theorem MOk.less {G : Gp} {w w' : Wd} (e : Less w w') {a : Addr} {d : Dv} (h : MOk G w a d) : MOk G w' a d := by
  have hk : w'.H a = w.H a := by rw [e.H]
  cases d <;> first | exact h.elim | skip
  · obtain ⟨xs, h, r⟩ := h; exact ⟨xs, hk.trans h, r.less e⟩
  · obtain ⟨dx, fs', h, q, r⟩ := h; exact ⟨dx, fs', hk.trans h, q, r.less e⟩
  · obtain ⟨kvs', h, q, r⟩ := h; exact ⟨kvs', hk.trans h, q, r.less e⟩
  · obtain ⟨kvs', h, q, r⟩ := h; exact ⟨kvs', hk.trans h, q, r.less e⟩
structure SOk (G : Gp) (w : Wd) (S : Store) : Prop where
  nd : w.as.Nodup
  len : w.as.length = S.length
  dom : ∀ a ∈ w.M0, ∃ o, w.H a = some o
  dj : ∀ a ∈ w.as, a ∉ w.M0
  cont : ∀ (i : Nat) (a : Addr) (d : Dv), w.as[i]? = some a → S[i]? = some d → MOk G w a d
theorem SOk.asd {G : Gp} {w : Wd} {S : Store} (h : SOk G w S) : ∀ a ∈ w.as, ∃ o, w.H a = some o := fun a ha => by
  obtain ⟨i, hi, e⟩ := List.getElem_of_mem ha
  have h2 : i < S.length := by rw [← h.len]; exact hi
  exact (h.cont i a S[i] (by rw [List.getElem?_eq_getElem hi, e]) (List.getElem?_eq_getElem h2)).there
theorem SOk.fresh {G : Gp} {w : Wd} {S : Store} (h : SOk G w S) {p : Addr} (hp : w.H p = none) : ¬ w.M p := by
  rintro (z | z)
  · obtain ⟨o, q⟩ := h.dom p z
    rw [hp] at q
    cases q
  · obtain ⟨o, q⟩ := h.asd p z
    rw [hp] at q
    cases q
theorem Ext.thru {G : Gp} {w w1 w2 : Wd} {S1 : Store} (a : Ext w w1) (b : Ext w1 w2) (_ : SOk G w1 S1) : Ext w w2 := a.trans b

/-- a new object that no name holds -/
def Wd.put (w : Wd) (p : Addr) (o : HO) : Wd := ⟨upd w.H p o, w.as, w.M0⟩
/-- a new object with a name -/
def Wd.add (w : Wd) (p : Addr) (o : HO) : Wd := ⟨upd w.H p o, w.as ++ [p], w.M0⟩
section
variable {G : Gp} {w : Wd} {S : Store} {p : Addr} {o : HO}
theorem Ext.put (hp : w.H p = none) : Ext w (w.put p o) := ⟨⟨[], by simp [Wd.put]⟩, fun _ h => h, fun _ _ _ h => h, fun _ _ _ h => h, fun a u _ h => by
    show upd w.H p o a = some u
    rw [upd_ne (ne_of_none h hp)]
    exact h⟩
theorem mem_add {as : List Addr} {a p : Addr} (h : a ∈ as ++ [p]) (n : a ≠ p) : a ∈ as := by
  rcases List.mem_append.mp h with z | z
  · exact z
  · exact absurd (by simpa using z) n
theorem Ext.add (hp : w.H p = none) : Ext w (w.add p o) := ⟨⟨[p], rfl⟩, fun _ h => h, fun a u h n z => n (mem_add z (ne_of_none h hp)), fun a u h n z => by
    rcases z with z | z
    · exact n (.inl z)
    · exact n (.inr (mem_add z (ne_of_none h hp))),
  fun a u _ h => by
    show upd w.H p o a = some u
    rw [upd_ne (ne_of_none h hp)]
    exact h⟩
theorem SOk.put (h : SOk G w S) (hp : w.H p = none) : SOk G (w.put p o) S := by
  have e : Ext w (w.put p o) := .put hp
  refine ⟨h.nd, h.len, fun a ha => ?_, h.dj, fun i a d h1 h2 => ?_⟩
  · obtain ⟨u, hu⟩ := h.dom a ha
    exact ⟨u, by show upd w.H p o a = some u; rw [upd_ne (ne_of_none hu hp)]; exact hu⟩
  · have q := h.cont i a d h1 h2
    obtain ⟨u, hu⟩ := q.there
    exact q.mono e (upd_ne (ne_of_none hu hp))
theorem SOk.add (h : SOk G w S) (hp : w.H p = none) {d : Dv} (hd : MOk G (w.add p o) p d) : SOk G (w.add p o) (S ++ [d]) := by
  have e : Ext w (w.add p o) := .add hp
  have hnp : p ∉ w.as := fun z => h.fresh hp (.inr z)
  refine ⟨?_, ?_, fun a ha => ?_, fun a ha z => ?_, fun i a d' h1 h2 => ?_⟩
  · show (w.as ++ [p]).Nodup
    rw [List.nodup_append]
    refine ⟨h.nd, by simp, fun a ha b hb => ?_⟩
    simp at hb
    subst hb
    rintro rfl
    exact hnp ha
  · show (w.as ++ [p]).length = (S ++ [d]).length
    simp [h.len]
  · obtain ⟨u, hu⟩ := h.dom a ha
    exact ⟨u, by show upd w.H p o a = some u; rw [upd_ne (ne_of_none hu hp)]; exact hu⟩
  · rcases List.mem_append.mp ha with q | q
    · exact h.dj a q z
    · rw [show a = p by simpa using q] at z
      exact h.fresh hp (.inl z)
  · have h1' : (w.as ++ [p])[i]? = some a := h1
    by_cases hi : i < w.as.length
    · rw [List.getElem?_append_left hi] at h1'
      rw [List.getElem?_append_left (by rw [← h.len]; exact hi)] at h2
      have q := h.cont i a d' h1' h2
      obtain ⟨u, hu⟩ := q.there
      exact q.mono e (upd_ne (ne_of_none hu hp))
    · have hi2 : w.as.length ≤ i := by omega
      rw [List.getElem?_append_right hi2] at h1'
      rw [List.getElem?_append_right (by rw [← h.len]; exact hi2)] at h2
      cases hk : i - w.as.length with
      | zero =>
        rw [hk] at h1'
        rw [← h.len, hk] at h2
        simp at h1' h2
        subst h1'; subst h2
        exact hd
      | succ k =>
        rw [hk] at h1'
        simp at h1'
theorem Rp.new_tup (h : SOk G w S) (hp : w.H p = none) {xs : List V} {ds : List Dv} (r : RpAll G w xs ds) : Rp G (w.put p (.tup xs)) (.ref p) (.tup ds) :=
  .tup (.inl ⟨.inl upd_same, h.fresh hp⟩) (r.mono (.put hp))
theorem Rp.new_lst (h : SOk G w S) (hp : w.H p = none) {xs : List V} {ds : List Dv} (r : RpAll G w xs ds) : Rp G (w.put p (.lst xs)) (.ref p) (.lst ds) :=
  .lst (.inl ⟨.inl upd_same, h.fresh hp⟩) (r.mono (.put hp))
theorem Rp.add_obj (h : SOk G w S) : Rp G (w.add p o) (.ref p) (.obj S.length) := .obj (by
  show (w.as ++ [p])[S.length]? = some p
  rw [← h.len, List.getElem?_append_right (Nat.le_refl _), Nat.sub_self]
  rfl)
/-- a named object changes -/
theorem SOk.upd {i : Nat} {a : Addr} {d : Dv} (h : SOk G w S) (hi : w.as[i]? = some a) (hd : MOk G (w.put a o) a d) : SOk G (w.put a o) (S.set i d) := by
  have hil : i < w.as.length := (List.getElem?_eq_some_iff.mp hi).1
  have ha : a ∈ w.as := List.mem_of_getElem? hi
  have e : Ext w (w.put a o) := ⟨⟨[], by simp [Wd.put]⟩, fun _ h => h, fun _ _ _ h => h, fun _ _ _ h => h, fun b u hb hu => by
    show L2.upd w.H a o b = some u
    rw [upd_ne (show b ≠ a from fun z => hb (by rw [z]; exact ha))]
    exact hu⟩
  refine ⟨h.nd, by rw [List.length_set]; exact h.len, fun b hb => ?_, h.dj, fun j b d' h1 h2 => ?_⟩
  · by_cases q : b = a
    · subst q; exact ⟨o, upd_same⟩
    · obtain ⟨u, hu⟩ := h.dom b hb
      exact ⟨u, (upd_ne q).trans hu⟩
  · by_cases q : j = i
    · subst q
      have h1' : w.as[j]? = some b := h1
      rw [hi] at h1'
      cases h1'
      rw [List.getElem?_set_self (by rw [← h.len]; exact hil)] at h2
      cases h2
      exact hd
    · rw [List.getElem?_set_ne (Ne.symm q)] at h2
      have h1' : w.as[j]? = some b := h1
      have hjl : j < w.as.length := (List.getElem?_eq_some_iff.mp h1').1
      have hba : b ≠ a := by
        rintro rfl
        have e1 : w.as[j] = w.as[i] := by
          have z1 := (List.getElem?_eq_some_iff.mp h1').2
          have z2 := (List.getElem?_eq_some_iff.mp hi).2
          rw [z1, z2]
        exact q ((List.getElem_inj h.nd).mp e1)
      exact (h.cont j b d' h1' h2).mono e (upd_ne hba)
theorem Ext.upd {i : Nat} {a : Addr} (hi : w.as[i]? = some a) : Ext w (w.put a o) := ⟨⟨[], by simp [Wd.put]⟩, fun _ h => h, fun _ _ _ h => h, fun _ _ _ h => h, fun b u hb hu => by
  show L2.upd w.H a o b = some u
  rw [upd_ne (show b ≠ a from fun z => hb (by rw [z]; exact List.mem_of_getElem? hi))]
  exact hu⟩
end

/-! ### slots -/
/-- what else is known, and stays while no slot is stored but those that are ok -/
structure Iv where
  P : Wd → L2.St → Prop
  ok : Nat → Prop
  mono : ∀ w w' σ, Ext w w' → P w σ → P w' σ
  put : ∀ w σ i v, ok i → P w σ → P w (σ.set i v)
def Iv.no : Iv := ⟨fun _ _ => True, fun _ => True, fun _ _ _ _ h => h, fun _ _ _ _ _ h => h⟩
structure EOk (G : Gp) (I : Iv) (w : Wd) (σ : L2.St) (env : DEnv) : Prop where
  len : σ.length = env.length
  get : ∀ (i : Nat) (d : Dv), env[i]? = some (some d) → ∃ v, σ[i]? = some (some v) ∧ Rp G w v d
  inv : I.P w σ
theorem EOk.mono {G : Gp} {I : Iv} {w w' : Wd} {σ : L2.St} {env : DEnv} (e : Ext w w') (h : EOk G I w σ env) : EOk G I w' σ env := ⟨h.len, fun i d q => by
  obtain ⟨v, h1, h2⟩ := h.get i d q
  exact ⟨v, h1, h2.mono e⟩, I.mono _ _ _ e h.inv⟩
theorem EOk.set {G : Gp} {I : Iv} {w : Wd} {σ : L2.St} {env : DEnv} (h : EOk G I w σ env) {i : Nat} {v : V} {d : Dv} (hok : I.ok i) (r : Rp G w v d) : EOk G I w (σ.set i (some v)) (env.set i (some d)) := ⟨by simp [h.len], fun j e q => by
  by_cases z : i = j
  · subst z
    have hl : i < env.length := by
      have := (List.getElem?_eq_some_iff.mp q).1
      simpa using this
    rw [List.getElem?_set_self hl] at q
    cases q
    exact ⟨v, List.getElem?_set_self (by rw [h.len]; exact hl), r⟩
  · rw [List.getElem?_set_ne z] at q
    obtain ⟨u, h1, h2⟩ := h.get j e q
    exact ⟨u, by rw [List.getElem?_set_ne z]; exact h1, h2⟩, I.put _ _ _ _ hok h.inv⟩
end FC

set_option Elab.async false
set_option linter.all false
set_option maxRecDepth 100000
namespace FC
open PySem PySem.Spec L2

def cOf (mg : Str → Option Value) (s : Str) : Addr := match mg s with
  | some (.ref a) => a
  | _ => 0
abbrev gp (X : Cx) : Gp := ⟨X.K, cOf X.mg⟩

/-! ### what is wanted behind -/
def PX (G : Gp) (W : WX) (w : Wd) (σ : L2.St) (c : Str) (fs : List (Str × Dv)) (S' : Store) : Prop :=
  ∀ dd fs' w', Ext w w' → SOk G w' S' → w'.H dd = some (.xd fs') → ¬ w'.M dd → fs'.map Prod.fst = fs.map Prod.fst → RpAll G w' (fs'.map Prod.snd) (fs.map Prod.snd) → W (.ref (G.cA c)) (some dd) σ w'.H
def PR {α β : Type} (G : Gp) (W : WX) (R : Wd → β → α → Prop) (w : Wd) (σ : L2.St) (r : Rs α) (Q : β → Hp → Prop) : Prop := match r with
  | .ok d S' => ∀ v w', Ext w w' → SOk G w' S' → R w' v d → Q v w'.H
  | .exc c fs S' => PX G W w σ c fs S'
def PXr {α : Type} (G : Gp) (W : WX) (w : Wd) (σ : L2.St) (r : Rs α) : Prop := match r with
  | .ok _ _ => True
  | .exc c fs S' => PX G W w σ c fs S'
def tG {α β : Type} (G : Gp) (ξ : Iv) (W : WX) (R : Wd → β → α → Prop) (f : DEnv → Mm α) : L2.St → Hp → (β → Hp → Prop) → Prop := fun σ H Q =>
  ∃ (w : Wd) (env : DEnv) (S : Store) (r : Rs α), w.H = H ∧ SOk G w S ∧ EOk G ξ w σ env ∧ f env S = some r ∧ PR G W R w σ r Q
def RB (_ : Wd) (b c : Bool) : Prop := b = c
def tD (G : Gp) (ξ : Iv) (W : WX) (f : FE) : TE := tG G ξ W (Rp G) f
def tDT (G : Gp) (ξ : Iv) (W : WX) (f : FT) : TT := tG G ξ W RB f
def tDA (G : Gp) (ξ : Iv) (W : WX) (f : FA) : TA := tG G ξ W (RpAll G) f

section
variable {α β γ δ : Type} {G : Gp} {W : WX} {w w1 : Wd} {σ : L2.St} {S S1 : Store}
theorem PX.mono {c : Str} {fs : List (Str × Dv)} {S' : Store} (e : Ext w w1) (s1 : SOk G w1 S1) (h : PX G W w σ c fs S') : PX G W w1 σ c fs S' :=
  fun dd fs' w' e' s' hd hm hn hr => h dd fs' w' (e.thru e' s1) s' hd hm hn hr
theorem PR.px {R : Wd → β → α → Prop} {r : Rs α} {Q : β → Hp → Prop} (h : PR G W R w σ r Q) : PXr G W w σ r := by
  cases r with
  | ok _ _ => exact True.intro
  | exc _ _ _ => exact h
theorem PXr.mono {r : Rs α} (e : Ext w w1) (s1 : SOk G w1 S1) (h : PXr G W w σ r) : PXr G W w1 σ r := by
  cases r with
  | ok _ _ => exact True.intro
  | exc _ _ _ => exact PX.mono e s1 h
theorem PR.mono {R : Wd → β → α → Prop} {r : Rs α} {Q : β → Hp → Prop} (e : Ext w w1) (s1 : SOk G w1 S1) (h : PR G W R w σ r Q) : PR G W R w1 σ r Q := by
  cases r with
  | ok d S' => exact fun v w' e' s' hr => h v w' (e.thru e' s1) s' hr
  | exc _ _ _ => exact PX.mono e s1 h
theorem PR.ok_ {R : Wd → β → α → Prop} {d : α} {S' : Store} {Q : β → Hp → Prop} (h : PR G W R w σ (.ok d S') Q) {v : β} {w' : Wd} (e : Ext w w') (s : SOk G w' S') (hr : R w' v d) : Q v w'.H := h v w' e s hr
theorem PR.here {R : Wd → β → α → Prop} {d : α} {Q : β → Hp → Prop} (h : PR G W R w σ (.ok d S) Q) (s : SOk G w S) {v : β} (hr : R w v d) : Q v w.H := h v w (Ext.refl w) s hr
/-- a part, then the rest -/
theorem seqR {R : Wd → β → α → Prop} {f : DEnv → Mm α} {k : α → Mm γ} {env : DEnv} {r : Rs γ} (s : SOk G w S) (en : EOk G ξ w σ env) (hr : bnd (f env) k S = some r) (px : PXr G W w σ r) {Q : β → Hp → Prop}
    (K : ∀ a S1 v w1, Ext w w1 → SOk G w1 S1 → EOk G ξ w1 σ env → R w1 v a → k a S1 = some r → Q v w1.H) : tG G ξ W R f σ w.H Q := by
  unfold bnd at hr
  cases h : f env S with
  | none => rw [h] at hr; cases hr
  | some r1 =>
    rw [h] at hr
    refine ⟨w, env, S, r1, rfl, s, en, h, ?_⟩
    cases r1 with
    | exc c fs S' =>
      have e : (Rs.exc c fs S' : Rs γ) = r := Option.some.inj hr
      subst e
      exact px
    | ok a S' => exact fun v w' e s' q => K a S' v w' e s' (en.mono e) q hr
end

/-! ### judgements -/
section
variable (X : Cx) (ξ : Iv) (W : WX)
def DE (e : Expr) (f : FE) : Prop := PE X e (tD (gp X) ξ W f)
def DT (e : Expr) (f : FT) : Prop := PT X e (tDT (gp X) ξ W f)
def DW (e : Expr) (f : FT) : Prop := PW X e (tDT (gp X) ξ W f)
def DA (es : List Expr) (f : FA) : Prop := PA X es (tDA (gp X) ξ W f)
end
section
variable {X : Cx} {ξ : Iv} {W : WX}
theorem PE.imp {e : Expr} {t t' : TE} (h : PE X e t) (i : ∀ σ H Q, t' σ H Q → t σ H Q) : PE X e t' := ⟨fun pins s σ H Q I q => h.run pins s σ H Q I (i σ H Q q)⟩
theorem PT.imp {e : Expr} {t t' : TT} (h : PT X e t) (i : ∀ σ H Q, t' σ H Q → t σ H Q) : PT X e t' := ⟨fun pins s σ H Q I q => h.run pins s σ H Q I (i σ H Q q)⟩
theorem PW.imp {e : Expr} {t t' : TT} (h : PW X e t) (i : ∀ σ H Q, t' σ H Q → t σ H Q) : PW X e t' := ⟨fun wh pins s σ H Q I q => h.run wh pins s σ H Q I (i σ H Q q)⟩
theorem PA.imp {e : List Expr} {t t' : TA} (h : PA X e t) (i : ∀ σ H Q, t' σ H Q → t σ H Q) : PA X e t' := ⟨fun pos pins s σ H Q I q => h.run pos pins s σ H Q I (i σ H Q q)⟩
theorem PS.imp {e : Stmt} {t t' : TS} (h : PS X e t) (i : ∀ D σ H, t' D σ H → t D σ H) : PS X e t' := ⟨fun pins s σ H D I q => h.run pins s σ H D I (i D σ H q)⟩
theorem PSs.imp {e : List Stmt} {t t' : TS} (h : PSs X e t) (i : ∀ D σ H, t' D σ H → t D σ H) : PSs X e t' := ⟨fun pins s σ H D I q => h.run pins s σ H D I (i D σ H q)⟩

/-! ### names, constants -/
@[simp] def fVar (i : Nat) : FE := fun env => ofO (env[i]?).join
@[simp] def fC (d : Dv) : FE := fun _ => ret d
theorem d_var (i : Nat) {x : Str} {pos : Pos} (hN : X.N[i]? = some x := by rfl) (hv : Vis X.env.scope x := by first | exact Or.inl rfl | exact Or.inr (Or.inl rfl) | exact Or.inr (Or.inr rfl)) (hd : (x == ("__debug__" : Str)) = false := by decide)
    (hcd : (x == ("__classdict__" : Str)) = false := by decide) : DE X ξ W (.Name x pos) (fVar i) := PE.imp (pe_var (pos := pos) hN hv hd hcd) fun σ H Q ⟨w, env, S, r, eH, s, en, h, p⟩ => by
  subst eH
  unfold fVar ofO at h
  cases q : (env[i]?).join with
  | none => rw [q] at h; cases h
  | some d =>
    rw [q] at h
    cases h
    have q' : env[i]? = some (some d) := by
      cases z : env[i]? with
      | none => rw [z] at q; cases q
      | some o => rw [z] at q; cases o with
        | none => cases q
        | some d' => cases q; rfl
    obtain ⟨v, h1, h2⟩ := en.get i d q'
    exact ⟨v, h1, p.here s h2⟩
theorem d_const {e : Expr} {v : V} {d : Dv} (h : PE X e (tC v)) (hd : ∀ w, Rp (gp X) w v d) : DE X ξ W e (fC d) := PE.imp h fun σ H Q ⟨w, env, S, r, eH, s, en, h, p⟩ => by
  subst eH
  cases h
  exact p.here s (hd w)
theorem d_int {i j pos} : DE X ξ W (.Constant (.int i) j pos) (fC (.int i)) := d_const pe_int fun _ => .int i
theorem d_bl {i j pos} : DE X ξ W (.Constant (.bool i) j pos) (fC (.bl i)) := d_const pe_bl fun _ => .bl i
theorem d_non {j pos} : DE X ξ W (.Constant .none j pos) (fC .non) := d_const pe_non fun _ => .non
theorem d_str {i j pos} : DE X ξ W (.Constant (.str i) j pos) (fC (.str i)) := d_const pe_str fun _ => .str i
/-- a module's constant -/
theorem d_glob {x : Str} {v : V} {u : Value} {d : Dv} {pos : Pos} (hg : Gl X x) (hm : X.mg x = some u) (r : RelV v u) (hr : ∀ w, Rp (gp X) w v d) (hd : (x == ("__debug__" : Str)) = false := by decide) : DE X ξ W (.Name x pos) (fC d) := d_const (pe_glob hg hm r hd) hr

/-! ### operators -/
abbrev DOp := Dv → Dv → Mm Dv
def OpD (G : Gp) (r : R2) (o : DOp) : Prop := ∀ (W : WX) (w : Wd) (σ : L2.St) (S : Store) (x y : V) (dx dy : Dv) (res : Rs Dv) (Q : VK), SOk G w S → Rp G w x dx → Rp G w y dy → o dx dy S = some res → PR G W (Rp G) w σ res Q → r x y w.H Q
@[simp] def fOp (o : DOp) (fa fb : FE) : FE := fun env => bnd (fa env) fun x => bnd (fb env) fun y => o x y
theorem OpD.or {G : Gp} {r r' : R2} {o : DOp} (h : ∀ (W : WX) (w : Wd) (σ : L2.St) (S : Store) (x y : V) (dx dy : Dv) (res : Rs Dv) (Q : VK), SOk G w S → Rp G w x dx → Rp G w y dy → o dx dy S = some res → PR G W (Rp G) w σ res Q → r x y w.H Q ∨ r' x y w.H Q) : OpD G (fun x y H Q => r x y H Q ∨ r' x y H Q) o := h
theorem OpR.or {f : Value → Value → Sem Value} {r r' : R2} (h : OpR X f r) (h' : OpR X f r') : OpR X f (fun x y H Q => r x y H Q ∨ r' x y H Q) := by
  intro pins s σ H x y v u Q I rx ry q
  rcases q with q | q
  · exact h pins s σ H x y v u Q I rx ry q
  · exact h' pins s σ H x y v u Q I rx ry q
theorem op_body {G : Gp} {r : R2} {o : DOp} {fa fb : FE} (hd : OpD G r o) : ∀ σ H Q, tD G ξ W (fOp o fa fb) σ H Q → tOp r (tD G ξ W fa) (tD G ξ W fb) σ H Q := fun σ H Q ⟨w, env, S, res, eH, s, en, h, p⟩ => by
  subst eH
  exact seqR s en h p.px fun x S1 v w1 e1 s1 en1 r1 h1 => seqR s1 en1 h1 (p.px.mono e1 s1) fun y S2 u w2 e2 s2 en2 r2 h2 =>
    hd W w2 σ S2 v u x y res Q s2 (r1.mono e2) r2 h2 (p.mono (e1.thru e2 s1) s2)
theorem d_op {op : Operator} {r : R2} {o : DOp} {a b : Expr} {fa fb : FE} {pos : Pos} (ho : OpR X (binaryOp op) r) (hd : OpD (gp X) r o) (ha : DE X ξ W a fa) (hb : DE X ξ W b fb) : DE X ξ W (.BinOp a op b pos) (fOp o fa fb) :=
  PE.imp (pe_op ho ha hb) (op_body hd)
theorem d_cmp {op : CmpOp} {r : R2} {o : DOp} {a b : Expr} {fa fb : FE} {pos : Pos} (ho : OpR X (compareOp op) r) (hd : OpD (gp X) r o) (ha : DE X ξ W a fa) (hb : DE X ξ W b fb) (hm : behindInMarks op b = false) : DE X ξ W (.Compare a [op] [b] pos) (fOp o fa fb) :=
  PE.imp (pe_cmpR ho ha hb hm) (op_body hd)
/-- a value as a test -/
@[simp] def asB : Dv → Option Bool
  | .bl b => some b
  | _ => none
@[simp] def fTest (fa : FE) : FT := fun env => bnd (fa env) fun x => ofO (asB x)
theorem test_body {G : Gp} {fa : FE} : ∀ σ H Q, tDT G ξ W (fTest fa) σ H Q → tTest (tD G ξ W fa) σ H Q := fun σ H Q ⟨w, env, S, res, eH, s, en, h, p⟩ => by
  subst eH
  refine seqR s en h p.px fun x S1 v w1 e1 s1 en1 r1 h1 => ?_
  cases r1 <;> first | (cases h1; done) | skip
  rename_i b
  cases h1
  exact ⟨b, rfl, p.ok_ e1 s1 (show RB w1 b b from rfl)⟩
theorem t_cmp {op : CmpOp} {r : R2} {o : DOp} {a b : Expr} {fa fb : FE} {pos : Pos} (ho : OpR X (compareOp op) r) (hd : OpD (gp X) r o) (ha : DE X ξ W a fa) (hb : DE X ξ W b fb) (hm : behindInMarks op b = false) : DT X ξ W (.Compare a [op] [b] pos) (fTest (fOp o fa fb)) :=
  PT.imp (pt_cmpR ho ha hb hm) fun σ H Q h => by
    obtain ⟨w, env, S, res, eH, s, en, h, p⟩ := test_body (fa := fOp o fa fb) σ H Q h
    exact op_body hd σ H _ ⟨w, env, S, res, eH, s, en, h, p⟩

/-! ### the operators' values -/
def oI (g : Int → Int → Dv) : DOp := fun x y => match x, y with
  | .int i, .int j => ret (g i j)
  | _, _ => stuck
def oIC (C : Int → Int → Prop) [∀ i j, Decidable (C i j)] (g : Int → Int → Dv) : DOp := fun x y => match x, y with
  | .int i, .int j => if C i j then ret (g i j) else stuck
  | _, _ => stuck
theorem od_I {G : Gp} {g : Int → Int → V} {g' : Int → Int → Dv} (hg : ∀ w i j, Rp G w (g i j) (g' i j)) : OpD G (rI0 g) (oI g') := by
  intro W w σ S x y dx dy res Q s rx ry h p
  cases rx <;> first | (cases h; done) | skip
  cases ry <;> first | (cases h; done) | skip
  rename_i i j
  cases h
  exact ⟨i, j, rfl, rfl, p.here s (hg w i j)⟩
theorem od_IC {G : Gp} {C C' : Int → Int → Prop} [∀ i j, Decidable (C' i j)] {g : Int → Int → V} {g' : Int → Int → Dv} (hc : ∀ i j, C' i j → C i j) (hg : ∀ w i j, Rp G w (g i j) (g' i j)) : OpD G (rI C g) (oIC C' g') := by
  intro W w σ S x y dx dy res Q s rx ry h p
  cases rx <;> first | (cases h; done) | skip
  cases ry <;> first | (cases h; done) | skip
  rename_i i j
  have h' : (if C' i j then ret (g' i j) else stuck) S = some res := h
  by_cases q : C' i j
  · rw [if_pos q] at h'
    cases h'
    exact ⟨i, j, rfl, rfl, hc i j q, p.here s (hg w i j)⟩
  · rw [if_neg q] at h'
    cases h'
end
end FC

set_option Elab.async false
set_option linter.all false
set_option maxRecDepth 100000
namespace FC
open PySem PySem.Spec L2

/-- the largest length that is looked at -/
abbrev big : Nat := 1000000
theorem big_le {n : Nat} (h : n ≤ big) : n ≤ sizeLine := Nat.le_trans h (by decide)
theorem big_lt {n : Nat} (h : n ≤ big) : n < sizeLine := Nat.lt_of_le_of_lt h (by decide)
@[simp] def lim {α : Type} (n : Nat) (a : Mm α) : Mm α := if n ≤ big then a else stuck
theorem lim_some {α : Type} {n : Nat} {a : Mm α} {S : Store} {r : Rs α} (h : lim n a S = some r) : n ≤ big ∧ a S = some r := by
  unfold lim at h
  by_cases q : n ≤ big
  · rw [if_pos q] at h; exact ⟨q, h⟩
  · rw [if_neg q] at h; cases h

section
variable {X : Cx} {ξ : Iv} {W : WX} {G : Gp}
/-! ### + -/
/-- t + u with an empty t: u itself -/
def rCat0 (K : PySem.W.Frag) : R2 := fun x y H Q => ∃ a b ys, x = .ref a ∧ y = .ref b ∧ SqT K H a [] ∧ SqT K H b ys ∧ Q (.ref b) H
theorem op_cat0 : OpR X (binaryOp .Add) (rCat0 X.K) := by
  intro pins s σ H x y v u Q I rx ry h
  obtain ⟨a, b, ys, rfl, rfl, ha, hb, q⟩ := h
  cases rx
  cases ry
  obtain ⟨its, r1, p1, _⟩ := I.tuple ha
  obtain ⟨its2, r2, p2, _⟩ := I.tuple hb
  cases r1
  obtain ⟨⟨cls, dd, data, sl⟩, ho, hc, n, hd⟩ := id p1
  obtain ⟨⟨cls2, dd2, data2, sl2⟩, ho2, hc2, n2, hd2⟩ := id p2
  simp only at hc hd hc2 hd2
  subst hc hd hc2 hd2
  exact PySem.concat_meets ⟨_, ho, rfl⟩ ⟨_, ho2, rfl⟩ PySem.noFill_tuple_add PySem.seq_tuple_add PySem.F.slot_tuple_add PySem.F.entry_tuple_add (PySem.F.args_tuple_add_2 _ _)
      (PyProof.Rows.tuple_addW0 a b #[] its2.toArray n n2 dd dd2 sl sl2 rfl) ⟨ho, ho2, ⟨.ref b, H, I, rfl, q⟩⟩
def rAddS : R2 := fun x y H Q => ∃ i j, x = .str i ∧ y = .str j ∧ i.length + j.length ≤ sizeLine ∧ Q (.str (i ++ j)) H
/-- + of ints, of tuples -/
@[simp] def oAdd : DOp := fun x y => match x, y with
  | .int i, .int j => ret (.int (i + j))
  | .tup xs, .tup ys => lim (xs.length + ys.length) (ret (.tup (xs ++ ys)))
  | _, _ => stuck
def rAddD (K : PySem.W.Frag) : R2 := fun x y H Q => rI0 (fun i j => .int (i + j)) x y H Q ∨ (rCat0 K x y H Q ∨ rCatT K x y H Q)
theorem op_addD : OpR X (binaryOp .Add) (rAddD X.K) := OpR.or op_add (OpR.or op_cat0 op_catT)
theorem od_add : OpD G (rAddD G.K) oAdd := by
  intro W w σ S x y dx dy res Q s rx ry h p
  cases rx <;> first | (cases h; done) | skip
  · rename_i i
    cases ry <;> first | (cases h; done) | skip
    rename_i j
    cases h
    exact .inl ⟨i, j, rfl, rfl, p.here s (.int _)⟩
  · rename_i a xs ds ha ra
    cases ry <;> first | (cases h; done) | skip
    rename_i b ys es hb rb
    have h' : lim (ds.length + es.length) (ret (.tup (ds ++ es))) S = some res := h
    obtain ⟨hl, h'⟩ := lim_some h'
    cases h'
    refine .inr ?_
    cases ra with
    | nil => exact .inl ⟨a, b, ys, rfl, rfl, ha.to, hb.to, p.here s (.tup hb rb)⟩
    | @cons v vs d ds' hv rv =>
      refine .inr ⟨a, b, v :: vs, ys, rfl, rfl, ha.to, hb.to, by simp, ?_, fun e => ?_, fun _ q hq => ?_⟩
      · rw [(RpAll.cons hv rv).length, rb.length]; exact big_le hl
      · subst e
        cases rb
        refine p.here s ?_
        rw [List.append_nil]
        exact .tup ha (.cons hv rv)
      · exact p.ok_ (.put hq) (s.put hq) (Rp.new_tup s hq ((RpAll.cons hv rv).append rb))
theorem d_add {a b : Expr} {fa fb : FE} {pos : Pos} (ha : DE X ξ W a fa) (hb : DE X ξ W b fb) : DE X ξ W (.BinOp a .Add b pos) (fOp oAdd fa fb) := d_op op_addD od_add ha hb
/-! ### other arithmetic -/
def oSub : DOp := oI fun i j => .int (i - j)
theorem d_sub {a b : Expr} {fa fb : FE} {pos : Pos} (ha : DE X ξ W a fa) (hb : DE X ξ W b fb) : DE X ξ W (.BinOp a .Sub b pos) (fOp oSub fa fb) := d_op op_sub (od_I fun _ _ _ => .int _) ha hb
def CM (i j : Int) : Prop := i.natAbs.log2 + j.natAbs.log2 < 1000000
instance (i j : Int) : Decidable (CM i j) := inferInstanceAs (Decidable (_ < _))
def oMul : DOp := oIC CM fun i j => .int (i * j)
theorem d_mul {a b : Expr} {fa fb : FE} {pos : Pos} (ha : DE X ξ W a fa) (hb : DE X ξ W b fb) : DE X ξ W (.BinOp a .Mult b pos) (fOp oMul fa fb) := d_op op_mulW (od_IC (fun _ _ h => h) fun _ _ _ => .int _) ha hb
def CD (_ j : Int) : Prop := 0 < j ∧ j.natAbs.log2 < 9000
instance (i j : Int) : Decidable (CD i j) := inferInstanceAs (Decidable (_ ∧ _))
def oDiv : DOp := oIC CD fun i j => .int (i / j)
theorem d_div {a b : Expr} {fa fb : FE} {pos : Pos} (ha : DE X ξ W a fa) (hb : DE X ξ W b fb) : DE X ξ W (.BinOp a .FloorDiv b pos) (fOp oDiv fa fb) := d_op op_fdivW (od_IC (fun _ _ h => h) fun _ _ _ => .int _) ha hb
def CO (_ j : Int) : Prop := 0 < j
instance (i j : Int) : Decidable (CO i j) := inferInstanceAs (Decidable (_ < _))
def oMod : DOp := oIC CO fun i j => .int (i % j)
theorem d_mod {a b : Expr} {fa fb : FE} {pos : Pos} (ha : DE X ξ W a fa) (hb : DE X ξ W b fb) : DE X ξ W (.BinOp a .Mod b pos) (fOp oMod fa fb) := d_op op_mod (od_IC (fun _ _ h => h) fun _ _ _ => .int _) ha hb
def CPw (i j : Int) : Prop := 0 ≤ j ∧ j ≤ 1000000 ∧ i.natAbs < 2 ^ 64
instance (i j : Int) : Decidable (CPw i j) := inferInstanceAs (Decidable (_ ∧ _ ∧ _))
def oPow : DOp := oIC CPw fun i j => .int (i ^ j.toNat)
theorem d_pow {a b : Expr} {fa fb : FE} {pos : Pos} (ha : DE X ξ W a fa) (hb : DE X ξ W b fb) : DE X ξ W (.BinOp a .Pow b pos) (fOp oPow fa fb) := d_op op_pow (od_IC (fun _ _ h => h) fun _ _ _ => .int _) ha hb
def oShl : DOp := oIC CPw fun i j => .int (i * 2 ^ j.toNat)
theorem d_shl {a b : Expr} {fa fb : FE} {pos : Pos} (ha : DE X ξ W a fa) (hb : DE X ξ W b fb) : DE X ξ W (.BinOp a .LShift b pos) (fOp oShl fa fb) := d_op op_shl (od_IC (fun _ _ h => h) fun _ _ _ => .int _) ha hb
def CN (_ j : Int) : Prop := 0 ≤ j
instance (i j : Int) : Decidable (CN i j) := inferInstanceAs (Decidable (_ ≤ _))
def oShr : DOp := oIC CN fun i j => .int (i / 2 ^ j.toNat)
theorem d_shr {a b : Expr} {fa fb : FE} {pos : Pos} (ha : DE X ξ W a fa) (hb : DE X ξ W b fb) : DE X ξ W (.BinOp a .RShift b pos) (fOp oShr fa fb) := d_op op_shr (od_IC (fun _ _ h => h) fun _ _ _ => .int _) ha hb
def oBAnd : DOp := oI fun i j => .int (Builtin.bitAnd i j)
theorem d_band {a b : Expr} {fa fb : FE} {pos : Pos} (ha : DE X ξ W a fa) (hb : DE X ξ W b fb) : DE X ξ W (.BinOp a .BitAnd b pos) (fOp oBAnd fa fb) := d_op op_and (od_I fun _ _ _ => .int _) ha hb
@[simp] def fUn (o : Dv → Mm Dv) (fa : FE) : FE := fun env => bnd (fa env) o
@[simp] def oNeg : Dv → Mm Dv
  | .int i => ret (.int (-i))
  | _ => stuck
theorem d_neg {a : Expr} {fa : FE} {pos : Pos} (ha : DE X ξ W a fa) : DE X ξ W (.UnaryOp .USub a pos) (fUn oNeg fa) := PE.imp (pe_un un_neg ha) fun σ H Q ⟨w, env, S, res, eH, s, en, h, p⟩ => by
  subst eH
  refine seqR s en h p.px fun x S1 v w1 e1 s1 en1 r1 h1 => ?_
  cases r1 <;> first | (cases h1; done) | skip
  cases h1
  exact ⟨_, rfl, p.ok_ e1 s1 (.int _)⟩

/-! ### comparisons -/
def oLt : DOp := oI fun i j => .bl (decide (i < j))
def oLe : DOp := oI fun i j => .bl (decide (i ≤ j))
def oGt : DOp := oI fun i j => .bl (decide (j < i))
def oGe : DOp := oI fun i j => .bl (decide (j ≤ i))
theorem od_lt : OpD G (rI0 fun i j => .bl (decide (i < j))) oLt := od_I fun _ _ _ => .bl _
theorem od_le : OpD G (rI0 fun i j => .bl (decide (i ≤ j))) oLe := od_I fun _ _ _ => .bl _
theorem od_gt : OpD G (rI0 fun i j => .bl (decide (j < i))) oGt := od_I fun _ _ _ => .bl _
theorem od_ge : OpD G (rI0 fun i j => .bl (decide (j ≤ i))) oGe := od_I fun _ _ _ => .bl _
/-- scalars of one kind, or one of them None -/
def eqS : Dv → Dv → Option Bool
  | .int i, .int j => some (decide (i = j))
  | .bl i, .bl j => some (decide (i = j))
  | .str i, .str j => some (decide (i = j))
  | .non, .non => some true
  | .non, .int _ => some false
  | .int _, .non => some false
  | .non, .bl _ => some false
  | .bl _, .non => some false
  | .non, .str _ => some false
  | .str _, .non => some false
  | _, _ => none
theorem dec_i {i j : Int} : decide (V.int i = V.int j) = decide (i = j) := by
  rw [Bool.eq_iff_iff]; simp
theorem dec_b {i j : Bool} : decide (V.bl i = V.bl j) = decide (i = j) := by
  rw [Bool.eq_iff_iff]; simp
theorem dec_s {i j : Str} : decide (V.str i = V.str j) = decide (i = j) := by
  rw [Bool.eq_iff_iff]; simp
theorem eqS_ok {w : Wd} {x y : V} {dx dy : Dv} {b : Bool} (rx : Rp G w x dx) (ry : Rp G w y dy) (h : eqS dx dy = some b) : scal x y = true ∧ decide (x = y) = b := by
  cases rx <;> first | (cases h; done) | skip
  all_goals (cases ry <;> first | (cases h; done) | skip)
  all_goals cases h
  all_goals (refine ⟨rfl, ?_⟩; first | exact dec_i | exact dec_b | exact dec_s | rfl | skip)
/-! data as a whole -/
mutual
def toPy : Dv → Option PyData
  | .non => some .none
  | .bl b => some (.bool b)
  | .int i => some (.int i)
  | .str x => some (.str x)
  | .tup xs => (toPys xs).map .tuple
  | .lst xs => (toPys xs).map .list
  | _ => none
def toPys : List Dv → Option (List PyData)
  | [] => some []
  | d :: r => match toPy d, toPys r with
    | some p, some q => some (p :: q)
    | _, _ => none
end
mutual
theorem dp_of {w : Wd} : ∀ (d : Dv) (v : V) (p : PyData), Rp G w v d → toPy d = some p → Dp G.K w.H v p
  | .non, v, p, r, h => by cases r; cases h; exact .non
  | .bl b, v, p, r, h => by cases r; cases h; exact .bl b
  | .int i, v, p, r, h => by cases r; cases h; exact .int i
  | .str x, v, p, r, h => by cases r; cases h; exact .str x
  | .tup xs, v, p, r, h => by
    unfold toPy at h
    cases q : toPys xs with
    | none => rw [q] at h; cases h
    | some ps =>
      rw [q] at h
      cases h
      cases r with
      | tup hs ra => exact .tup hs.to (dps_of xs _ ps ra q)
  | .lst xs, v, p, r, h => by
    unfold toPy at h
    cases q : toPys xs with
    | none => rw [q] at h; cases h
    | some ps =>
      rw [q] at h
      cases h
      cases r with
      | lst hs ra => exact .lst hs.to (dps_of xs _ ps ra q)
  | .obj _, _, _, _, h => by cases h
  | .ins _ _, _, _, _, h => by cases h
  | .dic _, _, _, _, h => by cases h
  | .dit _, _, _, _, h => by cases h
theorem dps_of {w : Wd} : ∀ (ds : List Dv) (vs : List V) (ps : List PyData), RpAll G w vs ds → toPys ds = some ps → DpAll G.K w.H vs ps
  | [], vs, ps, r, h => by cases r; cases h; exact .nil
  | d :: ds, vs, ps, r, h => by
    unfold toPys at h
    cases q : toPy d with
    | none => rw [q] at h; cases h
    | some p =>
      cases q2 : toPys ds with
      | none => rw [q, q2] at h; cases h
      | some qs =>
        rw [q, q2] at h
        cases h
        cases r with
        | cons hd ra => exact .cons (dp_of d _ p hd q) (dps_of ds _ qs ra q2)
end
/-- == of data: scalars first, then lists and tuples as a whole -/
def eqD (x y : Dv) : Option Bool := match eqS x y with
  | some b => some b
  | none => match toPy x, toPy y with
    | some p, some q => if SeqAt.shaped p = true ∧ SeqAt.shaped q = true then some (PyData.eqv p q) else none
    | _, _ => none
def oEq : DOp := fun x y => ofO ((eqD x y).map .bl)
def oNe : DOp := fun x y => ofO ((eqD x y).map fun b => .bl (!b))
def rEqA (K : PySem.W.Frag) : R2 := fun x y H Q => rEq x y H Q ∨ rEqD K x y H Q
def rNeA (K : PySem.W.Frag) : R2 := fun x y H Q => rNe x y H Q ∨ rNeD K x y H Q
theorem ofO_some {α : Type} {o : Option α} {S : Store} {r : Rs α} (h : ofO o S = some r) : ∃ a, o = some a ∧ r = .ok a S := by
  unfold ofO at h
  cases o with
  | none => cases h
  | some a => cases h; exact ⟨a, rfl, rfl⟩
theorem eqD_some {x y : Dv} {b : Bool} (h : eqD x y = some b) : eqS x y = some b ∨ ∃ p q, toPy x = some p ∧ toPy y = some q ∧ SeqAt.shaped p = true ∧ SeqAt.shaped q = true ∧ b = PyData.eqv p q := by
  unfold eqD at h
  cases e : eqS x y with
  | some b' => rw [e] at h; cases h; exact .inl rfl
  | none =>
    rw [e] at h
    cases e1 : toPy x with
    | none => rw [e1] at h; cases h
    | some p =>
      cases e2 : toPy y with
      | none => rw [e1, e2] at h; cases h
      | some q =>
        rw [e1, e2] at h
        have h' : (if SeqAt.shaped p = true ∧ SeqAt.shaped q = true then some (PyData.eqv p q) else none) = some b := h
        by_cases z : SeqAt.shaped p = true ∧ SeqAt.shaped q = true
        · rw [if_pos z] at h'
          cases h'
          exact .inr ⟨p, q, rfl, rfl, z.1, z.2, rfl⟩
        · rw [if_neg z] at h'
          cases h'
theorem od_eq : OpD G (rEqA G.K) oEq := by
  intro W w σ S x y dx dy res Q s rx ry h p
  obtain ⟨d, hd, rfl⟩ := ofO_some h
  cases e : eqD dx dy with
  | none => rw [e] at hd; cases hd
  | some b =>
    rw [e] at hd
    cases hd
    rcases eqD_some e with e | ⟨p1, q1, h1, h2, h3, h4, rfl⟩
    · obtain ⟨a1, a2⟩ := eqS_ok rx ry e
      exact .inl ⟨a1, by rw [a2]; exact p.here s (.bl b)⟩
    · exact .inr ⟨p1, q1, dp_of dx x p1 rx h1, dp_of dy y q1 ry h2, h3, h4, p.here s (.bl _)⟩
theorem od_ne : OpD G (rNeA G.K) oNe := by
  intro W w σ S x y dx dy res Q s rx ry h p
  obtain ⟨d, hd, rfl⟩ := ofO_some h
  cases e : eqD dx dy with
  | none => rw [e] at hd; cases hd
  | some b =>
    rw [e] at hd
    cases hd
    rcases eqD_some e with e | ⟨p1, q1, h1, h2, h3, h4, rfl⟩
    · obtain ⟨a1, a2⟩ := eqS_ok rx ry e
      exact .inl ⟨a1, by rw [a2]; exact p.here s (.bl _)⟩
    · exact .inr ⟨p1, q1, dp_of dx x p1 rx h1, dp_of dy y q1 ry h2, h3, h4, p.here s (.bl _)⟩
@[simp] def isNonD : Dv → Bool
  | .non => true
  | _ => false
theorem isNonD_ok {w : Wd} {x : V} {d : Dv} (r : Rp G w x d) : decide (x = V.non) = isNonD d := by
  cases r <;> rfl
@[simp] def oIs : DOp := fun x y => match y with
  | .non => ret (.bl (isNonD x))
  | _ => stuck
@[simp] def oNis : DOp := fun x y => match y with
  | .non => ret (.bl (!isNonD x))
  | _ => stuck
theorem od_is : OpD G (fun x y H Q => y = .non ∧ Q (.bl (decide (x = .non))) H) oIs := by
  intro W w σ S x y dx dy res Q s rx ry h p
  cases ry <;> first | (cases h; done) | skip
  cases h
  exact ⟨rfl, by rw [isNonD_ok rx]; exact p.here s (.bl _)⟩
theorem od_nis : OpD G (fun x y H Q => y = .non ∧ Q (.bl (!decide (x = .non))) H) oNis := by
  intro W w σ S x y dx dy res Q s rx ry h p
  cases ry <;> first | (cases h; done) | skip
  cases h
  exact ⟨rfl, by rw [isNonD_ok rx]; exact p.here s (.bl _)⟩
section
variable {a b : Expr} {fa fb : FE} {pos : Pos}
theorem d_lt (ha : DE X ξ W a fa) (hb : DE X ξ W b fb) : DE X ξ W (.Compare a [.Lt] [b] pos) (fOp oLt fa fb) := d_cmp op_lt od_lt ha hb (nomark _)
theorem d_le (ha : DE X ξ W a fa) (hb : DE X ξ W b fb) : DE X ξ W (.Compare a [.LtE] [b] pos) (fOp oLe fa fb) := d_cmp op_le od_le ha hb (nomark _)
theorem d_gt (ha : DE X ξ W a fa) (hb : DE X ξ W b fb) : DE X ξ W (.Compare a [.Gt] [b] pos) (fOp oGt fa fb) := d_cmp op_gt od_gt ha hb (nomark _)
theorem d_ge (ha : DE X ξ W a fa) (hb : DE X ξ W b fb) : DE X ξ W (.Compare a [.GtE] [b] pos) (fOp oGe fa fb) := d_cmp op_ge od_ge ha hb (nomark _)
theorem d_eq (hu : X.A.units + 64 < cLine) (ha : DE X ξ W a fa) (hb : DE X ξ W b fb) : DE X ξ W (.Compare a [.Eq] [b] pos) (fOp oEq fa fb) := d_cmp (OpR.or op_eq (op_eqD hu)) od_eq ha hb (nomark _)
theorem d_ne (hu : X.A.units + 64 < cLine) (ha : DE X ξ W a fa) (hb : DE X ξ W b fb) : DE X ξ W (.Compare a [.NotEq] [b] pos) (fOp oNe fa fb) := d_cmp (OpR.or op_ne (op_neD hu)) od_ne ha hb (nomark _)
theorem d_is (ha : DE X ξ W a fa) (hb : DE X ξ W b fb) : DE X ξ W (.Compare a [.Is] [b] pos) (fOp oIs fa fb) := d_cmp op_isN od_is ha hb (nomark _)
theorem d_nis (ha : DE X ξ W a fa) (hb : DE X ξ W b fb) : DE X ξ W (.Compare a [.IsNot] [b] pos) (fOp oNis fa fb) := d_cmp op_notN od_nis ha hb (nomark _)
theorem t_lt (ha : DE X ξ W a fa) (hb : DE X ξ W b fb) : DT X ξ W (.Compare a [.Lt] [b] pos) (fTest (fOp oLt fa fb)) := t_cmp op_lt od_lt ha hb (nomark _)
theorem t_le (ha : DE X ξ W a fa) (hb : DE X ξ W b fb) : DT X ξ W (.Compare a [.LtE] [b] pos) (fTest (fOp oLe fa fb)) := t_cmp op_le od_le ha hb (nomark _)
theorem t_gt (ha : DE X ξ W a fa) (hb : DE X ξ W b fb) : DT X ξ W (.Compare a [.Gt] [b] pos) (fTest (fOp oGt fa fb)) := t_cmp op_gt od_gt ha hb (nomark _)
theorem t_ge (ha : DE X ξ W a fa) (hb : DE X ξ W b fb) : DT X ξ W (.Compare a [.GtE] [b] pos) (fTest (fOp oGe fa fb)) := t_cmp op_ge od_ge ha hb (nomark _)
theorem t_eq (hu : X.A.units + 64 < cLine) (ha : DE X ξ W a fa) (hb : DE X ξ W b fb) : DT X ξ W (.Compare a [.Eq] [b] pos) (fTest (fOp oEq fa fb)) := t_cmp (OpR.or op_eq (op_eqD hu)) od_eq ha hb (nomark _)
theorem t_ne (hu : X.A.units + 64 < cLine) (ha : DE X ξ W a fa) (hb : DE X ξ W b fb) : DT X ξ W (.Compare a [.NotEq] [b] pos) (fTest (fOp oNe fa fb)) := t_cmp (OpR.or op_ne (op_neD hu)) od_ne ha hb (nomark _)
theorem t_is (ha : DE X ξ W a fa) (hb : DE X ξ W b fb) : DT X ξ W (.Compare a [.Is] [b] pos) (fTest (fOp oIs fa fb)) := t_cmp op_isN od_is ha hb (nomark _)
theorem t_nis (ha : DE X ξ W a fa) (hb : DE X ξ W b fb) : DT X ξ W (.Compare a [.IsNot] [b] pos) (fTest (fOp oNis fa fb)) := t_cmp op_notN od_nis ha hb (nomark _)
end
end
end FC

set_option Elab.async false
set_option linter.all false
set_option maxRecDepth 100000
namespace FC
open PySem PySem.Spec L2

section
variable {X : Cx} {ξ : Iv} {W : WX} {G : Gp}
/-! ### truth -/
@[simp] def tru (d : Dv) : Mm Bool := fun S => match d with
  | .non => some (.ok false S)
  | .bl b => some (.ok b S)
  | .int i => some (.ok (i != 0) S)
  | .str x => if x.length ≤ big then some (.ok ((x.length : Int) != 0) S) else none
  | .tup xs => some (.ok (!xs.isEmpty) S)
  | .lst xs => some (.ok (!xs.isEmpty) S)
  | .dic xs => some (.ok (!xs.isEmpty) S)
  | .obj n => match S[n]? with
    | some (.lst xs) => some (.ok (!xs.isEmpty) S)
    | some (.dic xs) => some (.ok (!xs.isEmpty) S)
    | _ => none
  | _ => none
theorem isE_all {w : Wd} {vs : List V} {ds : List Dv} (r : RpAll G w vs ds) : vs.isEmpty = ds.isEmpty := by
  cases r <;> rfl
theorem isE_map {κ : Type} {w : Wd} {vs : List (κ × V)} {ds : List (κ × Dv)} (r : RpAll G w (vs.map Prod.snd) (ds.map Prod.snd)) : vs.isEmpty = ds.isEmpty := by
  cases vs <;> cases ds <;> first | rfl | cases r
theorem Rp.obj_at {w : Wd} {S : Store} {n : Nat} {a : Addr} {d : Dv} (s : SOk G w S) (h : w.as[n]? = some a) (hd : S[n]? = some d) : MOk G w a d := s.cont n a d h hd
theorem tru_ok' {w : Wd} {S : Store} {x : V} {d : Dv} {b : Bool} {S' : Store} (s : SOk G w S) (r : Rp G w x d) (h : tru d S = some (.ok b S')) : S' = S ∧ TruV G.K x w.H b := by
  cases r with
  | non => cases h; exact ⟨rfl, rfl⟩
  | bl b' => cases h; exact ⟨rfl, rfl⟩
  | int i => cases h; exact ⟨rfl, rfl⟩
  | str z =>
    have h' : (if z.length ≤ big then some (Rs.ok ((z.length : Int) != 0) S) else none) = some (Rs.ok b S') := h
    by_cases q : z.length ≤ big
    · rw [if_pos q] at h'; cases h'; exact ⟨rfl, big_le q, rfl⟩
    · rw [if_neg q] at h'; cases h'
  | tup ha ra => cases h; exact ⟨rfl, .inr (.inl ⟨_, ha.to, by rw [isE_all ra]⟩)⟩
  | lst ha ra => cases h; exact ⟨rfl, .inl ⟨_, ha.to, by rw [isE_all ra]⟩⟩
  | dic ha _ _ ra => cases h; exact ⟨rfl, .inr (.inr ⟨_, ha, by rw [isE_map ra]⟩)⟩
  | @obj a n ha =>
    dsimp only [tru] at h
    cases e : S[n]? with
    | none => rw [e] at h; cases h
    | some d =>
      rw [e] at h
      have m := s.cont n a d ha e
      cases d <;> first | (cases h; done) | skip
      · obtain ⟨xs, h1, h2⟩ := m
        cases h
        exact ⟨rfl, .inl ⟨_, SqL.of h1, by rw [isE_all h2]⟩⟩
      · obtain ⟨xs, h1, _, h2⟩ := m
        cases h
        exact ⟨rfl, .inr (.inr ⟨_, h1, by rw [isE_map h2]⟩)⟩
  | dit _ _ _ _ => cases h
  | ins _ _ _ _ => cases h
theorem tru_exc {d : Dv} {S S' : Store} {c : Str} {fs : List (Str × Dv)} (h : tru d S = some (.exc c fs S')) : False := by
  unfold tru at h
  split at h <;> first | (cases h; done) | skip
  · split at h <;> cases h
  · split at h <;> cases h
@[simp] def fTru (fa : FE) : FT := fun env => bnd (fa env) tru
theorem t_tru {a : Expr} {fa : FE} (ha : DE X ξ W a fa) (he : ∀ whole, isTrue a X.env whole = (do let v ← whole; standAt a.pos; holding [v] (truthy v)) := by intro _; rfl) : DT X ξ W a (fTru fa) :=
  PT.imp (pt_truth ha he) fun σ H Q ⟨w, env, S, res, eH, s, en, h, p⟩ => by
    subst eH
    refine seqR s en h p.px fun x S1 v w1 e1 s1 en1 r1 h1 => ?_
    cases res with
    | exc c fs S' => exact (tru_exc h1).elim
    | ok b S' =>
      obtain ⟨rfl, t⟩ := tru_ok' s1 r1 h1
      exact ⟨b, t, p.ok_ e1 s1 rfl⟩
/-! ### and, or, not -/
@[simp] def fAnd (fa fb : FT) : FT := fun env => bnd (fa env) fun c => if c = true then fb env else ret false
@[simp] def fOr (fa fb : FT) : FT := fun env => bnd (fa env) fun c => if c = true then ret true else fb env
@[simp] def fNot (fa : FT) : FT := fun env => bnd (fa env) fun c => ret (!c)
section
variable {a b : Expr} {rest : List Expr} {fa fb : FT} {pos : Pos}
theorem w_and1 (ha : DT X ξ W a fa) : DW X ξ W (.BoolOp .And [a] pos) fa := pw_and1 ha
theorem w_or1 (ha : DT X ξ W a fa) : DW X ξ W (.BoolOp .Or [a] pos) fa := pw_or1 ha
theorem t_of (h : DW X ξ W a fa) : DT X ξ W a fa := PW.pt h
theorem w_and (ha : DT X ξ W a fa) (hb : DW X ξ W (.BoolOp .And (b :: rest) pos) fb) : DW X ξ W (.BoolOp .And (a :: b :: rest) pos) (fAnd fa fb) :=
  PW.imp (pw_and ha hb) fun σ H Q ⟨w, env, S, res, eH, s, en, h, p⟩ => by
    subst eH
    refine seqR s en h p.px fun x S1 v w1 e1 s1 en1 r1 h1 => ?_
    cases (show v = x from r1)
    cases x with
    | true => exact ⟨w1, env, S1, res, rfl, s1, en1, h1, p.mono e1 s1⟩
    | false =>
      cases h1
      exact p.ok_ e1 s1 rfl
theorem w_or (ha : DT X ξ W a fa) (hb : DW X ξ W (.BoolOp .Or (b :: rest) pos) fb) : DW X ξ W (.BoolOp .Or (a :: b :: rest) pos) (fOr fa fb) :=
  PW.imp (pw_or ha hb) fun σ H Q ⟨w, env, S, res, eH, s, en, h, p⟩ => by
    subst eH
    refine seqR s en h p.px fun x S1 v w1 e1 s1 en1 r1 h1 => ?_
    cases (show v = x from r1)
    cases x with
    | false => exact ⟨w1, env, S1, res, rfl, s1, en1, h1, p.mono e1 s1⟩
    | true =>
      cases h1
      exact p.ok_ e1 s1 rfl
theorem t_not (ha : DT X ξ W a fa) : DT X ξ W (.UnaryOp .Not a pos) (fNot fa) :=
  PT.imp (pt_not ha) fun σ H Q ⟨w, env, S, res, eH, s, en, h, p⟩ => by
    subst eH
    refine seqR s en h p.px fun x S1 v w1 e1 s1 en1 r1 h1 => ?_
    cases (show v = x from r1)
    cases h1
    exact p.ok_ e1 s1 rfl
end
/-- as values, all but the last bools -/
@[simp] def fAndV (fa fb : FE) : FE := fun env => bnd (fa env) fun x => bnd (ofO (asB x)) fun c => if c = true then fb env else ret (.bl false)
@[simp] def fOrV (fa fb : FE) : FE := fun env => bnd (fa env) fun x => bnd (ofO (asB x)) fun c => if c = true then ret (.bl true) else fb env
@[simp] def fNotV (fa : FE) : FE := fun env => bnd (fa env) fun x => bnd (ofO (asB x)) fun c => ret (.bl (!c))
@[simp] def fIfE (ft : FT) (fa fb : FE) : FE := fun env => bnd (ft env) fun c => if c = true then fa env else fb env
theorem asB_bnd {α : Type} {w : Wd} {v : V} {d : Dv} {k : Bool → Mm α} {S : Store} {r : Rs α} (rv : Rp G w v d) (h : bnd (ofO (asB d)) k S = some r) : ∃ c, v = .bl c ∧ k c S = some r := by
  cases rv <;> first | (cases h; done) | skip
  rename_i b
  exact ⟨b, rfl, h⟩
section
variable {a b c : Expr} {rest : List Expr} {fa fb : FE} {ft : FT} {pos : Pos}
theorem d_one {op} (h : DE X ξ W a fa) : DE X ξ W (.BoolOp op [a] pos) fa := pe_one h
theorem d_and (ha : DE X ξ W a fa) (hb : DE X ξ W (.BoolOp .And (b :: rest) pos) fb) : DE X ξ W (.BoolOp .And (a :: b :: rest) pos) (fAndV fa fb) :=
  PE.imp (pe_and ha hb) fun σ H Q ⟨w, env, S, res, eH, s, en, h, p⟩ => by
    subst eH
    refine seqR s en h p.px fun x S1 v w1 e1 s1 en1 r1 h1 => ?_
    obtain ⟨k, rfl, h2⟩ := asB_bnd r1 h1
    refine ⟨k, rfl, ?_⟩
    cases k with
    | true => exact ⟨w1, env, S1, res, rfl, s1, en1, h2, p.mono e1 s1⟩
    | false =>
      cases h2
      exact p.ok_ e1 s1 (.bl false)
theorem d_or (ha : DE X ξ W a fa) (hb : DE X ξ W (.BoolOp .Or (b :: rest) pos) fb) : DE X ξ W (.BoolOp .Or (a :: b :: rest) pos) (fOrV fa fb) :=
  PE.imp (pe_or ha hb) fun σ H Q ⟨w, env, S, res, eH, s, en, h, p⟩ => by
    subst eH
    refine seqR s en h p.px fun x S1 v w1 e1 s1 en1 r1 h1 => ?_
    obtain ⟨k, rfl, h2⟩ := asB_bnd r1 h1
    refine ⟨k, rfl, ?_⟩
    cases k with
    | false => exact ⟨w1, env, S1, res, rfl, s1, en1, h2, p.mono e1 s1⟩
    | true =>
      cases h2
      exact p.ok_ e1 s1 (.bl true)
theorem d_not (ha : DE X ξ W a fa) : DE X ξ W (.UnaryOp .Not a pos) (fNotV fa) :=
  PE.imp (pe_not ha) fun σ H Q ⟨w, env, S, res, eH, s, en, h, p⟩ => by
    subst eH
    refine seqR s en h p.px fun x S1 v w1 e1 s1 en1 r1 h1 => ?_
    obtain ⟨k, rfl, h2⟩ := asB_bnd r1 h1
    cases h2
    exact ⟨k, rfl, p.ok_ e1 s1 (.bl _)⟩
theorem d_if (hc : DT X ξ W c ft) (ha : DE X ξ W a fa) (hb : DE X ξ W b fb) : DE X ξ W (.IfExp c a b pos) (fIfE ft fa fb) :=
  PE.imp (pe_ifExp hc ha hb) fun σ H Q ⟨w, env, S, res, eH, s, en, h, p⟩ => by
    subst eH
    refine seqR s en h p.px fun x S1 v w1 e1 s1 en1 r1 h1 => ?_
    cases (show v = x from r1)
    cases x with
    | true => exact ⟨w1, env, S1, res, rfl, s1, en1, h1, p.mono e1 s1⟩
    | false => exact ⟨w1, env, S1, res, rfl, s1, en1, h1, p.mono e1 s1⟩
end
/-- a bool's value as a test -/
theorem t_val {a : Expr} {fa : FE} (ha : DE X ξ W a fa) (he : ∀ whole, isTrue a X.env whole = (do let v ← whole; standAt a.pos; holding [v] (truthy v)) := by intro _; rfl) : DT X ξ W a (fTest fa) :=
  PT.imp (pt_val ha he) (test_body (fa := fa))

/-! ### arguments, calls of built-in functions -/
@[simp] def fNil : FA := fun _ => ret []
@[simp] def fCons (fa : FE) (fr : FA) : FA := fun env => bnd (fa env) fun x => bnd (fr env) fun xs => ret (x :: xs)
theorem a_nil : DA X ξ W [] fNil := PA.imp pa_nil fun σ H Q ⟨w, env, S, res, eH, s, en, h, p⟩ => by
  subst eH
  cases h
  exact p.here s .nil
theorem a_cons {e : Expr} {es : List Expr} {fa : FE} {fr : FA} (ha : DE X ξ W e fa) (hr : DA X ξ W es fr) (hs : starEach (e :: es) X.env = (false, eval e X.env) :: starEach es X.env := by rfl) : DA X ξ W (e :: es) (fCons fa fr) :=
  PA.imp (pa_cons ha hr hs) fun σ H Q ⟨w, env, S, res, eH, s, en, h, p⟩ => by
    subst eH
    refine seqR s en h p.px fun x S1 v w1 e1 s1 en1 r1 h1 => seqR s1 en1 h1 (p.px.mono e1 s1) fun xs S2 vs w2 e2 s2 en2 r2 h2 => ?_
    cases h2
    exact p.ok_ (e1.trans e2) s2 (.cons (r1.mono e2) r2)
abbrev DCl := List Dv → Mm Dv
def CallD (G : Gp) (r : List V → Hp → VK → Prop) (o : DCl) : Prop := ∀ (W : WX) (w : Wd) (σ : L2.St) (S : Store) (xs : List V) (ds : List Dv) (res : Rs Dv) (Q : VK), SOk G w S → RpAll G w xs ds → o ds S = some res → PR G W (Rp G) w σ res Q → r xs w.H Q
@[simp] def fCall (o : DCl) (fa : FA) : FE := fun env => bnd (fa env) o
theorem call_body {r : List V → Hp → VK → Prop} {o : DCl} {fa : FA} (hd : CallD G r o) : ∀ σ H Q, tD G ξ W (fCall o fa) σ H Q → tCB r (tDA G ξ W fa) σ H Q := fun σ H Q ⟨w, env, S, res, eH, s, en, h, p⟩ => by
  subst eH
  exact seqR s en h p.px fun x S1 v w1 e1 s1 en1 r1 h1 => hd W w1 σ S1 v x res Q s1 r1 h1 (p.mono e1 s1)
section
variable {x : Str} {p pos : Pos} {e : Expr} {es : List Expr} {fa : FA} {id T : String} {r : List V → Hp → VK → Prop} {o : DCl}
theorem d_callB (hc : CallR X (.builtin id) r) (hd : CallD (gp X) r o) (hm : X.mg x = none) (hv : bootBuiltins x = some (.builtin id)) (ha : DA X ξ W (e :: es) fa) (hg : Gl X x := by rfl) (hn : x ≠ "__name__" := by decide) (hdb : (x == ("__debug__" : Str)) = false := by decide)
    (he : starEach (e :: es) X.env = (false, eval e X.env) :: starEach es X.env := by rfl) (hpl : (backTo pos (starEach es X.env)).any (·.1) = false := by rfl) : DE X ξ W (.Call (.Name x p) (e :: es) [] pos) (fCall o fa) :=
  PE.imp (pe_callB hc hg hm hv ha hn hdb he hpl) (call_body hd)
theorem d_callTy (hc : CallR X (.type T) r) (hd : CallD (gp X) r o) (hm : X.mg x = none) (hv : bootBuiltins x = some (.type T)) (ha : DA X ξ W (e :: es) fa) (hg : Gl X x := by rfl) (hn : x ≠ "__name__" := by decide) (hdb : (x == ("__debug__" : Str)) = false := by decide)
    (he : starEach (e :: es) X.env = (false, eval e X.env) :: starEach es X.env := by rfl) (hpl : (backTo pos (starEach es X.env)).any (·.1) = false := by rfl) : DE X ξ W (.Call (.Name x p) (e :: es) [] pos) (fCall o fa) :=
  PE.imp (pe_callTy hc hg hm hv ha hn hdb he hpl) (call_body hd)
end
/-! what the built-in functions answer -/
/-- a list or tuple, also a named list -/
@[simp] def seqOf (d : Dv) (S : Store) : Option (List Dv) := match d with
  | .tup xs => some xs
  | .lst xs => some xs
  | .obj n => match S[n]? with
    | some (.lst xs) => some xs
    | _ => none
  | _ => none
theorem seqOf_ok {w : Wd} {S : Store} {v : V} {d : Dv} {ds : List Dv} (s : SOk G w S) (r : Rp G w v d) (h : seqOf d S = some ds) : ∃ a xs, v = .ref a ∧ (SqL G.K w.H a xs ∨ SqT G.K w.H a xs) ∧ RpAll G w xs ds := by
  cases r <;> first | (cases h; done) | skip
  · rename_i ha ra; cases h; exact ⟨_, _, rfl, .inr ha.to, ra⟩
  · rename_i ha ra; cases h; exact ⟨_, _, rfl, .inl ha.to, ra⟩
  · rename_i a n ha
    dsimp only [seqOf] at h
    cases e : S[n]? with
    | none => rw [e] at h; cases h
    | some d =>
      rw [e] at h
      have m := s.cont n a d ha e
      cases d <;> first | (cases h; done) | skip
      obtain ⟨xs, h1, h2⟩ := m
      cases h
      exact ⟨a, xs, rfl, .inl (SqL.of h1), h2⟩
@[simp] def oLen : DCl := fun ds S => match ds with
  | [d] => match seqOf d S with
    | some xs => some (.ok (.int xs.length) S)
    | none => none
  | _ => none
theorem cd_len : CallD G (fun xs H Q => ∃ p ys, xs = [.ref p] ∧ (SqL G.K H p ys ∨ SqT G.K H p ys) ∧ Q (.int ys.length) H) oLen := by
  intro W w σ S xs ds res Q s r h p
  cases r with
  | nil => cases h
  | cons h1 r1 =>
    cases r1 with
    | cons _ _ => cases h
    | nil =>
      rename_i v d
      have h' : (match seqOf d S with | some xs => some (Rs.ok (Dv.int xs.length) S) | none => none) = some res := h
      cases e : seqOf d S with
      | none => rw [e] at h'; cases h'
      | some ys =>
        rw [e] at h'
        cases h'
        obtain ⟨a, zs, rfl, hs, hr⟩ := seqOf_ok s h1 e
        exact ⟨a, zs, rfl, hs, by rw [hr.length]; exact p.here s (.int _)⟩
def oAbs : DCl := fun ds => match ds with
  | [.int i] => ret (.int (if i < 0 then -i else i))
  | _ => stuck
theorem rp1 {w : Wd} {xs : List V} {d : Dv} (r : RpAll G w xs [d]) : ∃ v, xs = [v] ∧ Rp G w v d := by
  cases r with
  | cons h1 r1 => cases r1; exact ⟨_, rfl, h1⟩
theorem rp2 {w : Wd} {xs : List V} {d e : Dv} (r : RpAll G w xs [d, e]) : ∃ v u, xs = [v, u] ∧ Rp G w v d ∧ Rp G w u e := by
  cases r with
  | cons h1 r1 =>
    obtain ⟨u, rfl, h2⟩ := rp1 r1
    exact ⟨_, _, rfl, h1, h2⟩
theorem cd_abs : CallD G (fun xs H Q => ∃ i, xs = [.int i] ∧ Q (.int (if i < 0 then -i else i)) H) oAbs := by
  intro W w σ S xs ds res Q s r h p
  unfold oAbs at h
  split at h
  · obtain ⟨v, rfl, h1⟩ := rp1 r
    cases h1
    cases h
    exact ⟨_, rfl, p.here s (.int _)⟩
  · cases h
def oInt1 : DCl := fun ds => match ds with
  | [.int i] => ret (.int i)
  | [.bl k] => ret (.int (if k then 1 else 0))
  | _ => stuck
theorem cd_int1 : CallD G (fun xs H Q => (∃ i, xs = [.int i] ∧ Q (.int i) H) ∨ ∃ k, xs = [.bl k] ∧ Q (.int (if k then 1 else 0)) H) oInt1 := by
  intro W w σ S xs ds res Q s r h p
  unfold oInt1 at h
  split at h
  · obtain ⟨v, rfl, h1⟩ := rp1 r
    cases h1
    cases h
    exact .inl ⟨_, rfl, p.here s (.int _)⟩
  · obtain ⟨v, rfl, h1⟩ := rp1 r
    cases h1
    cases h
    exact .inr ⟨_, rfl, p.here s (.int _)⟩
  · cases h
def oMin2 : DCl := fun ds => match ds with
  | [.int i, .int j] => ret (.int (if j < i then j else i))
  | _ => stuck
def oMax2 : DCl := fun ds => match ds with
  | [.int i, .int j] => ret (.int (if j > i then j else i))
  | _ => stuck
theorem cd_min2 : CallD G (fun xs H Q => ∃ i j, xs = [.int i, .int j] ∧ Q (.int (if j < i then j else i)) H) oMin2 := by
  intro W w σ S xs ds res Q s r h p
  unfold oMin2 at h
  split at h
  · obtain ⟨v, u, rfl, h1, h2⟩ := rp2 r
    cases h1; cases h2
    cases h
    exact ⟨_, _, rfl, p.here s (.int _)⟩
  · cases h
theorem cd_max2 : CallD G (fun xs H Q => ∃ i j, xs = [.int i, .int j] ∧ Q (.int (if j > i then j else i)) H) oMax2 := by
  intro W w σ S xs ds res Q s r h p
  unfold oMax2 at h
  split at h
  · obtain ⟨v, u, rfl, h1, h2⟩ := rp2 r
    cases h1; cases h2
    cases h
    exact ⟨_, _, rfl, p.here s (.int _)⟩
  · cases h
/-- the ints, the bools of a list of data -/
def asInts : List Dv → Option (List Int)
  | [] => some []
  | .int i :: r => (asInts r).map (i :: ·)
  | _ :: _ => none
def asBls : List Dv → Option (List Bool)
  | [] => some []
  | .bl i :: r => (asBls r).map (i :: ·)
  | _ :: _ => none
theorem asInts_eq : ∀ {ds : List Dv} {ns : List Int}, asInts ds = some ns → ds = ns.map Dv.int
  | [], ns, h => by cases h; rfl
  | .int i :: r, ns, h => by
    unfold asInts at h
    cases e : asInts r with
    | none => rw [e] at h; cases h
    | some ms =>
      rw [e] at h
      cases h
      rw [asInts_eq e]
      rfl
  | .non :: _, _, h => by cases h
  | .bl _ :: _, _, h => by cases h
  | .str _ :: _, _, h => by cases h
  | .tup _ :: _, _, h => by cases h
  | .lst _ :: _, _, h => by cases h
  | .obj _ :: _, _, h => by cases h
  | .ins _ _ :: _, _, h => by cases h
  | .dic _ :: _, _, h => by cases h
  | .dit _ :: _, _, h => by cases h
theorem asInts_map : ∀ ns : List Int, asInts (ns.map Dv.int) = some ns
  | [] => rfl
  | n :: ns => by
    show (asInts (ns.map Dv.int)).map (n :: ·) = _
    rw [asInts_map ns]
    rfl
theorem asBls_eq : ∀ {ds : List Dv} {ns : List Bool}, asBls ds = some ns → ds = ns.map Dv.bl
  | [], ns, h => by cases h; rfl
  | .bl i :: r, ns, h => by
    unfold asBls at h
    cases e : asBls r with
    | none => rw [e] at h; cases h
    | some ms =>
      rw [e] at h
      cases h
      rw [asBls_eq e]
      rfl
  | .non :: _, _, h => by cases h
  | .int _ :: _, _, h => by cases h
  | .str _ :: _, _, h => by cases h
  | .tup _ :: _, _, h => by cases h
  | .lst _ :: _, _, h => by cases h
  | .obj _ :: _, _, h => by cases h
  | .ins _ _ :: _, _, h => by cases h
  | .dic _ :: _, _, h => by cases h
  | .dit _ :: _, _, h => by cases h
theorem asBls_map : ∀ ns : List Bool, asBls (ns.map Dv.bl) = some ns
  | [] => rfl
  | n :: ns => by
    show (asBls (ns.map Dv.bl)).map (n :: ·) = _
    rw [asBls_map ns]
    rfl
/-- sum of a list or a tuple of ints -/
def rSumT (K : PySem.W.Frag) : List V → Hp → VK → Prop := fun vs H Q => ∃ (a : Addr) (ns : List Int), vs = [V.ref a] ∧ SqT K H a (ns.map V.int) ∧ Q (.int ns.sum) H
theorem cr_sumT (hc : X.calm = true) : CallR X (.builtin "sum") (rSumT X.K) := by
  intro pins s σ H vs us Q I r h
  obtain ⟨a, ns, rfl, hs, q⟩ := h
  obtain ⟨its, rv, hl, _⟩ := I.tuple hs
  have eu : us = [Value.ref a] := by
    cases r with
    | cons r t => cases t; cases r; rfl
  rw [eu]
  have hi : PyProof.Rows.IntsAre its ns := intsAre_of rv
  obtain ⟨xs, e⟩ := hi.allInts.items
  have hn : numsOf (intItems xs).toList = ns := by rw [← e]; exact hi.numsOf
  rw [nums_intItems] at hn
  have hl' : s.heap.IsTuple a its.toArray := hl
  rw [e] at hl'
  refine PySem.W.ktm_sumG (I.ok.hd hc) hl' fun h' tk t' hk => ?_
  rw [PySem.preSum_eq, List.take_of_length_le (by simp), hn]
  exact ⟨.int ns.sum, H, I.kept (t' := tk) hk, ⟨_, rfl⟩, q⟩
end
end FC

set_option Elab.async false
set_option linter.all false
set_option maxRecDepth 100000
namespace FC
open PySem PySem.Spec L2

section
variable {X : Cx} {ξ : Iv} {W : WX} {G : Gp}
theorem CallR.or {f : Value} {r r' : List V → Hp → VK → Prop} (h : CallR X f r) (h' : CallR X f r') : CallR X f (fun xs H Q => r xs H Q ∨ r' xs H Q) := by
  intro pins s σ H xs us Q I rv q
  rcases q with q | q
  · exact h pins s σ H xs us Q I rv q
  · exact h' pins s σ H xs us Q I rv q
/-- one list or tuple as the only argument -/
@[simp] def oSeq (k : List Dv → Mm Dv) : DCl := fun ds S => match ds with
  | [d] => match seqOf d S with
    | some xs => k xs S
    | none => none
  | _ => none
theorem oSeq_some {k : List Dv → Mm Dv} {ds : List Dv} {S : Store} {r : Rs Dv} (h : oSeq k ds S = some r) : ∃ d xs, ds = [d] ∧ seqOf d S = some xs ∧ k xs S = some r := by
  unfold oSeq at h
  split at h
  · rename_i d
    cases e : seqOf d S with
    | none => rw [e] at h; cases h
    | some xs => rw [e] at h; exact ⟨d, xs, rfl, e, h⟩
  · cases h
def oSum : DCl := oSeq fun xs => bnd (ofO (asInts xs)) fun ns => ret (.int ns.sum)
def oAll : DCl := oSeq fun xs => bnd (ofO (asBls xs)) fun ns => ret (.bl (ns.all id))
def oAny : DCl := oSeq fun xs => bnd (ofO (asBls xs)) fun ns => ret (.bl (ns.any id))
theorem bnd_ofO {α β : Type} {o : Option α} {k : α → Mm β} {S : Store} {r : Rs β} (h : bnd (ofO o) k S = some r) : ∃ a, o = some a ∧ k a S = some r := by
  cases o with
  | none => cases h
  | some a => exact ⟨a, rfl, h⟩
theorem cd_sum : CallD G (fun xs H Q => rSum G.K xs H Q ∨ rSumT G.K xs H Q) oSum := by
  intro W w σ S xs ds res Q s r h p
  obtain ⟨d, ys, rfl, hs, hk⟩ := oSeq_some h
  obtain ⟨ns, hn, hk⟩ := bnd_ofO hk
  cases hk
  obtain ⟨v, rfl, h1⟩ := rp1 r
  obtain ⟨a, zs, rfl, hz, hr⟩ := seqOf_ok s h1 hs
  rw [asInts_eq hn] at hr
  rw [hr.ints] at hz
  rcases hz with hz | hz
  · exact .inl ⟨a, ns, rfl, hz, p.here s (.int _)⟩
  · exact .inr ⟨a, ns, rfl, hz, p.here s (.int _)⟩
/-- all and any of a list alone -/
@[simp] def oSeqL (k : List Dv → Mm Dv) : DCl := fun ds S => match ds with
  | [.lst xs] => k xs S
  | [.obj n] => match S[n]? with
    | some (.lst xs) => k xs S
    | _ => none
  | _ => none
theorem oSeqL_some {w : Wd} {vs : List V} {k : List Dv → Mm Dv} {ds : List Dv} {S : Store} {r : Rs Dv} (s : SOk G w S) (rv : RpAll G w vs ds) (h : oSeqL k ds S = some r) : ∃ a xs ys, vs = [.ref a] ∧ SqL G.K w.H a ys ∧ RpAll G w ys xs ∧ k xs S = some r := by
  unfold oSeqL at h
  split at h
  · obtain ⟨v, rfl, h1⟩ := rp1 rv
    cases h1 with
    | lst ha ra => exact ⟨_, _, _, rfl, ha.to, ra, h⟩
  · rename_i n
    obtain ⟨v, rfl, h1⟩ := rp1 rv
    cases h1 with
    | obj ha =>
      split at h
      · rename_i xs e
        obtain ⟨ys, h1, h2⟩ := s.cont n _ _ ha e
        exact ⟨_, _, _, rfl, SqL.of h1, h2, h⟩
      · cases h
  · cases h
def oAllL : DCl := oSeqL fun xs => bnd (ofO (asBls xs)) fun ns => ret (.bl (ns.all id))
def oAnyL : DCl := oSeqL fun xs => bnd (ofO (asBls xs)) fun ns => ret (.bl (ns.any id))
theorem cd_all : CallD G (rAll G.K) oAllL := by
  intro W w σ S xs ds res Q s r h p
  obtain ⟨a, ys, zs, rfl, hz, hr, hk⟩ := oSeqL_some s r h
  obtain ⟨ns, hn, hk⟩ := bnd_ofO hk
  cases hk
  rw [asBls_eq hn] at hr
  rw [hr.bls] at hz
  exact ⟨a, ns, rfl, hz, p.here s (.bl _)⟩
theorem cd_any : CallD G (rAny G.K) oAnyL := by
  intro W w σ S xs ds res Q s r h p
  obtain ⟨a, ys, zs, rfl, hz, hr, hk⟩ := oSeqL_some s r h
  obtain ⟨ns, hn, hk⟩ := bnd_ofO hk
  cases hk
  rw [asBls_eq hn] at hr
  rw [hr.bls] at hz
  exact ⟨a, ns, rfl, hz, p.here s (.bl _)⟩
/-! ### tuple(..), list(..), displays -/
def oTuple : DCl := oSeq fun xs => ret (.tup xs)
theorem cd_tuple : CallD G (fun xs H Q => ∃ p ys, xs = [.ref p] ∧ ((SqL G.K H p ys ∧ ∀ l, H l = none → Q (.ref l) (upd H l (.tup ys))) ∨ (SqT G.K H p ys ∧ Q (.ref p) H))) oTuple := by
  intro W w σ S xs ds res Q s r h p
  obtain ⟨d, ys, rfl, hs, hk⟩ := oSeq_some h
  cases hk
  obtain ⟨v, rfl, h1⟩ := rp1 r
  cases h1 with
  | tup ha ra =>
    cases hs
    exact ⟨_, _, rfl, .inr ⟨ha.to, p.here s (.tup ha ra)⟩⟩
  | lst ha ra =>
    cases hs
    exact ⟨_, _, rfl, .inl ⟨ha.to, fun l hl => p.ok_ (.put hl) (s.put hl) (Rp.new_tup s hl ra)⟩⟩
  | obj ha =>
    obtain ⟨a, zs, e, hz, hr⟩ := seqOf_ok s (.obj ha) hs
    cases e
    rcases hz with hz | hz
    · exact ⟨_, _, rfl, .inl ⟨hz, fun l hl => p.ok_ (.put hl) (s.put hl) (Rp.new_tup s hl hr)⟩⟩
    · dsimp only [seqOf] at hs
      split at hs
      · rename_i xs e
        cases hs
        obtain ⟨us, h1, h2⟩ := s.cont _ _ _ ha e
        exact ⟨_, _, rfl, .inl ⟨SqL.of h1, fun l hl => p.ok_ (.put hl) (s.put hl) (Rp.new_tup s hl h2)⟩⟩
      · cases hs
  | _ => cases hs
/-- a new list that is never changed; one that has a name -/
@[simp] def newF (xs : List Dv) : Mm Dv := ret (.lst xs)
@[simp] def newM (xs : List Dv) : Mm Dv := fun S => some (.ok (.obj S.length) (S ++ [.lst xs]))
@[simp] def newL (m : Bool) (xs : List Dv) : Mm Dv := if m then newM xs else newF xs
theorem new_lst {w : Wd} {σ : L2.St} {S : Store} {m : Bool} {xs : List V} {ds : List Dv} {res : Rs Dv} {Q : VK} (s : SOk G w S) (r : RpAll G w xs ds) (h : newL m ds S = some res) (p : PR G W (Rp G) w σ res Q) : ∀ l, w.H l = none → Q (.ref l) (upd w.H l (.lst xs)) := fun l hl => by
  cases m with
  | false =>
    cases h
    exact p.ok_ (.put hl) (s.put hl) (Rp.new_lst s hl r)
  | true =>
    cases h
    exact p.ok_ (w' := w.add l (.lst xs)) (.add hl) (s.add hl ⟨xs, upd_same, r.mono (.add hl)⟩) (Rp.add_obj s)
@[simp] def oList (m : Bool) : DCl := oSeq (newL m)
theorem cd_list (m : Bool) : CallD G (fun xs H Q => ∃ p ys, xs = [.ref p] ∧ (SqL G.K H p ys ∨ SqT G.K H p ys) ∧ ∀ l, H l = none → Q (.ref l) (upd H l (.lst ys))) (oList m) := by
  intro W w σ S xs ds res Q s r h p
  obtain ⟨d, ys, rfl, hs, hk⟩ := oSeq_some h
  obtain ⟨v, rfl, h1⟩ := rp1 r
  obtain ⟨a, zs, rfl, hz, hr⟩ := seqOf_ok s h1 hs
  exact ⟨a, zs, rfl, hz, new_lst s hr hk p⟩
@[simp] def fTup (fa : FA) : FE := fun env => bnd (fa env) fun xs => lim xs.length (ret (.tup xs))
@[simp] def fLst (m : Bool) (fa : FA) : FE := fun env => bnd (fa env) fun xs => lim xs.length (newL m xs)
section
variable {es : List Expr} {fa : FA} {pos : Pos}
theorem d_tup {x1} (ha : DA X ξ W es fa) : DE X ξ W (.Tuple es x1 pos) (fTup fa) := PE.imp (pe_tup ha) fun σ H Q ⟨w, env, S, res, eH, s, en, h, p⟩ => by
  subst eH
  refine seqR s en h p.px fun xs S1 vs w1 e1 s1 en1 r1 h1 => ?_
  obtain ⟨hl, h1⟩ := lim_some h1
  cases h1
  exact ⟨by rw [r1.length]; exact big_le hl, fun q hq => p.ok_ (e1.trans (.put hq)) (s1.put hq) (Rp.new_tup s1 hq r1)⟩
theorem d_lst (m : Bool) (ha : DA X ξ W es fa) : DE X ξ W (.List es pos) (fLst m fa) := PE.imp (pe_lst ha) fun σ H Q ⟨w, env, S, res, eH, s, en, h, p⟩ => by
  subst eH
  refine seqR s en h p.px fun xs S1 vs w1 e1 s1 en1 r1 h1 => ?_
  obtain ⟨hl, h1⟩ := lim_some h1
  exact ⟨by rw [r1.length]; exact big_le hl, new_lst s1 r1 h1 (p.mono e1 s1)⟩
end
/-! ### subscripts, slices -/
@[simp] def oIx : DOp := fun x i S => match i with
  | .int i => match seqOf x S with
    | some xs => match atI xs i with
      | some d => some (.ok d S)
      | none => none
    | none => none
  | _ => none
theorem atI_ok {w : Wd} {xs : List V} {ds : List Dv} {i : Int} {d : Dv} (r : RpAll G w xs ds) (h : atI ds i = some d) : ∃ v, atI xs i = some v ∧ Rp G w v d := by
  unfold atI at h ⊢
  rw [r.length]
  cases e : ixN ds.length i with
  | none => rw [e] at h; cases h
  | some j =>
    rw [e] at h
    exact r.get h
theorem IxR.or {r r' : R2} (h : IxR X r) (h' : IxR X r') : IxR X (fun x y H Q => r x y H Q ∨ r' x y H Q) := by
  intro value slice pins s σ H x y v u Q I rx ry q hs
  rcases q with q | q
  · exact h value slice pins s σ H x y v u Q I rx ry q hs
  · exact h' value slice pins s σ H x y v u Q I rx ry q hs
theorem od_ix : OpD G (fun x y H Q => rIxL G.K x y H Q ∨ rIxT G.K x y H Q) oIx := by
  intro W w σ S x y dx dy res Q s rx ry h p
  unfold oIx at h
  split at h
  · rename_i i
    cases ry
    split at h
    · rename_i xs e
      split at h
      · rename_i d e2
        cases h
        obtain ⟨a, zs, rfl, hz, hr⟩ := seqOf_ok s rx e
        obtain ⟨v, hv, rv⟩ := atI_ok hr e2
        rcases hz with hz | hz
        · exact .inl ⟨a, zs, i, v, rfl, rfl, hz, hv, p.here s rv⟩
        · exact .inr ⟨a, zs, i, v, rfl, rfl, hz, hv, p.here s rv⟩
      · cases h
    · cases h
  · cases h
theorem d_ix {a b : Expr} {fa fb : FE} {pos : Pos} (ha : DE X ξ W a fa) (hb : DE X ξ W b fb) (hs : PlainIx b := by intro _ _; rfl) : DE X ξ W (.Subscript a b pos) (fOp oIx fa fb) :=
  PE.imp (pe_ix (IxR.or ix_list ix_tup) ha hb hs) (op_body od_ix)
/-- an optional bound of a slice -/
abbrev FO := DEnv → Mm (Option Int)
@[simp] def fNo : FO := fun _ => ret none
@[simp] def asI : Dv → Option Int
  | .int i => some i
  | _ => none
@[simp] def fSo (fa : FE) : FO := fun env => bnd (fa env) fun x => bnd (ofO (asI x)) fun i => ret (some i)
def RO (_ : Wd) (a b : Option Int) : Prop := a = b
def DO (X : Cx) (ξ : Iv) (W : WX) (e : Option Expr) (f : FO) : Prop := PO X e (tG (gp X) ξ W RO f)
theorem PO.imp {e : Option Expr} {t t' : TO} (h : PO X e t) (i : ∀ σ H Q, t' σ H Q → t σ H Q) : PO X e t' := ⟨fun pins s σ H Q I q => h.run pins s σ H Q I (i σ H Q q)⟩
theorem o_none : DO X ξ W none fNo := PO.imp po_none fun σ H Q ⟨w, env, S, res, eH, s, en, h, p⟩ => by
  subst eH
  cases h
  exact p.here s rfl
theorem o_some {e : Expr} {fa : FE} (ha : DE X ξ W e fa) : DO X ξ W (some e) (fSo fa) := PO.imp (po_some ha) fun σ H Q ⟨w, env, S, res, eH, s, en, h, p⟩ => by
  subst eH
  refine seqR s en h p.px fun x S1 v w1 e1 s1 en1 r1 h1 => ?_
  obtain ⟨i, hi, h2⟩ := bnd_ofO h1
  cases r1 <;> first | (cases hi; done) | skip
  cases hi
  cases h2
  exact ⟨_, rfl, p.ok_ e1 s1 rfl⟩
def cutD (xs : List Dv) (lo hi : Option Int) : List Dv := (xs.drop (HT.sIx xs.length 0 lo)).take (HT.sIx xs.length xs.length hi - HT.sIx xs.length 0 lo)
theorem cut_ok {w : Wd} {xs : List V} {ds : List Dv} {lo hi : Option Int} (r : RpAll G w xs ds) : RpAll G w (cutV xs lo hi) (cutD ds lo hi) := by
  unfold cutV cutD
  rw [r.length]
  exact (r.drop _).take _
/-- a slice: of a tuple (not the whole of it) a tuple, of a list a new list -/
@[simp] def oSl (m : Bool) (x : Dv) (lo hi : Option Int) : Mm Dv := fun S => match x with
  | .tup xs => if HT.sIx xs.length 0 lo = 0 ∧ HT.sIx xs.length xs.length hi = xs.length then none else some (.ok (.tup (cutD xs lo hi)) S)
  | .lst xs => newL m (cutD xs lo hi) S
  | .obj n => match S[n]? with
    | some (.lst xs) => newL m (cutD xs lo hi) S
    | _ => none
  | _ => none
@[simp] def fSl (m : Bool) (fa : FE) (fl fh : FO) : FE := fun env => bnd (fa env) fun x => bnd (fl env) fun lo => bnd (fh env) fun hi => oSl m x lo hi
theorem d_slice (m : Bool) {e : Expr} {lo hi : Option Expr} {fa : FE} {fl fh : FO} {p2 pos : Pos} (ha : DE X ξ W e fa) (hl : DO X ξ W lo fl) (hh : DO X ξ W hi fh) : DE X ξ W (.Subscript e (.Slice lo hi none p2) pos) (fSl m fa fl fh) :=
  PE.imp (pe_slice (SlR.or sl_tup sl_list) ha hl hh) fun σ H Q ⟨w, env, S, res, eH, s, en, h, p⟩ => by
    subst eH
    refine seqR s en h p.px fun x S1 v w1 e1 s1 en1 r1 h1 => seqR s1 en1 h1 (p.px.mono e1 s1) fun lo S2 lo' w2 e2 s2 en2 q2 h2 => seqR s2 en2 h2 (p.px.mono (e1.trans e2) s2) fun hi S3 hi' w3 e3 s3 en3 q3 h3 => ?_
    cases (show lo' = lo from q2)
    cases (show hi' = hi from q3)
    have e13 := (e1.trans e2).trans e3
    have rx := (r1.mono e2).mono e3
    unfold oSl at h3
    cases rx <;> first | (cases h3; done) | skip
    · rename_i a xs ds ha ra
      dsimp only at h3
      by_cases z : HT.sIx ds.length 0 lo = 0 ∧ HT.sIx ds.length ds.length hi = ds.length
      · rw [if_pos z] at h3; cases h3
      · rw [if_neg z] at h3
        cases h3
        refine .inl ⟨a, xs, rfl, ha.to, ?_, fun q hq => p.ok_ (e13.trans (.put hq)) (s3.put hq) (Rp.new_tup s3 hq (cut_ok ra))⟩
        rw [ra.length]
        exact z
    · rename_i a xs ds ha ra
      exact .inr ⟨a, xs, rfl, ha.to, new_lst s3 (cut_ok ra) h3 (p.mono e13 s3)⟩
    · rename_i a n ha
      dsimp only at h3
      split at h3
      · rename_i ds e
        obtain ⟨xs, h1, h2⟩ := s3.cont n _ _ ha e
        exact .inr ⟨a, xs, rfl, SqL.of h1, new_lst s3 (cut_ok h2) h3 (p.mono e13 s3)⟩
      · cases h3
end
end FC

set_option Elab.async false
set_option linter.all false
set_option maxRecDepth 100000
namespace FC
open PySem PySem.Spec PyProof.Rows L2
/-! ### enumerate(t), t a tuple -/
def IteT (K : PySem.W.Frag) (a : Addr) : It :=
  ⟨fun i H => ∃ (xs : List V) (x : V), SqT K H a xs ∧ xs[i]? = some x, fun i H v H' => ∃ T x, v = .ref T ∧ H T = none ∧ H' = upd H T (.tup [.int (i : Nat), x]) ∧ ∀ xs, SqT K H a xs → xs[i]? = some x, fun i H => ∃ xs : List V, SqT K H a xs ∧ xs.length ≤ i⟩
theorem turn_enumT {P : Program} {w : World} {K : PySem.W.Frag} {elts : List Expr} {kk : Nat} {tpos : Pos} (a e it : Addr) :
    Turn P w K (.Tuple elts kk tpos) (IteT K a) [e, it] e (fun i h => (∃ old, IsEnum h e it ((i : Nat) : Int) old) ∧ h.IsTupleIter it a i ∧ e ≠ it ∧ e ≠ a ∧ a ≠ it) where
  mem := by simp
  obj := fun i h st b hb => by
    obtain ⟨⟨old, he⟩, ⟨o, ho, hc, hd⟩, _⟩ := st
    have e' : b = e ∨ b = it := by simpa using hb
    rcases e' with z | z
    · rw [z]; exact ⟨_, he, fun v q => nomatch q⟩
    · rw [z]; exact ⟨o, ho, fun v q => by rw [hd] at q; cases q⟩
  keep := fun i h h' st k => let ⟨⟨old, he⟩, hi, hne⟩ := st; ⟨⟨old, k e (by simp) _ he⟩, hi.at fun o q => k it (by simp) o q, hne⟩
  item := by
    intro X hP hw hK hc i pins s σ H E I hf st hg
    subst hP hw hK
    obtain ⟨⟨old, he⟩, hit, hne, hea, hai⟩ := st
    obtain ⟨xs, x, hq, hx⟩ := hg
    obtain ⟨its, rv, p, hz⟩ := I.tuple hq
    have hel : e < s.heap.objs.size := Heap.lt_size he
    have hil : it < s.heap.objs.size := by obtain ⟨_, q, _⟩ := hit; exact Heap.lt_size q
    have hlt : i < its.toArray.size := by
      have := (List.getElem?_eq_some_iff.mp hx).1
      rw [List.size_toArray, ← rv.length]
      exact this
    have pt : s.heap.IsTuple a its.toArray := p
    refine wpAny_pyNext_enum_itemD (Draws.tuple (prog := X.prog) (w := X.w) (A := X.A.in1) (I.ok.hd hc) it a hai its.toArray) he ⟨hit, pt⟩ hlt hne (by simp [hne, hea]) fun u h' tk hu ho hit' hT hsz hk => ?_
    have hu' : its[i]? = some u := by simpa using hu
    have ru : RelV x u := by
      obtain ⟨u2, hu2, r2⟩ := rv.get hx
      rw [hu2] at hu'
      cases hu'
      exact r2
    refine ⟨_, rfl, wpAny_letOwnedTupleGo_enum (s := { s with heap := h', toks := tk + 1 }) ho fun h'' he' sb => ?_⟩
    have hT2 : h''.get? s.heap.objs.size = some { cls := .type "tuple", data := .seq #[.int i tk, u] } := (sb.2 _ (Nat.ne_of_gt hel)).trans hT
    have new : ObjOk X.prog X.w (upd H s.heap.objs.size (.tup [.int (i : Nat), x])) h'' s.heap.objs.size (.tup [.int (i : Nat), x]) :=
      ⟨by show 2 ≤ sizeLine; decide, [.int i tk, u], .cons ⟨_, rfl⟩ (.cons ru .nil), ⟨_, hT2, rfl, _, rfl⟩⟩
    have I1 : Inv X pins σ (upd H s.heap.objs.size (.tup [.int (i : Nat), x])) { s with heap := h'', toks := tk + 1 } :=
      I.turnedNew (ch := [e, it]) (fun b ob hb q => (sb.2 b (fun z => hb (by simp [z]))).trans (hk b ob (fun z => hb (by simp [z])) (fun z => hb (by simp [z])) q)) hf (Nat.le_refl _) new
    refine ⟨.ref s.heap.objs.size, _, I1, rfl, ⟨_, x, rfl, I.hok.fresh (Nat.le_refl _), rfl, fun ys hy => by rw [I.tuple_inj hy hq]; exact hx⟩, ⟨⟨u, ?_⟩, hit'.1.at fun o q => (sb.2 it (Ne.symm hne)).trans q, hne, hea, hai⟩, fun b hb => ?_⟩
    · have e1 : ((i + 1 : Nat) : Int) = (i : Int) + 1 := by omega
      rw [e1]; exact he'
    · have hb' : b < s.heap.objs.size := by
        have e' : b = e ∨ b = it := by simpa using hb
        rcases e' with z | z
        · rw [z]; exact hel
        · rw [z]; exact hil
      rw [upd_ne (Nat.ne_of_lt hb')]
      exact (hf b hb).1
  done := by
    intro X hP hw hK hc i pins s σ H E I hf st hg
    subst hP hw hK
    obtain ⟨⟨old, he⟩, hit, hne, hea, hai⟩ := st
    obtain ⟨xs, hq, hx⟩ := hg
    obtain ⟨its, rv, p, hz⟩ := I.tuple hq
    have pt : s.heap.IsTuple a its.toArray := p
    obtain ⟨f0, f1, f2, f3, f4, f5⟩ := hf it (by simp)
    have hl := rv.length
    have hT : s.TypeIs (.ref e) "enumerate" := ⟨_, he, rfl⟩
    unfold pyNext
    refine wpAny_bind (wpAny_attempt (wpAny_callSpecial?_slot (name := Str.ofString "__next__") hT F.slot_enumerate_next
      (wpAny_call_entry F.slot_enumerate_next hT F.entry_enumerate_next ?_ (F.args_enumerate_next_1 _))))
    show wpAny _ _ (field (.ref e) 2 >>= _) _ _ _
    refine wpAny_bind (wpAny_field he rfl (x := .ref it) rfl ?_)
    refine wpAny_bind (wpAny_nextOf_tuple_end (A := X.A.in1) (I.ok.hd hc) hit pt (by simp; omega) fun h' x he' hx' => ?_)
    obtain ⟨o, ho, hc'⟩ := hx'
    refine wpAny_bind (wpAny_isInstance (T := "StopIteration") (b := true) ⟨o, ho, hc'⟩ isSubtype_stop ?_)
    exact wpAny_pure ⟨rfl, I.turned (t' := s.toks) (fun b o hb q => he' b o hb q) f0 f1 f3 f4 f5⟩
  self := fun A i s Q E st h => let ⟨⟨_, he⟩, _⟩ := st; wpAny_pyIter_enum he h
set_option maxHeartbeats 1000000 in
theorem meets_enumerate_newT (l : Addr) (items : Array Value) :
    Meets (Builtin.«enumerate.__new__» ⟨[.type "enumerate", .ref l], []⟩) (fun _ R s => s.heap.IsTuple l items ∧
      R (.ok (.ret (.ref (s.heap.push { cls := .type "tuple_iterator", data := .fields #[.ref l, .int 0 0] }).objs.size)))
        { s with heap := (s.heap.push { cls := .type "tuple_iterator", data := .fields #[.ref l, .int 0 0] }).push { cls := .type "enumerate", data := .fields #[.none, .bool false, .ref s.heap.objs.size, rawInt 0, .none, .none] } }) :=
  .of_wp fun prog w A R s h => by
    obtain ⟨hp, g, d, tk, os⟩ := s; obtain ⟨h1, h⟩ := h
    have hsub := sub_enumerate
    have q1 : ∀ {A' : Around} {E : Value → Shared → Prop} {Q : Value → Shared → Prop}, Q (.ref hp.objs.size) ⟨hp.push { cls := .type "tuple_iterator", data := .fields #[.ref l, .int 0 0] }, g, d, tk, os⟩ → wpAny (model prog w) A' (pyIter (.ref l)) Q E ⟨hp, g, d, tk, os⟩ :=
      fun q => wpAny_pyIter_tuple h1 q
    wp_walk using q1
    refine wpAny_stack_any fun st => wpAny_pure ?_
    split
    · rename_i c _ _ _ _ _
      cases (c == Value.type "enumerate")
      · wp_walk using q1
        exact ⟨_, rfl, h⟩
      · wp_walk using q1
        exact ⟨_, rfl, h⟩
    · wp_walk using q1
      exact ⟨_, rfl, h⟩
theorem call_enumerate_tuple {prog : Program} {w : World} {A : Around} {E : Value → Shared → Prop} {s : Shared} {l : Addr} {items : Array Value} {Q : Value → Shared → Prop} (hL : s.heap.IsTuple l items)
    (h : ∀ h', IsEnum h' (s.heap.objs.size + 1) s.heap.objs.size 0 .none → h'.IsTupleIter s.heap.objs.size l 0 → h'.objs.size = s.heap.objs.size + 2 →
      (∀ b o, s.heap.get? b = some o → h'.get? b = some o) → Q (.ref (s.heap.objs.size + 1)) { s with heap := h' }) :
    wpAny (model prog w) A (call (.type "enumerate") [.ref l]) Q E s := by
  refine callType_new F.called_enumerate (by decide) (F.typeCall_enumerate_1 _) (F.newCall_enumerate_1 _) (fun obj => F.args_object_init_2 obj _) F.entry_enumerate_new
    (meets_enumerate_newT l items) ⟨hL, ?_⟩
  have hz : (s.heap.push { cls := .type "tuple_iterator", data := .fields #[.ref l, .int 0 0] }).objs.size = s.heap.objs.size + 1 := Heap.size_push ..
  show _ ∧ _
  rw [hz]
  have he : IsEnum ((s.heap.push { cls := .type "tuple_iterator", data := .fields #[.ref l, .int 0 0] }).push
      { cls := .type "enumerate", data := .fields #[.none, .bool false, .ref s.heap.objs.size, rawInt 0, .none, .none] }) (s.heap.objs.size + 1) s.heap.objs.size 0 .none := by
    have := Heap.get?_push_size (s.heap.push { cls := .type "tuple_iterator", data := .fields #[.ref l, .int 0 0] })
      (o := { cls := .type "enumerate", data := .fields #[.none, .bool false, .ref s.heap.objs.size, rawInt 0, .none, .none] }) rfl
    rw [hz] at this; exact this
  refine ⟨⟨_, he, rfl⟩, h _ he ⟨_, Heap.get?_push_of_some _ (Heap.get?_push_size _ rfl), rfl, rfl⟩ (by rw [Heap.size_push, hz]) fun b o x => Heap.get?_push_of_some _ (Heap.get?_push_of_some _ x)⟩
/-- enumerate of a list or of a tuple -/
def iEnumA (K : PySem.W.Frag) (ta : TA) : TI := fun σ H R => ta σ H fun vs H1 => ∃ a xs, vs = [.ref a] ∧ ((SqL K H1 a xs ∧ R (Ite K a) H1) ∨ (SqT K H1 a xs ∧ R (IteT K a) H1))
theorem pi_enumA {X : Cx} {e : Expr} {ta : TA} {p pos tpos : Pos} {elts : List Expr} {kk : Nat} (hg : Gl X "enumerate") (hm : X.mg "enumerate" = none) (ha : PA X [e] ta) (hs : starEach [e] X.env = [(false, eval e X.env)] := by rfl) :
    PI X (.Tuple elts kk tpos) (.Call (.Name "enumerate" p) [e] [] pos) (iEnumA X.K ta) := by
  refine ⟨fun pins s σ H R I h => ?_⟩
  refine Call_ (ld_blt I hg hm boot_enumerate (PyProof.Rows.callWith_type1 (thn (ha.run pos pins s σ H _ I h) fun us s1 ⟨vs, H1, I1, r1, q1⟩ => ?_) hs rfl))
  obtain ⟨a, xs, ex, q⟩ := q1
  subst ex
  have fp : ∀ b ∈ [s1.heap.objs.size + 1, s1.heap.objs.size], FpOk X pins H1 b := fun b hb => by
    have e' : b = s1.heap.objs.size + 1 ∨ b = s1.heap.objs.size := by simpa using hb
    have hle : s1.heap.objs.size ≤ b := by
      rcases e' with z | z
      · rw [z]; exact Nat.le_add_right _ _
      · rw [z]; exact Nat.le_refl _
    exact I1.fpOk hle (I1.hok.fresh hle)
  cases r1 with
  | cons r rr =>
    cases rr
    cases r
    rcases q with ⟨hq, q⟩ | ⟨hq, q⟩
    · obtain ⟨its, rv, p', hz⟩ := I1.list hq
      refine call_enumerate_list p'.isList fun h' he hit hsz hk => wpAny_pyIter_enum he ?_
      have I2 : Inv X pins σ H1 { s1 with heap := h' } := I1.kept (t' := s1.toks) hk
      exact ⟨s1.heap.objs.size + 1, [s1.heap.objs.size + 1, s1.heap.objs.size], _, _, H1, rfl, I2, turn_enum a (s1.heap.objs.size + 1) s1.heap.objs.size, ⟨⟨.none, he⟩, hit, Nat.succ_ne_self _⟩, fp, q⟩
    · obtain ⟨its, rv, p', hz⟩ := I1.tuple hq
      have pt : s1.heap.IsTuple a its.toArray := p'
      have hla : a < s1.heap.objs.size := by obtain ⟨_, q, _⟩ := pt; exact Heap.lt_size q
      refine call_enumerate_tuple pt fun h' he hit hsz hk => wpAny_pyIter_enum he ?_
      have I2 : Inv X pins σ H1 { s1 with heap := h' } := I1.kept (t' := s1.toks) hk
      exact ⟨s1.heap.objs.size + 1, [s1.heap.objs.size + 1, s1.heap.objs.size], _, _, H1, rfl, I2, turn_enumT a (s1.heap.objs.size + 1) s1.heap.objs.size, ⟨⟨.none, he⟩, hit, Nat.succ_ne_self _, Nat.ne_of_gt (Nat.lt_succ_of_lt hla), Nat.ne_of_lt hla⟩, fp, q⟩
end FC

set_option Elab.async false
set_option linter.all false
set_option maxRecDepth 100000
namespace FC
open PySem PySem.Spec L2

section
variable {X : Cx} {ξ : Iv} {W : WX} {G : Gp}
/-! ### what is walked -/
/-- in every later world the walk yields ds, one after the other -/
def ItOk (G : Gp) (w : Wd) (J : It) (ds : List Dv) : Prop := ∀ w2 S2, Ext w w2 → SOk G w2 S2 →
  (∀ i, i < ds.length → J.go i w2.H) ∧ J.stop ds.length w2.H ∧
    ∀ i d x H', ds[i]? = some d → J.yld i w2.H x H' → ∃ w3, w3.H = H' ∧ Ext w2 w3 ∧ SOk G w3 S2 ∧ Rp G w3 x d
theorem ItOk.mono {w w1 : Wd} {J : It} {ds : List Dv} (e : Ext w w1) (h : ItOk G w J ds) : ItOk G w1 J ds := fun w2 S2 e2 s2 => h w2 S2 (e.trans e2) s2
abbrev FI := DEnv → Mm (List Dv)
def tI (G : Gp) (ξ : Iv) (W : WX) (f : FI) : TI := tG G ξ W (fun w J ds => ItOk G w J ds) f
def DI (X : Cx) (ξ : Iv) (W : WX) (tg iter : Expr) (f : FI) : Prop := PI X tg iter (tI (gp X) ξ W f)
theorem PI.imp {tg e : Expr} {t t' : TI} (h : PI X tg e t) (i : ∀ σ H Q, t' σ H Q → t σ H Q) : PI X tg e t' := ⟨fun pins s σ H Q I q => h.run pins s σ H Q I (i σ H Q q)⟩
/-- a list or a tuple that nothing changes -/
@[simp] def frozen : Dv → Option (List Dv)
  | .tup xs => some xs
  | .lst xs => some xs
  | _ => none
@[simp] def fIt (fa : FE) : FI := fun env => bnd (fa env) fun x => ofO (frozen x)
theorem it_list {w : Wd} {a : Addr} {xs : List V} {ds : List Dv} (ha : SqLM G w a xs) (ra : RpAll G w xs ds) : ItOk G w (Itl G.K a) ds := fun w2 S2 e2 s2 => by
  have ha2 := (ha.mono e2).to
  have ra2 := ra.mono e2
  refine ⟨fun i hi => ?_, ⟨xs, ha2, by rw [ra.length]; exact Nat.le_refl _⟩, fun i d x H' hd hy => ?_⟩
  · have hx : i < xs.length := by rw [ra.length]; exact hi
    exact ⟨xs, xs[i], ha2, List.getElem?_eq_getElem hx⟩
  · obtain ⟨rfl, hx⟩ := hy
    obtain ⟨v, h1, h2⟩ := ra2.get hd
    rw [hx xs ha2] at h1
    cases h1
    exact ⟨w2, rfl, Ext.refl _, s2, h2⟩
theorem it_tup {w : Wd} {a : Addr} {xs : List V} {ds : List Dv} (ha : SqTM G w a xs) (ra : RpAll G w xs ds) : ItOk G w (Itt G.K a) ds := fun w2 S2 e2 s2 => by
  have ha2 := (ha.mono e2).to
  have ra2 := ra.mono e2
  refine ⟨fun i hi => ?_, ⟨xs, ha2, by rw [ra.length]; exact Nat.le_refl _⟩, fun i d x H' hd hy => ?_⟩
  · have hx : i < xs.length := by rw [ra.length]; exact hi
    exact ⟨xs, xs[i], ha2, List.getElem?_eq_getElem hx⟩
  · obtain ⟨rfl, hx⟩ := hy
    obtain ⟨v, h1, h2⟩ := ra2.get hd
    rw [hx xs ha2] at h1
    cases h1
    exact ⟨w2, rfl, Ext.refl _, s2, h2⟩
/-- a walked list; a walked tuple: which one is told by the rule -/
def frL : Dv → Option (List Dv)
  | .lst xs => some xs
  | _ => none
def frT : Dv → Option (List Dv)
  | .tup xs => some xs
  | _ => none
def fItL (fa : FE) : FI := fun env => bnd (fa env) fun x => ofO (frL x)
def fItT (fa : FE) : FI := fun env => bnd (fa env) fun x => ofO (frT x)
section
variable {tg e : Expr} {fa : FE}
theorem PI.or {t t' : TI} (h : PI X tg e t) (h' : PI X tg e t') : PI X tg e (fun σ H R => t σ H R ∨ t' σ H R) := ⟨fun pins s σ H R I q => by
  rcases q with q | q
  · exact h.run pins s σ H R I q
  · exact h'.run pins s σ H R I q⟩
theorem i_list (ha : DE X ξ W e fa) (hl : PI X tg e (iList X.K (tD (gp X) ξ W fa)) := by exact pi_list ‹_›) : DI X ξ W tg e (fItL fa) := PI.imp hl fun σ H R ⟨w, env, S, res, eH, s, en, h, p⟩ => by
  subst eH
  refine seqR s en h p.px fun x S1 v w1 e1 s1 en1 r1 h1 => ?_
  obtain ⟨ds, hd, rfl⟩ := ofO_some h1
  cases r1 <;> first | (cases hd; done) | skip
  rename_i a xs ds' ha ra
  cases hd
  exact ⟨a, rfl, ⟨xs, ha.to⟩, p.ok_ e1 s1 (it_list ha ra)⟩
theorem i_tup (ha : DE X ξ W e fa) (hl : PI X tg e (iTup X.K (tD (gp X) ξ W fa)) := by exact pi_tup ‹_›) : DI X ξ W tg e (fItT fa) := PI.imp hl fun σ H R ⟨w, env, S, res, eH, s, en, h, p⟩ => by
  subst eH
  refine seqR s en h p.px fun x S1 v w1 e1 s1 en1 r1 h1 => ?_
  obtain ⟨ds, hd, rfl⟩ := ofO_some h1
  cases r1 <;> first | (cases hd; done) | skip
  rename_i a xs ds' ha ra
  cases hd
  exact ⟨a, rfl, ⟨xs, ha.to⟩, p.ok_ e1 s1 (it_tup ha ra)⟩
end
/-- range -/
def upTo (lo : Int) (n : Nat) : List Int := (List.range n).map fun i => lo + (i : Nat)
theorem it_rng {w : Wd} {lo : Int} {n : Nat} : ItOk G w (Itr lo n) ((upTo lo n).map Dv.int) := fun w2 S2 e2 s2 => by
  have hl : ((upTo lo n).map Dv.int).length = n := by simp [upTo]
  refine ⟨fun i hi => by rw [hl] at hi; exact hi, by rw [hl]; exact Nat.le_refl _, fun i d x H' hd hy => ?_⟩
  obtain ⟨rfl, rfl⟩ := hy
  have hi : i < n := by
    have := (List.getElem?_eq_some_iff.mp hd).1
    rw [hl] at this
    exact this
  have : d = .int (lo + (i : Nat)) := by
    unfold upTo at hd
    rw [List.map_map, List.getElem?_map, List.getElem?_range hi] at hd
    cases hd
    rfl
  subst this
  exact ⟨w2, rfl, Ext.refl _, s2, .int _⟩
def rngOk (i : Int) : Prop := i.natAbs ≤ 1000000000000000000
instance (i : Int) : Decidable (rngOk i) := inferInstanceAs (Decidable (_ ≤ _))
theorem rngOk.to {i : Int} (h : rngOk i) : -(2 ^ 62) ≤ i ∧ i < 2 ^ 62 := by unfold rngOk at h; omega
def rng1 (ds : List Dv) : Mm (List Dv) := match ds with
  | [.int j] => if rngOk j then ret ((upTo 0 j.toNat).map Dv.int) else stuck
  | _ => stuck
def rng2 (ds : List Dv) : Mm (List Dv) := match ds with
  | [.int i, .int j] => if rngOk i ∧ rngOk j then ret ((upTo i (j - i).toNat).map Dv.int) else stuck
  | _ => stuck
@[simp] def fRng1 (fa : FA) : FI := fun env => bnd (fa env) rng1
@[simp] def fRng2 (fa : FA) : FI := fun env => bnd (fa env) rng2
section
variable {tg e e2 : Expr} {es elts : List Expr} {kk : Nat} {fa : FA} {p pos tpos : Pos}
theorem i_rng1 (hm : X.mg "range" = none) (ha : DA X ξ W [e] fa) (hg : Gl X "range" := by rfl) (hs : starEach [e] X.env = [(false, eval e X.env)] := by rfl) : DI X ξ W tg (.Call (.Name "range" p) [e] [] pos) (fRng1 fa) := PI.imp (pi_range1 hg hm ha hs) fun σ H R ⟨w, env, S, res, eH, s, en, h, p⟩ => by
  subst eH
  refine seqR s en h p.px fun ds S1 vs w1 e1 s1 en1 rv h1 => ?_
  unfold rng1 at h1
  split at h1
  · rename_i j
    obtain ⟨v, rfl, hv⟩ := rp1 rv
    cases hv
    by_cases z : rngOk j
    · rw [if_pos z] at h1
      cases h1
      exact ⟨j, rfl, z.to.1, z.to.2, p.ok_ e1 s1 it_rng⟩
    · rw [if_neg z] at h1; cases h1
  · cases h1
theorem i_rng2 (hm : X.mg "range" = none) (ha : DA X ξ W [e, e2] fa) (hg : Gl X "range" := by rfl) (hs : starEach [e, e2] X.env = [(false, eval e X.env), (false, eval e2 X.env)] := by rfl) (hs2 : starEach [e2] X.env = [(false, eval e2 X.env)] := by rfl) : DI X ξ W tg (.Call (.Name "range" p) [e, e2] [] pos) (fRng2 fa) := PI.imp (pi_range2 hg hm ha hs hs2) fun σ H R ⟨w, env, S, res, eH, s, en, h, p⟩ => by
  subst eH
  refine seqR s en h p.px fun ds S1 vs w1 e1 s1 en1 rv h1 => ?_
  unfold rng2 at h1
  split at h1
  · rename_i i j
    obtain ⟨v, u, rfl, hv, hu⟩ := rp2 rv
    cases hv
    cases hu
    by_cases z : rngOk i ∧ rngOk j
    · rw [if_pos z] at h1
      cases h1
      exact ⟨i, j, rfl, ⟨z.1.to.1, z.1.to.2, z.2.to.1, z.2.to.2⟩, p.ok_ e1 s1 it_rng⟩
    · rw [if_neg z] at h1; cases h1
  · cases h1
/-- enumerate, zip: pairs -/
def pairs : List Dv → List Dv → List Dv
  | x :: xs, y :: ys => .tup [x, y] :: pairs xs ys
  | _, _ => []
theorem pairs_len : ∀ xs ys : List Dv, (pairs xs ys).length = min xs.length ys.length
  | [], _ => by simp [pairs]
  | _ :: _, [] => by simp [pairs]
  | x :: xs, y :: ys => by
    show (pairs xs ys).length + 1 = min (xs.length + 1) (ys.length + 1)
    rw [pairs_len xs ys]
    omega
theorem pairs_at : ∀ (xs ys : List Dv) (i : Nat) (d : Dv), (pairs xs ys)[i]? = some d → ∃ x y, xs[i]? = some x ∧ ys[i]? = some y ∧ d = .tup [x, y]
  | [], _, _, _, h => by simp [pairs] at h
  | _ :: _, [], _, _, h => by simp [pairs] at h
  | x :: xs, y :: ys, 0, d, h => by
    have e : Dv.tup [x, y] = d := Option.some.inj h
    exact ⟨x, y, rfl, rfl, e.symm⟩
  | x :: xs, y :: ys, i + 1, d, h => by
    obtain ⟨a, b, h1, h2, h3⟩ := pairs_at xs ys i d h
    exact ⟨a, b, h1, h2, h3⟩
def numbered (xs : List Dv) : List Dv := pairs ((upTo 0 xs.length).map Dv.int) xs
theorem upTo_len (lo : Int) (n : Nat) : (upTo lo n).length = n := by simp [upTo]
theorem upTo_at {lo : Int} {n i : Nat} (h : i < n) : (upTo lo n)[i]? = some (lo + (i : Nat)) := by
  unfold upTo
  rw [List.getElem?_map, List.getElem?_range h]
  rfl
theorem numbered_len (xs : List Dv) : (numbered xs).length = xs.length := by
  unfold numbered
  rw [pairs_len, List.length_map, upTo_len]
  omega
theorem numbered_at {xs : List Dv} {i : Nat} {d : Dv} (h : (numbered xs)[i]? = some d) : ∃ x, xs[i]? = some x ∧ d = .tup [.int (i : Nat), x] := by
  obtain ⟨a, b, h1, h2, h3⟩ := pairs_at _ _ _ _ h
  have hi : i < xs.length := (List.getElem?_eq_some_iff.mp h2).1
  rw [List.getElem?_map, upTo_at hi] at h1
  cases h1
  refine ⟨b, h2, ?_⟩
  rw [h3]
  show Dv.tup [Dv.int (0 + (i : Nat)), b] = _
  rw [Int.zero_add]
@[simp] def fEnum (fa : FA) : FI := fun env => bnd (fa env) fun ds => match ds with
  | [d] => bnd (ofO (frozen d)) fun xs => ret (numbered xs)
  | _ => stuck
@[simp] def fZip (fa : FA) : FI := fun env => bnd (fa env) fun ds => match ds with
  | [.tup xs, .tup ys] => ret (pairs xs ys)
  | [.lst xs, .lst ys] => ret (pairs xs ys)
  | _ => stuck
theorem new_pair {w : Wd} {S : Store} {T : Addr} {x y : V} {dx dy : Dv} (s : SOk G w S) (hT : w.H T = none) (rx : Rp G w x dx) (ry : Rp G w y dy) : ∃ w3, w3.H = upd w.H T (.tup [x, y]) ∧ Ext w w3 ∧ SOk G w3 S ∧ Rp G w3 (.ref T) (.tup [dx, dy]) :=
  ⟨w.put T (.tup [x, y]), rfl, .put hT, s.put hT, Rp.new_tup s hT (.cons rx (.cons ry .nil))⟩
theorem i_enum (hm : X.mg "enumerate" = none) (ha : DA X ξ W [e] fa) (hg : Gl X "enumerate" := by rfl) (hs : starEach [e] X.env = [(false, eval e X.env)] := by rfl) : DI X ξ W (.Tuple elts kk tpos) (.Call (.Name "enumerate" p) [e] [] pos) (fEnum fa) := PI.imp (pi_enumA hg hm ha hs) fun σ H R ⟨w, env, S, res, eH, s, en, h, p⟩ => by
  subst eH
  refine seqR s en h p.px fun ds S1 vs w1 e1 s1 en1 rv h1 => ?_
  split at h1
  · rename_i d
    obtain ⟨xs, hx, h2⟩ := bnd_ofO h1
    cases h2
    obtain ⟨v, rfl, hv⟩ := rp1 rv
    cases hv with
    | @tup a vs _ ha ra =>
      cases hx
      refine ⟨a, vs, rfl, .inr ⟨ha.to, p.ok_ e1 s1 fun w2 S2 e2 s2 => ?_⟩⟩
      have ha2 := (ha.mono e2).to
      have ra2 := ra.mono e2
      refine ⟨fun i hi => ?_, ⟨vs, ha2, by rw [ra.length, numbered_len]; exact Nat.le_refl _⟩, fun i d x H' hd hy => ?_⟩
      · rw [numbered_len] at hi
        have hx : i < vs.length := by rw [ra.length]; exact hi
        exact ⟨vs, vs[i], ha2, List.getElem?_eq_getElem hx⟩
      · obtain ⟨T, y, rfl, hT, rfl, hf⟩ := hy
        obtain ⟨z, hz, rfl⟩ := numbered_at hd
        obtain ⟨u, h3, h4⟩ := ra2.get hz
        rw [hf vs ha2] at h3
        cases h3
        exact new_pair s2 hT (.int _) h4
    | @lst a vs _ ha ra =>
      cases hx
      refine ⟨a, vs, rfl, .inl ⟨ha.to, p.ok_ e1 s1 fun w2 S2 e2 s2 => ?_⟩⟩
      have ha2 := (ha.mono e2).to
      have ra2 := ra.mono e2
      refine ⟨fun i hi => ?_, ⟨vs, ha2, by rw [ra.length, numbered_len]; exact Nat.le_refl _⟩, fun i d x H' hd hy => ?_⟩
      · rw [numbered_len] at hi
        have hx : i < vs.length := by rw [ra.length]; exact hi
        exact ⟨vs, vs[i], ha2, List.getElem?_eq_getElem hx⟩
      · obtain ⟨T, y, rfl, hT, rfl, hf⟩ := hy
        obtain ⟨z, hz, rfl⟩ := numbered_at hd
        obtain ⟨u, h3, h4⟩ := ra2.get hz
        rw [hf vs ha2] at h3
        cases h3
        exact new_pair s2 hT (.int _) h4
    | _ => cases hx
  · cases h1
theorem i_zip (hm : X.mg "zip" = none) (ha : DA X ξ W [e, e2] fa) (hg : Gl X "zip" := by rfl) (hs : starEach [e, e2] X.env = (false, eval e X.env) :: starEach [e2] X.env := by rfl) (hpl : (backTo pos (starEach [e2] X.env)).any (·.1) = false := by rfl) : DI X ξ W (.Tuple elts kk tpos) (.Call (.Name "zip" p) [e, e2] [] pos) (fZip fa) := PI.imp (RZ.pi_zipA hg hm ha hs hpl) fun σ H R ⟨w, env, S, res, eH, s, en, h, p⟩ => by
  subst eH
  refine seqR s en h p.px fun ds S1 vs w1 e1 s1 en1 rv h1 => ?_
  have stop : ∀ {xs ys : List V} {ds es : List Dv}, RpAll (gp X) w1 xs ds → RpAll (gp X) w1 ys es → xs.length ≤ (pairs ds es).length ∨ ys.length ≤ (pairs ds es).length := fun {xs ys ds es} h1 h2 => by
    rw [pairs_len, h1.length, h2.length]
    omega
  split at h1
  · rename_i xs ys
    cases h1
    obtain ⟨v, u, rfl, hv, hu⟩ := rp2 rv
    cases hv with
    | @tup a us _ ha ra =>
      cases hu with
      | @tup b ts _ hb rb =>
        refine ⟨a, b, us, ts, rfl, .inr ⟨ha.to, hb.to, p.ok_ e1 s1 fun w2 S2 e2 s2 => ?_⟩⟩
        have ha2 := (ha.mono e2).to
        have hb2 := (hb.mono e2).to
        refine ⟨fun i hi => ?_, ⟨us, ts, ha2, hb2, stop ra rb⟩, fun i d x H' hd hy => ?_⟩
        · rw [pairs_len] at hi
          have hx : i < us.length := by rw [ra.length]; omega
          have hy : i < ts.length := by rw [rb.length]; omega
          exact ⟨us, ts, us[i], ts[i], ha2, hb2, List.getElem?_eq_getElem hx, List.getElem?_eq_getElem hy⟩
        · obtain ⟨T, y, z, rfl, hT, rfl, hf, hg'⟩ := hy
          obtain ⟨dx, dy, q1, q2, rfl⟩ := pairs_at _ _ _ _ hd
          obtain ⟨v1, h3, h4⟩ := (ra.mono e2).get q1
          obtain ⟨v2, h5, h6⟩ := (rb.mono e2).get q2
          rw [hf us ha2] at h3
          rw [hg' ts hb2] at h5
          cases h3
          cases h5
          exact new_pair s2 hT h4 h6
  · rename_i xs ys
    cases h1
    obtain ⟨v, u, rfl, hv, hu⟩ := rp2 rv
    cases hv with
    | @lst a us _ ha ra =>
      cases hu with
      | @lst b ts _ hb rb =>
        refine ⟨a, b, us, ts, rfl, .inl ⟨ha.to, hb.to, p.ok_ e1 s1 fun w2 S2 e2 s2 => ?_⟩⟩
        have ha2 := (ha.mono e2).to
        have hb2 := (hb.mono e2).to
        refine ⟨fun i hi => ?_, ⟨us, ts, ha2, hb2, stop ra rb⟩, fun i d x H' hd hy => ?_⟩
        · rw [pairs_len] at hi
          have hx : i < us.length := by rw [ra.length]; omega
          have hy : i < ts.length := by rw [rb.length]; omega
          exact ⟨us, ts, us[i], ts[i], ha2, hb2, List.getElem?_eq_getElem hx, List.getElem?_eq_getElem hy⟩
        · obtain ⟨T, y, z, rfl, hT, rfl, hf, hg'⟩ := hy
          obtain ⟨dx, dy, q1, q2, rfl⟩ := pairs_at _ _ _ _ hd
          obtain ⟨v1, h3, h4⟩ := (ra.mono e2).get q1
          obtain ⟨v2, h5, h6⟩ := (rb.mono e2).get q2
          rw [hf us ha2] at h3
          rw [hg' ts hb2] at h5
          cases h3
          cases h5
          exact new_pair s2 hT h4 h6
  · cases h1
end
end
end FC

set_option Elab.async false
set_option linter.all false
set_option maxRecDepth 100000
namespace FC
open PySem PySem.Spec L2
/-! ### the least that keeps what is told of data -/
structure Wk (w w' : Wd) : Prop where
  as : ∀ (n : Nat) (a : Addr), w.as[n]? = some a → w'.as[n]? = some a
  nM : ∀ a o, w.H a = some o → ¬ w.M a → ¬ w'.M a
  keep : ∀ a o, ¬ w.M a → w.H a = some o → w'.H a = some o
theorem Ext.wk {w w' : Wd} (e : Ext w w') : Wk w w' := ⟨fun _ _ h => e.as_of h, e.nM, fun a o n h => e.keep a o (fun z => n (.inr z)) h⟩
theorem Less.wk {w w' : Wd} (e : Less w w') : Wk w w' := ⟨e.as, fun a o _ n z => n (e.M a z), fun a o _ h => by rw [e.H]; exact h⟩
theorem Wk.rd {w w' : Wd} (e : Wk w w') {a : Addr} {u : HO} (h : Rd w.H a u) (n : ¬ w.M a) : Rd w'.H a u ∧ ¬ w'.M a := by
  rcases h with h | ⟨o, h⟩
  · exact ⟨.inl (e.keep _ _ n h), e.nM _ _ h n⟩
  · exact ⟨.inr ⟨o, e.keep _ _ n h⟩, e.nM _ _ h n⟩
mutual
theorem Rp.wk {G : Gp} {w w' : Wd} (e : Wk w w') : ∀ {v : V} {d : Dv}, Rp G w v d → Rp G w' v d
  | _, _, .non => .non
  | _, _, .bl b => .bl b
  | _, _, .int i => .int i
  | _, _, .str x => .str x
  | _, _, .tup h r => .tup (by
      rcases h with h | h
      · exact .inl (e.rd h.1 h.2)
      · exact .inr h) (RpAll.wk e r)
  | _, _, .lst h r => .lst (by
      rcases h with h | h
      · exact .inl (e.rd h.1 h.2)
      · exact .inr h) (RpAll.wk e r)
  | _, _, .obj h => .obj (e.as _ _ h)
  | _, _, .ins h n q r => .ins (e.keep _ _ n h) (e.nM _ _ h n) q (RpAll.wk e r)
  | _, _, .dic h n q r => .dic (e.keep _ _ n h) (e.nM _ _ h n) q (RpAll.wk e r)
  | _, _, .dit h n q r => .dit (e.keep _ _ n h) (e.nM _ _ h n) q (RpAll.wk e r)
theorem RpAll.wk {G : Gp} {w w' : Wd} (e : Wk w w') : ∀ {vs : List V} {ds : List Dv}, RpAll G w vs ds → RpAll G w' vs ds
  | _, _, .nil => .nil
  | _, _, .cons h r => .cons (Rp.wk e h) (RpAll.wk e r)
end
theorem MOk.wk {G : Gp} {w w' : Wd} (e : Wk w w') {a : Addr} {d : Dv} (hk : w'.H a = w.H a) (h : MOk G w a d) : MOk G w' a d := by
  cases d <;> first | exact h.elim | skip
  · obtain ⟨xs, h, r⟩ := h; exact ⟨xs, hk.trans h, r.wk e⟩
  · obtain ⟨dx, fs', h, q, r⟩ := h; exact ⟨dx, fs', hk.trans h, q, r.wk e⟩
  · obtain ⟨kvs', h, q, r⟩ := h; exact ⟨kvs', hk.trans h, q, r.wk e⟩
  · obtain ⟨kvs', h, q, r⟩ := h; exact ⟨kvs', hk.trans h, q, r.wk e⟩

section
variable {X : Cx} {ξ : Iv} {W : WX} {G : Gp}
/-! ### targets -/
abbrev Bd := Dv → DEnv → Option DEnv
def gD (G : Gp) (ξ : Iv) (sl : List Nat) (b : Bd) : TG := fun v σ H Q => ∃ (w : Wd) (S : Store) (env : DEnv) (d : Dv) (env' : DEnv), w.H = H ∧ SOk G w S ∧ EOk G ξ w σ env ∧ Rp G w v d ∧ b d env = some env' ∧
  ∀ σ', EOk G ξ w σ' env' → (∀ vs : List Nat, (∀ i ∈ sl, i ∈ vs) → wipe σ' vs = wipe σ vs) → Q σ' w.H
def gDs (G : Gp) (ξ : Iv) (sl : List Nat) (b : List Dv → DEnv → Option DEnv) : TGs := fun vs σ H Q => ∃ (w : Wd) (S : Store) (env : DEnv) (ds : List Dv) (env' : DEnv), w.H = H ∧ SOk G w S ∧ EOk G ξ w σ env ∧ RpAll G w vs ds ∧ b ds env = some env' ∧
  ∀ σ', EOk G ξ w σ' env' → (∀ vs : List Nat, (∀ i ∈ sl, i ∈ vs) → wipe σ' vs = wipe σ vs) → Q σ' w.H
def DG (X : Cx) (ξ : Iv) (tg : Expr) (sl : List Nat) (b : Bd) : Prop := PG X tg (gD (gp X) ξ sl b)
def DGs (X : Cx) (ξ : Iv) (tg : List Expr) (sl : List Nat) (b : List Dv → DEnv → Option DEnv) : Prop := PGs X tg (gDs (gp X) ξ sl b)
theorem PG.imp {e : Expr} {t t' : TG} (h : PG X e t) (i : ∀ v σ H Q, t' v σ H Q → t v σ H Q) : PG X e t' := ⟨fun pins s σ H v u Q I r q => h.run pins s σ H v u Q I r (i v σ H Q q)⟩
theorem PGs.imp {e : List Expr} {t t' : TGs} (h : PGs X e t) (i : ∀ v σ H Q, t' v σ H Q → t v σ H Q) : PGs X e t' := ⟨fun pins s σ H v u Q I r q => h.run pins s σ H v u Q I r (i v σ H Q q)⟩
theorem wipe_set {σ : L2.St} {i : Nat} {x y : Option V} : ∀ {vs : List Nat}, i ∈ vs → wipe (σ.set i x) vs = wipe σ vs
  | [], h => by cases h
  | v :: vs, h => by
    show (wipe (σ.set i x) vs).set v none = (wipe σ vs).set v none
    by_cases q : i ∈ vs
    · rw [wipe_set (y := y) q]
    · have e : i = v := by
        rcases List.mem_cons.mp h with z | z
        · exact z
        · exact absurd z q
      subst e
      have c : ∀ ws : List Nat, i ∉ ws → wipe (σ.set i x) ws = (wipe σ ws).set i x := by
        intro ws
        induction ws with
        | nil => intro _; rfl
        | cons u us ih =>
          intro hu
          show (wipe (σ.set i x) us).set u none = ((wipe σ us).set u none).set i x
          rw [ih (fun z => hu (List.mem_cons_of_mem _ z))]
          exact List.set_comm _ _ (fun z => hu (by rw [z]; exact List.mem_cons_self))
      rw [c vs q, List.set_set]
theorem wipe_wipe (σ : L2.St) : ∀ vs us : List Nat, (∀ v ∈ vs, v ∈ us) → wipe (wipe σ vs) us = wipe σ us
  | [], us, _ => rfl
  | v :: vs, us, h => by
    show wipe ((wipe σ vs).set v none) us = _
    rw [wipe_set (y := none) (h v List.mem_cons_self)]
    exact wipe_wipe σ vs us fun z hz => h z (List.mem_cons_of_mem _ hz)
@[simp] def bName (i : Nat) : Bd := fun d env => some (env.set i (some d))
@[simp] def bNil : List Dv → DEnv → Option DEnv := fun ds env => match ds with
  | [] => some env
  | _ => none
@[simp] def bCons (b : Bd) (r : List Dv → DEnv → Option DEnv) : List Dv → DEnv → Option DEnv := fun ds env => match ds with
  | d :: ds => match b d env with
    | some env1 => r ds env1
    | none => none
  | [] => none
@[simp] def bTup (n : Nat) (r : List Dv → DEnv → Option DEnv) : Bd := fun d env => match d with
  | .tup ds => if ds.length = n then r ds env else none
  | _ => none
section
variable {sl sl1 sl2 : List Nat} {b : Bd} {r : List Dv → DEnv → Option DEnv} {e : Expr} {es : List Expr} {pos : Pos}
theorem g_name {i : Nat} {x : Str} (hN : X.N.Nodup) (hi : X.N[i]? = some x := by rfl) (hx : Loc X.env.scope x := by first | exact Or.inl rfl | exact Or.inr rfl) (hf : X.fn x = true ∨ X.env.scope.names.lookup x = some .local := by first | exact .inl rfl | exact .inr rfl | assumption) (hok : ξ.ok i := by first | trivial | decide) : DG X ξ (.Name x pos) [i] (bName i) :=
  PG.imp (pg_name hN hi hx hf) fun v σ H Q ⟨w, S, env, d, env', eH, s, en, rv, hb, q⟩ => by
    subst eH
    cases hb
    exact q _ (en.set hok rv) fun vs hv => wipe_set (y := none) (hv i (by simp))
theorem gs_nil : DGs X ξ [] [] bNil := PGs.imp pgs_nil fun v σ H Q ⟨w, S, env, d, env', eH, s, en, rv, hb, q⟩ => by
  subst eH
  cases rv with
  | nil =>
    cases hb
    exact ⟨rfl, q σ en fun _ _ => rfl⟩
  | cons _ _ => cases hb
theorem gs_cons (h1 : DG X ξ e sl1 b) (h2 : DGs X ξ es sl2 r) (hs : (assignEach (e :: es) X.env).map (·.2) = assign e X.env :: (assignEach es X.env).map (·.2) := by rfl) : DGs X ξ (e :: es) (sl1 ++ sl2) (bCons b r) :=
  PGs.imp (pgs_cons h1 h2 hs) fun v σ H Q ⟨w, S, env, d, env', eH, s, en, rv, hb, q⟩ => by
    subst eH
    cases rv with
    | nil => cases hb
    | @cons v vs d ds hv rr =>
      have hb' : (match b d env with | some env1 => r ds env1 | none => none) = some env' := hb
      cases e1 : b d env with
      | none => rw [e1] at hb'; cases hb'
      | some env1 =>
        rw [e1] at hb'
        refine ⟨v, vs, rfl, w, S, env, d, env1, rfl, s, en, hv, e1, fun σ1 en1 w1 => ⟨w, S, env1, ds, env', rfl, s, en1, rr, hb', fun σ2 en2 w2 => q σ2 en2 fun us hu => ?_⟩⟩
        rw [w2 us fun i hi => hu i (List.mem_append_right _ hi), w1 us fun i hi => hu i (List.mem_append_left _ hi)]
theorem g_tup {k n : Nat} (hc : X.calm = true) (h : DGs X ξ es sl r) (hn : (assignEach es X.env).length = n := by rfl) (hst : (assignEach es X.env).findIdx? (·.1) = none := by rfl) : DG X ξ (.Tuple es k pos) sl (bTup n r) :=
  PG.imp (pg_tup hc h hn hst) fun v σ H Q ⟨w, S, env, d, env', eH, s, en, rv, hb, q⟩ => by
    subst eH
    cases rv with
    | @tup a xs ds ha ra =>
      have hb' : (if ds.length = n then r ds env else none) = some env' := hb
      by_cases z : ds.length = n
      · rw [if_pos z] at hb'
        exact ⟨a, xs, rfl, ha.to, by rw [ra.length]; exact z, w, S, env, ds, env', rfl, s, en, ra, hb', q⟩
      · rw [if_neg z] at hb'; cases hb'
    | _ => cases hb
end
/-! ### list comprehensions -/
@[simp] def wipeD (env : DEnv) : List Nat → DEnv
  | [] => env
  | v :: vs => (wipeD env vs).set v none
theorem EOk.wipe {w : Wd} {σ : L2.St} {env : DEnv} (h : EOk G ξ w σ env) : ∀ vs : List Nat, (∀ v ∈ vs, ξ.ok v) → EOk G ξ w (L2.wipe σ vs) (wipeD env vs)
  | [], _ => h
  | v :: vs, hk => by
    have ih := EOk.wipe h vs fun z hz => hk z (List.mem_cons_of_mem _ hz)
    refine ⟨?_, fun i d q => ?_, ξ.put _ _ _ _ (hk v List.mem_cons_self) ih.inv⟩
    · show ((L2.wipe σ vs).set v none).length = ((wipeD env vs).set v none).length
      simp [ih.len]
    · have q' : ((wipeD env vs).set v none)[i]? = some (some d) := q
      by_cases z : v = i
      · subst z
        rw [List.getElem?_set_self' ] at q'
        cases e : (wipeD env vs)[v]? with
        | none => rw [e] at q'; cases q'
        | some o => rw [e] at q'; cases q'
      · rw [List.getElem?_set_ne z] at q'
        obtain ⟨u, h1, h2⟩ := ih.get i d q'
        exact ⟨u, by show ((L2.wipe σ vs).set v none)[i]? = _; rw [List.getElem?_set_ne z]; exact h1, h2⟩
def compM (b : Bd) (ft : FT) (fe : FE) (env0 : DEnv) : List Dv → List Dv → Mm (List Dv)
  | [], acc => ret acc
  | d :: r, acc => fun S => match b d env0 with
    | none => none
    | some env1 => match ft env1 S with
      | some (.ok false S1) => compM b ft fe env0 r acc S1
      | some (.ok true S1) => match fe env1 S1 with
        | some (.ok y S2) => if acc.length ≤ big then compM b ft fe env0 r (acc ++ [y]) S2 else none
        | _ => none
      | _ => none
@[simp] def fLc (m : Bool) (fi : FI) (own : List Nat) (b : Bd) (ft : FT) (fe : FE) : FE := fun env => bnd (fi env) fun items => bnd (compM b ft fe (wipeD env own) items []) (newL m)
def W0 : WX := fun _ _ _ _ => False
def DTs (X : Cx) (ξ : Iv) (W : WX) (ifs : List Expr) (f : FT) : Prop := PTs X ifs (tDT (gp X) ξ W f)
@[simp] def fYes : FT := fun _ => ret true
theorem PTs.imp {e : List Expr} {t t' : TT} (h : PTs X e t) (i : ∀ σ H Q, t' σ H Q → t σ H Q) : PTs X e t' := ⟨fun pins s σ H Q I q => h.run pins s σ H Q I (i σ H Q q)⟩
theorem ts_nil : DTs X ξ W [] fYes := PTs.imp pts_nil fun σ H Q ⟨w, env, S, res, eH, s, en, h, p⟩ => by
  subst eH
  cases h
  exact p.here s rfl
theorem ts_one {c : Expr} {ft : FT} (h : DT X ξ W c ft) : DTs X ξ W [c] ft := pts_one h
theorem newL_ok {m : Bool} {xs : List Dv} {S : Store} {res : Rs Dv} (h : newL m xs S = some res) : res = .ok (.lst xs) S ∨ (m = true ∧ res = .ok (.obj S.length) (S ++ [.lst xs])) := by
  cases m with
  | false => cases h; exact .inl rfl
  | true => cases h; exact .inr ⟨rfl, rfl⟩
theorem newL_at {m : Bool} {xs : List Dv} {S : Store} {res : Rs Dv} (h : newL m xs S = some res) : (m = false ∧ res = .ok (.lst xs) S) ∨ (m = true ∧ res = .ok (.obj S.length) (S ++ [.lst xs])) := by
  cases m with
  | false => cases h; exact .inl ⟨rfl, rfl⟩
  | true => cases h; exact .inr ⟨rfl, rfl⟩
/-- the state within a comprehension: what is made so far stands at D -/
structure Lcs (G : Gp) (w1 : Wd) (D : Addr) (w2 : Wd) (S2 : Store) (vs : List V) (acc : List Dv) : Prop where
  e : Ext w1 w2
  s : SOk G w2 S2
  m : D ∈ w2.M0
  n : D ∉ w2.as
  h : w2.H D = some (.lst vs)
  r : RpAll G w2 vs acc
theorem Lcs.go {w1 w2 w3 : Wd} {D : Addr} {S2 S3 : Store} {vs : List V} {acc : List Dv} (c : Lcs G w1 D w2 S2 vs acc) (e : Ext w2 w3) (s : SOk G w3 S3) : Lcs G w1 D w3 S3 vs acc :=
  ⟨c.e.trans e, s, e.m0 D c.m, e.na D _ c.h c.n, e.keep D _ c.n c.h, c.r.mono e⟩
theorem Lcs.app {w1 w2 : Wd} {D : Addr} {S2 : Store} {vs : List V} {acc : List Dv} (c : Lcs G w1 D w2 S2 vs acc) (hD : w1.H D = none) {v : V} {y : Dv} (ry : Rp G w2 v y) : Lcs G w1 D (w2.put D (.lst (vs ++ [v]))) S2 (vs ++ [v]) (acc ++ [y]) := by
  have wk : Wk w2 (w2.put D (.lst (vs ++ [v]))) := ⟨fun _ _ h => h, fun _ _ _ n => n, fun a o n h => by
    show upd w2.H D _ a = some o
    rw [upd_ne (fun z => n (by rw [z]; exact .inl c.m))]
    exact h⟩
  refine ⟨⟨c.e.as, c.e.m0, c.e.na, c.e.nM, fun a o n h => ?_⟩, ⟨c.s.nd, c.s.len, fun a ha => ?_, c.s.dj, fun i a d h1 h2 => ?_⟩, c.m, c.n, upd_same, (c.r.wk wk).append (.cons (ry.wk wk) .nil)⟩
  · show upd w2.H D _ a = some o
    rw [upd_ne (ne_of_none h hD)]
    exact c.e.keep a o n h
  · by_cases z : a = D
    · subst z; exact ⟨_, upd_same⟩
    · obtain ⟨o, ho⟩ := c.s.dom a ha
      exact ⟨o, by show upd w2.H D _ a = some o; rw [upd_ne z]; exact ho⟩
  · have z : a ≠ D := fun q => c.n (by rw [← q]; exact List.mem_of_getElem? h1)
    exact (c.s.cont i a d h1 h2).wk wk (upd_ne z)
/-- the list is handed out -/
theorem Lcs.out {w1 w2 : Wd} {σ : L2.St} {D : Addr} {S1 S2 : Store} {vs : List V} {acc : List Dv} {m : Bool} {res : Rs Dv} {Q : VK} (c : Lcs G w1 D w2 S2 vs acc) (s1 : SOk G w1 S1) (hD : w1.H D = none) (hk : newL m acc S2 = some res) (p : PR G W (Rp G) w1 σ res Q) : Q (.ref D) w2.H := by
  have nD : ∀ a ∈ w1.M0, a ≠ D := fun a ha z => by
    obtain ⟨o, ho⟩ := s1.dom a ha
    rw [z, hD] at ho
    cases ho
  rcases newL_at hk with ⟨rfl, rfl⟩ | ⟨rfl, rfl⟩
  · have L : Less w2 ⟨w2.H, w2.as, w2.M0.filter (fun a => decide (a ≠ D))⟩ := ⟨rfl, fun a h => by
      rcases h with h | h
      · exact .inl (List.mem_filter.mp h).1
      · exact .inr h, fun _ _ h => h⟩
    refine p.ok_ (w' := ⟨w2.H, w2.as, w2.M0.filter (fun a => decide (a ≠ D))⟩) ⟨c.e.as, fun a ha => List.mem_filter.mpr ⟨c.e.m0 a ha, decide_eq_true (nD a ha)⟩, c.e.na, fun a o h n z => c.e.nM a o h n (L.M a z), c.e.keep⟩ ?_ ?_
    · exact ⟨c.s.nd, c.s.len, fun a ha => c.s.dom a (List.mem_filter.mp ha).1, fun a ha z => c.s.dj a ha (List.mem_filter.mp z).1, fun i a d h1 h2 => (c.s.cont i a d h1 h2).less L⟩
    · refine .lst (.inl ⟨.inl c.h, ?_⟩) (c.r.less L)
      rintro (z | z)
      · exact of_decide_eq_true (List.mem_filter.mp z).2 rfl
      · exact c.n z
  · have L : Less w2 ⟨w2.H, w2.as ++ [D], w2.M0.filter (fun a => decide (a ≠ D))⟩ := ⟨rfl, fun a h => by
      rcases h with h | h
      · exact .inl (List.mem_filter.mp h).1
      · rcases List.mem_append.mp h with h | h
        · exact .inr h
        · rw [show a = D by simpa using h]; exact .inl c.m, fun n a h => by
      have hn : n < w2.as.length := (List.getElem?_eq_some_iff.mp h).1
      show (w2.as ++ [D])[n]? = some a
      rw [List.getElem?_append_left hn]
      exact h⟩
    refine p.ok_ (w' := ⟨w2.H, w2.as ++ [D], w2.M0.filter (fun a => decide (a ≠ D))⟩) ⟨?_, fun a ha => List.mem_filter.mpr ⟨c.e.m0 a ha, decide_eq_true (nD a ha)⟩, fun a o h n z => ?_, fun a o h n z => c.e.nM a o h n (L.M a z), c.e.keep⟩ ?_ ?_
    · obtain ⟨bs, hb⟩ := c.e.as
      exact ⟨bs ++ [D], by show w2.as ++ [D] = _; rw [hb, List.append_assoc]⟩
    · exact c.e.na a o h n (mem_add z (ne_of_none h hD))
    · refine ⟨?_, ?_, fun a ha => c.s.dom a (List.mem_filter.mp ha).1, fun a ha z => ?_, fun i a d h1 h2 => ?_⟩
      · show (w2.as ++ [D]).Nodup
        rw [List.nodup_append]
        refine ⟨c.s.nd, by simp, fun a ha b hb => ?_⟩
        rw [show b = D by simpa using hb]
        rintro rfl
        exact c.n ha
      · show (w2.as ++ [D]).length = (S2 ++ [Dv.lst acc]).length
        simp [c.s.len]
      · rcases List.mem_append.mp ha with q | q
        · exact c.s.dj a q (List.mem_filter.mp z).1
        · exact of_decide_eq_true (List.mem_filter.mp z).2 (by simpa using q)
      · have h1' : (w2.as ++ [D])[i]? = some a := h1
        by_cases hi : i < w2.as.length
        · rw [List.getElem?_append_left hi] at h1'
          rw [List.getElem?_append_left (by rw [← c.s.len]; exact hi)] at h2
          exact (c.s.cont i a d h1' h2).less L
        · have hi2 : w2.as.length ≤ i := by omega
          rw [List.getElem?_append_right hi2] at h1'
          rw [List.getElem?_append_right (by rw [← c.s.len]; exact hi2)] at h2
          cases hk : i - w2.as.length with
          | zero =>
            rw [hk] at h1'
            rw [← c.s.len, hk] at h2
            simp at h1' h2
            subst h1'; subst h2
            exact ⟨vs, c.h, c.r.less L⟩
          | succ k =>
            rw [hk] at h1'
            simp at h1'
    · refine .obj ?_
      show (w2.as ++ [D])[S2.length]? = some D
      rw [← c.s.len, List.getElem?_append_right (Nat.le_refl _), Nat.sub_self]
      rfl
theorem compM_cons {b : Bd} {ft : FT} {fe : FE} {env0 : DEnv} {d : Dv} {r acc : List Dv} {S : Store} {res : Rs (List Dv)} (h : compM b ft fe env0 (d :: r) acc S = some res) :
    ∃ env1, b d env0 = some env1 ∧ ((∃ S1, ft env1 S = some (.ok false S1) ∧ compM b ft fe env0 r acc S1 = some res) ∨
      ∃ S1 y S2, ft env1 S = some (.ok true S1) ∧ fe env1 S1 = some (.ok y S2) ∧ acc.length ≤ big ∧ compM b ft fe env0 r (acc ++ [y]) S2 = some res) := by
  unfold compM at h
  split at h
  · cases h
  · rename_i env1 e1
    refine ⟨env1, e1, ?_⟩
    split at h
    · rename_i S1 e2
      exact .inl ⟨S1, e2, h⟩
    · rename_i S1 e2
      split at h
      · rename_i y S2 e3
        by_cases z : acc.length ≤ big
        · rw [if_pos z] at h
          exact .inr ⟨S1, y, S2, e2, e3, z, h⟩
        · rw [if_neg z] at h; cases h
      · cases h
    · cases h
theorem compM_ok {b : Bd} {ft : FT} {fe : FE} {env0 : DEnv} : ∀ {items acc : List Dv} {S : Store} {res : Rs (List Dv)}, compM b ft fe env0 items acc S = some res → ∃ ys S2, res = .ok ys S2
  | [], acc, S, res, h => by cases h; exact ⟨acc, S, rfl⟩
  | d :: r, acc, S, res, h => by
    obtain ⟨env1, _, ⟨S1, _, h2⟩ | ⟨S1, y, S2, _, _, _, h2⟩⟩ := compM_cons h
    · exact compM_ok h2
    · exact compM_ok h2
section
variable {tg iter elt : Expr} {ifs : List Expr} {scope : Scope} {own : List (Str × Nat)} {pos : Pos} {fi : FI} {sl : List Nat} {b : Bd} {ft : FT} {fe : FE}
theorem lc_body (m : Bool) (hsl : ∀ i ∈ sl, i ∈ own.map (·.2)) (hok : ∀ v ∈ own.map (·.2), ξ.ok v) : ∀ σ H Q, tD G ξ W (fLc m fi (own.map (·.2)) b ft fe) σ H Q → tLc (tI G ξ W fi) (gD G ξ sl b) (tDT G ξ W0 ft) (tD G ξ W0 fe) (own.map (·.2)) σ H Q := fun σ H Q ⟨w, env, S, res, eH, s, en, h, p⟩ => by
  subst eH
  refine seqR s en h p.px fun items S1 J w1 e1 s1 en1 ok h1 => fun D hD => ?_
  have p1 := p.mono e1 s1
  unfold bnd at h1
  cases hc : compM b ft fe (wipeD env (own.map (·.2))) items [] S1 with
  | none => rw [hc] at h1; cases h1
  | some r1 =>
    rw [hc] at h1
    obtain ⟨ys, Sf, rfl⟩ := compM_ok hc
    have hk : newL m ys Sf = some res := h1
    refine ⟨fun i k H => k = items.length - i ∧ i ≤ items.length ∧ ∃ w2 S2 vs acc, w2.H = H ∧ Lcs G w1 D w2 S2 vs acc ∧ compM b ft fe (wipeD env (own.map (·.2))) (items.drop i) acc S2 = some (.ok ys Sf), ⟨items.length, rfl, Nat.zero_le _, ?_⟩, ?_⟩
    · refine ⟨⟨upd w1.H D (.lst []), w1.as, D :: w1.M0⟩, S1, [], [], rfl, ?_, hc⟩
      have ex : Ext w1 ⟨upd w1.H D (.lst []), w1.as, D :: w1.M0⟩ := ⟨⟨[], by simp⟩, fun a ha => List.mem_cons_of_mem _ ha, fun _ _ _ n => n, fun a o ho n z => by
        rcases z with z | z
        · rcases List.mem_cons.mp z with z | z
          · exact ne_of_none ho hD z
          · exact n (.inl z)
        · exact n (.inr z), fun a o _ ho => by
        show upd w1.H D _ a = some o
        rw [upd_ne (ne_of_none ho hD)]
        exact ho⟩
      refine ⟨ex, ⟨s1.nd, s1.len, fun a ha => ?_, fun a ha z => ?_, fun i a d q1 q2 => ?_⟩, List.mem_cons_self, fun z => s1.fresh hD (.inr z), upd_same, .nil⟩
      · rcases List.mem_cons.mp ha with z | z
        · subst z; exact ⟨_, upd_same⟩
        · obtain ⟨o, ho⟩ := s1.dom a z
          exact ⟨o, by show upd w1.H D _ a = some o; rw [upd_ne (ne_of_none ho hD)]; exact ho⟩
      · rcases List.mem_cons.mp z with z | z
        · subst z; exact s1.fresh hD (.inr ha)
        · exact s1.dj a ha z
      · have q := s1.cont i a d q1 q2
        obtain ⟨o, ho⟩ := q.there
        exact q.mono ex (upd_ne (ne_of_none ho hD))
    · rintro i k H' ⟨rfl, hi, w2, S2, vs, acc, rfl, c, hcm⟩
      obtain ⟨go, stop, yld⟩ := ok w2 S2 c.e c.s
      by_cases hlt : i < items.length
      · refine .inr ⟨go i hlt, fun H' => i + 1 ≤ items.length ∧ ∃ w2 S2 vs acc, w2.H = H' ∧ Lcs G w1 D w2 S2 vs acc ∧ compM b ft fe (wipeD env (own.map (·.2))) (items.drop (i + 1)) acc S2 = some (.ok ys Sf), fun H' hN => ⟨items.length - (i + 1), by omega, rfl, hN.1, hN.2⟩, fun x H' hy => ?_⟩
        have hd : items[i]? = some items[i] := List.getElem?_eq_getElem hlt
        obtain ⟨w3, rfl, e3, s3, rx⟩ := yld i _ x H' hd hy
        rw [List.drop_eq_getElem_cons hlt] at hcm
        obtain ⟨env1, hb, hcases⟩ := compM_cons hcm
        refine ⟨w3, S2, wipeD env (own.map (·.2)), items[i], env1, rfl, s3, ((en1.mono c.e).mono e3).wipe _ hok, rx, hb, fun σ' en' hw => ⟨?_, ?_⟩⟩
        · rw [hw _ hsl]
          exact wipe_wipe σ _ _ fun _ z => z
        · have c3 := c.go e3 s3
          rcases hcases with ⟨S4, hft, hr⟩ | ⟨S4, y, S5, hft, hfe, hl, hr⟩
          · refine ⟨w3, env1, S2, _, rfl, s3, en', hft, fun bv w4 e4 s4 hbv => ?_⟩
            cases hbv
            exact ⟨hlt, w4, S4, vs, acc, rfl, c3.go e4 s4, hr⟩
          · refine ⟨w3, env1, S2, _, rfl, s3, en', hft, fun bv w4 e4 s4 hbv => ?_⟩
            cases hbv
            have c4 := c3.go e4 s4
            refine ⟨w4, env1, S4, _, rfl, s4, en'.mono e4, hfe, fun v w5 e5 s5 rv => ?_⟩
            have c5 := c4.go e5 s5
            exact ⟨vs, c5.h, by rw [c5.r.length]; exact big_lt hl, hlt, _, S5, _, _, rfl, c5.app hD rv, hr⟩
      · have e0 : i = items.length := by omega
        subst e0
        rw [List.drop_length] at hcm
        cases hcm
        exact .inl ⟨stop, c.out s1 hD hk p1⟩
/-- [elt for tg in iter if ..] as a value -/
theorem d_lc (m : Bool) (hc : X.calm = true) (hN : X.N.Nodup) (hi : DI X ξ W tg iter fi) (ok : BlkOk X.N X.env.scope scope own)
    (hg : ∀ (s : Shared) (H : Hp) (C : Addr) (cl : List (Str × Addr)) (fp : List Addr), DG (X.blk s H scope (compEnvC scope cl C X.env) fp) ξ tg sl b)
    (ht : ∀ (s : Shared) (H : Hp) (C : Addr) (cl : List (Str × Addr)) (fp : List Addr), DTs (X.blk s H scope (compEnvC scope cl C X.env) fp) ξ W0 ifs ft)
    (he : ∀ (s : Shared) (H : Hp) (C : Addr) (cl : List (Str × Addr)) (fp : List Addr), DE (X.blk s H scope (compEnvC scope cl C X.env) fp) ξ W0 elt fe)
    (hsl : ∀ i ∈ sl, i ∈ own.map (·.2) := by decide) (hok : ∀ v ∈ own.map (·.2), ξ.ok v := by first | exact (fun _ _ => trivial) | decide) (hs : ∀ x, foldedSetIterable iter X.env x = pure x := by intro _; rfl) :
    DE X ξ W (.ListComp elt [⟨tg, iter, ifs, 0⟩] scope pos) (fLc m fi (own.map (·.2)) b ft fe) :=
  PE.imp (pe_lc (g := gD (gp X) ξ sl b) (tt := tDT (gp X) ξ W0 ft) (te := tD (gp X) ξ W0 fe) hc hN hi ok hg ht he hs) (lc_body m hsl hok)
end
end
end FC

set_option Elab.async false
set_option linter.all false
set_option maxRecDepth 100000
namespace FC
open PySem PySem.Spec L2

inductive Rf where
  | nx (env : DEnv) (S : Store)
  | rt (d : Dv) (S : Store)
  | bk (env : DEnv) (S : Store)
  | ct (env : DEnv) (S : Store)
  | exc (c : Str) (fs : List (Str × Dv)) (env : DEnv) (S : Store)
abbrev FS := DEnv → Store → Option Rf
def PXS (G : Gp) (ξ : Iv) (W : WX) (w : Wd) (c : Str) (fs : List (Str × Dv)) (env' : DEnv) (S' : Store) : Prop :=
  ∀ σ' dd fs' w', Ext w w' → SOk G w' S' → EOk G ξ w' σ' env' → w'.H dd = some (.xd fs') → ¬ w'.M dd → fs'.map Prod.fst = fs.map Prod.fst → RpAll G w' (fs'.map Prod.snd) (fs.map Prod.snd) → W (.ref (G.cA c)) (some dd) σ' w'.H
def PF (G : Gp) (ξ : Iv) (W : WX) (w : Wd) (r : Rf) (D : Ends) : Prop := match r with
  | .nx env' S' => ∀ σ' w', Ext w w' → SOk G w' S' → EOk G ξ w' σ' env' → D.nx σ' w'.H
  | .rt d S' => ∀ v w', Ext w w' → SOk G w' S' → Rp G w' v d → D.rt v w'.H
  | .bk env' S' => ∀ σ' w', Ext w w' → SOk G w' S' → EOk G ξ w' σ' env' → D.bk σ' w'.H
  | .ct env' S' => ∀ σ' w', Ext w w' → SOk G w' S' → EOk G ξ w' σ' env' → D.ct σ' w'.H
  | .exc c fs env' S' => PXS G ξ W w c fs env' S'
def tF (G : Gp) (ξ : Iv) (W : WX) (f : FS) : TS := fun D σ H => ∃ (w : Wd) (env : DEnv) (S : Store) (r : Rf), w.H = H ∧ SOk G w S ∧ EOk G ξ w σ env ∧ f env S = some r ∧ PF G ξ W w r D
def DS (X : Cx) (ξ : Iv) (W : WX) (st : Stmt) (f : FS) : Prop := PS X st (tF (gp X) ξ W f)
def DSs (X : Cx) (ξ : Iv) (W : WX) (st : List Stmt) (f : FS) : Prop := PSs X st (tF (gp X) ξ W f)
section
variable {X : Cx} {ξ : Iv} {W : WX} {G : Gp} {w w1 : Wd} {σ : L2.St} {S S1 : Store} {D : Ends}
theorem PXS.mono {c : Str} {fs : List (Str × Dv)} {env' : DEnv} {S' : Store} (e : Ext w w1) (h : PXS G ξ W w c fs env' S') : PXS G ξ W w1 c fs env' S' :=
  fun σ' dd fs' w' e' s' en hd hm hn hr => h σ' dd fs' w' (e.trans e') s' en hd hm hn hr
theorem PF.mono {r : Rf} (e : Ext w w1) (h : PF G ξ W w r D) : PF G ξ W w1 r D := by
  cases r with
  | nx env' S' => exact fun σ' w' e' s' en => h σ' w' (e.trans e') s' en
  | rt d S' => exact fun v w' e' s' rv => h v w' (e.trans e') s' rv
  | bk env' S' => exact fun σ' w' e' s' en => h σ' w' (e.trans e') s' en
  | ct env' S' => exact fun σ' w' e' s' en => h σ' w' (e.trans e') s' en
  | exc c fs env' S' => exact PXS.mono e h
/-- an expression within a statement: its value, then the rest -/
@[simp] def sBnd {α : Type} (f : DEnv → Mm α) (k : α → FS) : FS := fun env S => match f env S with
  | none => none
  | some (.exc c fs S') => some (.exc c fs env S')
  | some (.ok a S') => k a env S'
def PFx (G : Gp) (ξ : Iv) (W : WX) (w : Wd) (r : Rf) : Prop := match r with
  | .exc c fs env' S' => PXS G ξ W w c fs env' S'
  | _ => True
theorem PF.px {r : Rf} (h : PF G ξ W w r D) : PFx G ξ W w r := by
  cases r <;> first | exact h | exact True.intro
theorem seqS {α β : Type} {R : Wd → β → α → Prop} {f : DEnv → Mm α} {k : α → FS} {env : DEnv} {r : Rf} (s : SOk G w S) (en : EOk G ξ w σ env) (hr : sBnd f k env S = some r) (px : PFx G ξ W w r) {Q : β → Hp → Prop}
    (K : ∀ a S1 v w1, Ext w w1 → SOk G w1 S1 → EOk G ξ w1 σ env → R w1 v a → k a env S1 = some r → Q v w1.H) : tG G ξ W R f σ w.H Q := by
  unfold sBnd at hr
  cases h : f env S with
  | none => rw [h] at hr; cases hr
  | some r1 =>
    rw [h] at hr
    refine ⟨w, env, S, r1, rfl, s, en, h, ?_⟩
    cases r1 with
    | exc c fs S' =>
      cases hr
      exact fun dd fs' w' e' s' hd hm hn hq => px σ dd fs' w' e' s' (en.mono e') hd hm hn hq
    | ok a S' => exact fun v w' e s' q => K a S' v w' e s' (en.mono e) q hr
/-! ### the statements -/
@[simp] def sNext : FS := fun env S => some (.nx env S)
@[simp] def sSeq (f g : FS) : FS := fun env S => match f env S with
  | some (.nx env1 S1) => g env1 S1
  | r => r
theorem ss_nil : DSs X ξ W [] sNext := PSs.imp pss_nil fun D σ H ⟨w, env, S, r, eH, s, en, h, p⟩ => by
  subst eH
  cases h
  exact p σ w (Ext.refl w) s en
theorem ss_one {st : Stmt} {f : FS} (h : DS X ξ W st f) : DSs X ξ W [st] f := pss_one h
theorem ss_cons {st : Stmt} {rest : List Stmt} {f g : FS} (h1 : DS X ξ W st f) (h2 : DSs X ξ W rest g) : DSs X ξ W (st :: rest) (sSeq f g) :=
  PSs.imp (pss_cons h1 h2) fun D σ H ⟨w, env, S, r, eH, s, en, h, p⟩ => by
    subst eH
    unfold sSeq at h
    cases q : f env S with
    | none => rw [q] at h; cases h
    | some r1 =>
      rw [q] at h
      refine ⟨w, env, S, r1, rfl, s, en, q, ?_⟩
      cases r1 with
      | nx env1 S1 => exact fun σ1 w1 e1 s1 en1 => ⟨w1, env1, S1, r, rfl, s1, en1, h, p.mono e1⟩
      | rt d S1 => cases h; exact p
      | bk env1 S1 => cases h; exact p
      | ct env1 S1 => cases h; exact p
      | exc c fs env1 S1 => cases h; exact p
theorem s_pass {pos : Pos} : DS X ξ W (.Pass pos) sNext := PS.imp ps_pass fun D σ H ⟨w, env, S, r, eH, s, en, h, p⟩ => by
  subst eH
  cases h
  exact p σ w (Ext.refl w) s en
theorem s_doc {x j pos pos'} : DS X ξ W (.Expr (.Constant (.str x) j pos) pos') sNext := PS.imp ps_doc fun D σ H ⟨w, env, S, r, eH, s, en, h, p⟩ => by
  subst eH
  cases h
  exact p σ w (Ext.refl w) s en
@[simp] def sBreak : FS := fun env S => some (.bk env S)
@[simp] def sCont : FS := fun env S => some (.ct env S)
theorem s_break {pos : Pos} : DS X ξ W (.Break pos) sBreak := PS.imp ps_break fun D σ H ⟨w, env, S, r, eH, s, en, h, p⟩ => by
  subst eH
  cases h
  exact p σ w (Ext.refl w) s en
theorem s_cont {pos : Pos} : DS X ξ W (.Continue pos) sCont := PS.imp ps_continue fun D σ H ⟨w, env, S, r, eH, s, en, h, p⟩ => by
  subst eH
  cases h
  exact p σ w (Ext.refl w) s en
def sExpr (fe : FE) : FS := sBnd fe fun _ => sNext
def sRet (fe : FE) : FS := sBnd fe fun d _ S => some (.rt d S)
@[simp] def sRetN : FS := fun _ S => some (.rt .non S)
def sIf (ft : FT) (f g : FS) : FS := sBnd ft fun c => if c = true then f else g
def sAsg (fe : FE) (b : Bd) : FS := sBnd fe fun d env S => match b d env with
  | some env' => some (.nx env' S)
  | none => none
theorem s_expr {e : Expr} {fe : FE} {pos : Pos} (he : DE X ξ W e fe) (hs : swapsWith e none pos.line X.env = pure false := by rfl) : DS X ξ W (.Expr e pos) (sExpr fe) := PS.imp (ps_expr he hs) fun D σ H ⟨w, env, S, r, eH, s, en, h, p⟩ => by
  subst eH
  refine seqS s en h p.px fun d S1 v w1 e1 s1 en1 r1 h1 => ?_
  cases h1
  exact p σ w1 e1 s1 en1
theorem s_ret {e : Expr} {fe : FE} {pos : Pos} (he : DE X ξ W e fe) : DS X ξ W (.Return (some e) pos) (sRet fe) := PS.imp (ps_ret he) fun D σ H ⟨w, env, S, r, eH, s, en, h, p⟩ => by
  subst eH
  refine seqS s en h p.px fun d S1 v w1 e1 s1 en1 r1 h1 => ?_
  cases h1
  exact p v w1 e1 s1 r1
theorem s_retN {pos : Pos} : DS X ξ W (.Return none pos) sRetN := PS.imp ps_retN fun D σ H ⟨w, env, S, r, eH, s, en, h, p⟩ => by
  subst eH
  cases h
  exact p .non w (Ext.refl w) s .non
theorem s_if {c : Expr} {a b : List Stmt} {ft : FT} {f g : FS} {pos : Pos} (hc : DT X ξ W c ft) (ha : DSs X ξ W a f) (hb : DSs X ξ W b g) : DS X ξ W (.If c a b pos) (sIf ft f g) := PS.imp (ps_if hc ha hb) fun D σ H ⟨w, env, S, r, eH, s, en, h, p⟩ => by
  subst eH
  refine seqS s en h p.px fun d S1 v w1 e1 s1 en1 r1 h1 => ?_
  cases (show v = d from r1)
  cases d with
  | true => exact ⟨w1, env, S1, r, rfl, s1, en1, h1, p.mono e1⟩
  | false => exact ⟨w1, env, S1, r, rfl, s1, en1, h1, p.mono e1⟩
theorem asg_body {fe : FE} {sl : List Nat} {b : Bd} : ∀ D σ H, tF G ξ W (sAsg fe b) D σ H → tAsg (tD G ξ W fe) (gD G ξ sl b) D σ H := fun D σ H ⟨w, env, S, r, eH, s, en, h, p⟩ => by
  subst eH
  refine seqS s en h p.px fun d S1 v w1 e1 s1 en1 r1 h1 => ?_
  cases q : b d env with
  | none => rw [q] at h1; cases h1
  | some env' =>
    rw [q] at h1
    cases h1
    exact ⟨w1, S1, env, d, env', rfl, s1, en1, r1, q, fun σ' en' _ => p σ' w1 e1 s1 en'⟩
theorem s_asg {tg e : Expr} {fe : FE} {sl : List Nat} {b : Bd} {pos : Pos} (he : DE X ξ W e fe) (hg : DG X ξ tg sl b) (hs : swapsWithSole [tg] e pos.line X.env = pure false := by rfl) (hw : swappedStores [tg] e X.env = pure none := by rfl)
    (h1 : (assignEach [tg] X.env).map (·.2) = [assign tg X.env] := by rfl) : DS X ξ W (.Assign [tg] e pos) (sAsg fe b) := PS.imp (ps_asg he hg hs hw h1) (asg_body (sl := sl))
/-- x = e -/
theorem s_set {i : Nat} {x : Str} {e : Expr} {fe : FE} {pos pos' : Pos} (hN : X.N.Nodup) (he : DE X ξ W e fe) (hi : X.N[i]? = some x := by rfl) (hx : Loc X.env.scope x := by first | exact Or.inl rfl | exact Or.inr rfl) (hs : swapsWith e (some (.Name x pos')) pos.line X.env = pure false := by rfl)
    (hf : X.fn x = true ∨ X.env.scope.names.lookup x = some .local := by first | exact .inl rfl | exact .inr rfl | assumption) (hok : ξ.ok i := by first | trivial | decide) : DS X ξ W (.Assign [.Name x pos'] e pos) (sAsg fe (bName i)) := PS.imp (ps_set hN hi hx he hs hf) fun D σ H h => by
  have q := asg_body (sl := [i]) (b := bName i) D σ H h
  obtain ⟨w, env, S, r, eH, s, en, h, p⟩ := h
  subst eH
  refine seqS s en h p.px fun d S1 v w1 e1 s1 en1 r1 h1 => ?_
  cases h1
  exact p _ w1 e1 s1 (en1.set hok r1)
/-- x = [..] -/
theorem s_setLc {i : Nat} {y : Str} {py : Pos} {tg iter elt : Expr} {ifs : List Expr} {scope : Scope} {own : List (Str × Nat)} {pos spos : Pos} {fi : FI} {sl : List Nat} {b : Bd} {ft : FT} {fe : FE}
    (m : Bool) (hc : X.calm = true) (hN : X.N.Nodup) (hsw : swapsWith (.ListComp elt [⟨tg, iter, ifs, 0⟩] scope pos) (some (.Name y py)) spos.line X.env = pure true) (hi : DI X ξ W tg iter fi) (ok : BlkOk X.N X.env.scope scope own)
    (hg : ∀ (s : Shared) (H : Hp) (C : Addr) (cl : List (Str × Addr)) (fp : List Addr), DG (X.blk s H scope (compEnvC scope cl C X.env) fp) ξ tg sl b)
    (ht : ∀ (s : Shared) (H : Hp) (C : Addr) (cl : List (Str × Addr)) (fp : List Addr), DTs (X.blk s H scope (compEnvC scope cl C X.env) fp) ξ W0 ifs ft)
    (he : ∀ (s : Shared) (H : Hp) (C : Addr) (cl : List (Str × Addr)) (fp : List Addr), DE (X.blk s H scope (compEnvC scope cl C X.env) fp) ξ W0 elt fe)
    (hsl : ∀ i ∈ sl, i ∈ own.map (·.2) := by decide) (hy : X.N[i]? = some y := by rfl) (hyl : X.env.scope.names.lookup y = some .local := by rfl) (hoki : ξ.ok i := by first | trivial | decide) (hok : ∀ v ∈ own.map (·.2), ξ.ok v := by first | exact (fun _ _ => trivial) | decide) (hs : ∀ x, foldedSetIterable iter X.env x = pure x := by intro _; rfl) :
    DS X ξ W (.Assign [.Name y py] (.ListComp elt [⟨tg, iter, ifs, 0⟩] scope pos) spos) (sAsg (fLc m fi (own.map (·.2)) b ft fe) (bName i)) :=
  PS.imp (ps_setLc (g := gD (gp X) ξ sl b) (tt := tDT (gp X) ξ W0 ft) (te := tD (gp X) ξ W0 fe) hc hN hy hyl hsw hi ok hg ht he hs) fun D σ H h => by
    obtain ⟨w, env, S, r, eH, s, en, h, p⟩ := h
    subst eH
    have q : tD (gp X) ξ W (fLc m fi (own.map (·.2)) b ft fe) σ w.H (fun x H1 => gName i x σ H1 D.nx) := seqS s en h p.px fun d S1 v w1 e1 s1 en1 r1 h1 => by
      cases h1
      exact p _ w1 e1 s1 (en1.set hoki r1)
    exact lc_body m hsl hok σ w.H _ q
/-- x += e -/
def sAug (i : Nat) (o : DOp) (fe : FE) : FS := fun env S => match (env[i]?).join with
  | some d => sBnd (fun env => bnd (fe env) fun y => o d y) (fun z env S => some (.nx (env.set i (some z)) S)) env S
  | none => none
theorem join_at {env : DEnv} {i : Nat} {d : Dv} (h : (env[i]?).join = some d) : env[i]? = some (some d) := by
  cases z : env[i]? with
  | none => rw [z] at h; cases h
  | some o => rw [z] at h; cases o with
    | none => cases h
    | some d' => cases h; rfl
theorem s_aug {i : Nat} {x : Str} {op : Operator} {e : Expr} {fe : FE} {ti : TIp} {o : DOp} {pos pos' : Pos} (hN : X.N.Nodup) (he : DE X ξ W e fe) (hp : PIp X op ti) (hd : OpD (gp X) ti o) (hi : X.N[i]? = some x := by rfl) (hx : X.env.scope.names.lookup x = some .local := by rfl)
    (hok : ξ.ok i := by first | trivial | decide) (hq : PS X (.AugAssign (.Name x pos') op e pos) (tAug i (tD (gp X) ξ W fe) ti)) : DS X ξ W (.AugAssign (.Name x pos') op e pos) (sAug i o fe) := PS.imp hq fun D σ H ⟨w, env, S, r, eH, s, en, h, p⟩ => by
  subst eH
  unfold sAug at h
  cases q : (env[i]?).join with
  | none => rw [q] at h; cases h
  | some d =>
    rw [q] at h
    obtain ⟨v, h1, h2⟩ := en.get i d (join_at q)
    refine ⟨v, h1, ?_⟩
    have h' : sBnd (fun env => bnd (fe env) fun y => o d y) (fun z env S => some (.nx (env.set i (some z)) S)) env S = some r := h
    unfold sBnd at h'
    cases h3 : fe env S with
    | none => unfold bnd at h'; simp only [h3] at h'; cases h'
    | some r1 =>
      refine ⟨w, env, S, r1, rfl, s, en, h3, ?_⟩
      unfold bnd at h'
      simp only [h3] at h'
      cases r1 with
      | exc c fs S' =>
        cases h'
        exact fun dd fs' w' e' s' hd hm hn hq => p σ dd fs' w' e' s' (en.mono e') hd hm hn hq
      | ok y S1 =>
        intro u w1 e1 s1 ru
        dsimp only at h'
        cases h4 : o d y S1 with
        | none => rw [h4] at h'; cases h'
        | some r2 =>
          rw [h4] at h'
          refine hd W w1 σ S1 v u d y r2 _ s1 (h2.mono e1) ru h4 ?_
          cases r2 with
          | exc c fs S' =>
            cases h'
            exact fun dd fs' w' e' s' hd hm hn hq => p σ dd fs' w' (e1.trans e') s' ((en.mono e1).mono e') hd hm hn hq
          | ok z S2 =>
            cases h'
            exact fun v2 w2 e2 s2 r2 => p _ w2 (e1.trans e2) s2 (((en.mono e1).mono e2).set hok r2)
/-! ### loops -/
def forM' (b : Bd) (fb : FS) : List Dv → FS
  | [], env, S => some (.nx env S)
  | d :: r, env, S => match b d env with
    | none => none
    | some env1 => match fb env1 S with
      | some (.nx env2 S2) => forM' b fb r env2 S2
      | some (.ct env2 S2) => forM' b fb r env2 S2
      | some (.bk env2 S2) => some (.nx env2 S2)
      | r => r
def sFor (fi : FI) (b : Bd) (fb : FS) : FS := sBnd fi fun items => forM' b fb items
theorem s_for {tg iter : Expr} {body : List Stmt} {fi : FI} {sl : List Nat} {b : Bd} {fb : FS} {pos : Pos} (hp : PassesOwn (model X.prog X.w) X.A X.env X.xe) (hc : X.calm = true) (hi : DI X ξ W tg iter fi) (hg : DG X ξ tg sl b) (hb : DSs X ξ W body fb)
    (hs : ∀ x, foldedSetIterable iter X.env x = pure x := by intro _; rfl) : DS X ξ W (.For tg iter body [] pos) (sFor fi b fb) := PS.imp (ps_for hp hc hi hg hb hs) fun D σ H ⟨w, env, S, r, eH, s, en, h, p⟩ => by
  subst eH
  refine seqS s en h p.px fun items S1 J w1 e1 s1 en1 ok h1 => ?_
  have p1 := p.mono e1
  refine ⟨fun i k σ' H' => k = items.length - i ∧ i ≤ items.length ∧ ∃ w2 S2 env2, w2.H = H' ∧ Ext w1 w2 ∧ SOk (gp X) w2 S2 ∧ EOk (gp X) ξ w2 σ' env2 ∧ forM' b fb (items.drop i) env2 S2 = some r, ⟨items.length, rfl, Nat.zero_le _, w1, S1, env, rfl, Ext.refl _, s1, en1, h1⟩, ?_⟩
  rintro i k σ' H' ⟨rfl, hi, w2, S2, env2, rfl, e2, s2, en2, hf⟩
  obtain ⟨go, stop, yld⟩ := ok w2 S2 e2 s2
  by_cases hlt : i < items.length
  · refine .inr ⟨go i hlt, fun σ' H' => i + 1 ≤ items.length ∧ ∃ w2 S2 env2, w2.H = H' ∧ Ext w1 w2 ∧ SOk (gp X) w2 S2 ∧ EOk (gp X) ξ w2 σ' env2 ∧ forM' b fb (items.drop (i + 1)) env2 S2 = some r, fun σ' H' hN => ⟨items.length - (i + 1), by omega, rfl, hN.1, hN.2⟩, fun x H' hy => ?_⟩
    have hd : items[i]? = some items[i] := List.getElem?_eq_getElem hlt
    obtain ⟨w3, rfl, e3, s3, rx⟩ := yld i _ x H' hd hy
    rw [List.drop_eq_getElem_cons hlt] at hf
    unfold forM' at hf
    split at hf
    · cases hf
    · rename_i env1 hb1
      refine ⟨w3, S2, env2, items[i], env1, rfl, s3, en2.mono e3, rx, hb1, fun σ3 en3 _ => ?_⟩
      have e13 := e2.trans e3
      cases h4 : fb env1 S2 with
      | none => rw [h4] at hf; cases hf
      | some r4 =>
        rw [h4] at hf
        refine ⟨w3, env1, S2, r4, rfl, s3, en3, h4, ?_⟩
        cases r4 with
        | nx env5 S5 => exact fun σ5 w5 e5 s5 en5 => ⟨hlt, w5, S5, env5, rfl, e13.trans e5, s5, en5, hf⟩
        | ct env5 S5 => exact fun σ5 w5 e5 s5 en5 => ⟨hlt, w5, S5, env5, rfl, e13.trans e5, s5, en5, hf⟩
        | bk env5 S5 =>
          cases hf
          exact fun σ5 w5 e5 s5 en5 => p1 σ5 w5 (e13.trans e5) s5 en5
        | rt d5 S5 =>
          cases hf
          exact fun v w5 e5 s5 r5 => p1 v w5 (e13.trans e5) s5 r5
        | exc c fs env5 S5 =>
          cases hf
          exact PXS.mono e13 p1
  · have e0 : i = items.length := by omega
    subst e0
    rw [List.drop_length] at hf
    cases hf
    exact .inl ⟨stop, p1 σ' w2 e2 s2 en2⟩
def whileM (ft : FT) (fb : FS) : Nat → FS
  | 0, _, _ => none
  | n + 1, env, S => match ft env S with
    | none => none
    | some (.exc c fs S') => some (.exc c fs env S')
    | some (.ok false S') => some (.nx env S')
    | some (.ok true S') => match fb env S' with
      | some (.nx env2 S2) => whileM ft fb n env2 S2
      | some (.ct env2 S2) => whileM ft fb n env2 S2
      | some (.bk env2 S2) => some (.nx env2 S2)
      | r => r
def sWhile (n : Nat) (ft : FT) (fb : FS) : FS := whileM ft fb n
theorem s_while {c : Expr} {body : List Stmt} {ft : FT} {fb : FS} {pos : Pos} (n : Nat) (hp : PassesOwn (model X.prog X.w) X.A X.env X.xe) (hc : DT X ξ W c ft) (hb : DSs X ξ W body fb) : DS X ξ W (.While c body [] pos) (sWhile n ft fb) := PS.imp (ps_while hp hc hb) fun D σ H ⟨w, env, S, r, eH, s, en, h, p⟩ => by
  subst eH
  refine ⟨fun k σ' H' => ∃ w2 S2 env2, w2.H = H' ∧ Ext w w2 ∧ SOk (gp X) w2 S2 ∧ EOk (gp X) ξ w2 σ' env2 ∧ whileM ft fb k env2 S2 = some r, ⟨n, w, S, env, rfl, Ext.refl _, s, en, h⟩, ?_⟩
  rintro k σ' H' ⟨w2, S2, env2, rfl, e2, s2, en2, hf⟩
  cases k with
  | zero => cases hf
  | succ k =>
    unfold whileM at hf
    cases h3 : ft env2 S2 with
    | none => rw [h3] at hf; cases hf
    | some r3 =>
      rw [h3] at hf
      refine ⟨w2, env2, S2, r3, rfl, s2, en2, h3, ?_⟩
      cases r3 with
      | exc c fs S' =>
        cases hf
        exact fun dd fs' w' e' s' hd hm hn hq => p σ' dd fs' w' (e2.trans e') s' (en2.mono e') hd hm hn hq
      | ok b S3 =>
        intro bv w3 e3 s3 hbv
        cases (show bv = b from hbv)
        cases b with
        | false =>
          cases hf
          exact p σ' w3 (e2.trans e3) s3 (en2.mono e3)
        | true =>
          refine ⟨fun σ5 H5 => ∃ w2 S2 env2, w2.H = H5 ∧ Ext w w2 ∧ SOk (gp X) w2 S2 ∧ EOk (gp X) ξ w2 σ5 env2 ∧ whileM ft fb k env2 S2 = some r, fun σ5 H5 hN => ⟨k, Nat.lt_succ_self _, hN⟩, ?_⟩
          have e13 := e2.trans e3
          cases h4 : fb env2 S3 with
          | none => simp only [h4] at hf; cases hf
          | some r4 =>
            simp only [h4] at hf
            refine ⟨w3, env2, S3, r4, rfl, s3, en2.mono e3, h4, ?_⟩
            cases r4 with
            | nx env5 S5 => exact fun σ5 w5 e5 s5 en5 => ⟨w5, S5, env5, rfl, e13.trans e5, s5, en5, hf⟩
            | ct env5 S5 => exact fun σ5 w5 e5 s5 en5 => ⟨w5, S5, env5, rfl, e13.trans e5, s5, en5, hf⟩
            | bk env5 S5 =>
              cases hf
              exact fun σ5 w5 e5 s5 en5 => p σ5 w5 (e13.trans e5) s5 en5
            | rt d5 S5 =>
              cases hf
              exact fun v w5 e5 s5 r5 => p v w5 (e13.trans e5) s5 r5
            | exc c fs env5 S5 =>
              cases hf
              exact PXS.mono e13 p
end
end FC

set_option Elab.async false
set_option linter.all false
set_option maxRecDepth 100000
namespace FC
open PySem PySem.Spec L2
open PyProof.Rows (envOfC)
section
variable {X : Cx} {ξ : Iv} {W : WX} {G : Gp}
/-! ### stores to named lists -/
@[simp] def setIx (o i v : Dv) (S : Store) : Option Store := match o, i with
  | .obj n, .int k => match S[n]? with
    | some (.lst ds) => match ixN ds.length k with
      | some j => some (S.set n (.lst (ds.set j v)))
      | none => none
    | _ => none
  | _, _ => none
def sSetIx (fo fi fe : FE) : FS := sBnd fe fun v => sBnd fo fun o => sBnd fi fun i => fun env S => match setIx o i v S with
  | some S' => some (.nx env S')
  | none => none
theorem s_setIx {o i e : Expr} {fo fi fe : FE} {pos pos' : Pos} (he : DE X ξ W e fe) (ho : DE X ξ W o fo) (hi : DE X ξ W i fi)
    (ha : ∀ v, assign (.Subscript o i pos') X.env v = (do
      let ov ← holding [v] (eval o X.env)
      let iv ← holding [v, ov] (eval i X.env)
      standAt pos'
      holding [v, ov, iv] (setItem ov iv v)
      release [v, ov, iv] []) := by intro _; rfl) (hs : swapsWithSole [.Subscript o i pos'] e pos.line X.env = pure false := by rfl) (hw : swappedStores [.Subscript o i pos'] e X.env = pure none := by rfl)
    (h1 : (assignEach [.Subscript o i pos'] X.env).map (·.2) = [assign (.Subscript o i pos') X.env] := by rfl) :
    DS X ξ W (.Assign [.Subscript o i pos'] e pos) (sSetIx fo fi fe) := PS.imp (ps_asg he (pg_sub ho hi set_list ha) hs hw h1) fun D σ H ⟨w, env, S, r, eH, s, en, h, p⟩ => by
  subst eH
  refine seqS s en h p.px fun d S1 v w1 e1 s1 en1 r1 h1 => seqS s1 en1 h1 (p.mono e1).px fun o S2 ov w2 e2 s2 en2 r2 h2 => seqS s2 en2 h2 (p.mono (e1.trans e2)).px fun i S3 iv w3 e3 s3 en3 r3 h3 => ?_
  cases q : setIx o i d S3 with
  | none => rw [q] at h3; cases h3
  | some S4 =>
    rw [q] at h3
    cases h3
    unfold setIx at q
    split at q
    · rename_i n k
      split at q
      · rename_i ds hS
        split at q
        · rename_i j hj
          cases q
          cases r3
          cases r2.mono e3 with
          | obj ha =>
            rename_i a
            obtain ⟨xs, hx, rx⟩ := s3.cont n a _ ha hS
            refine ⟨a, xs, k, j, rfl, rfl, hx, by rw [rx.length]; exact hj, ?_⟩
            have e4 : Ext w3 (w3.put a (.lst (xs.set j v))) := .upd ha
            have s4 : SOk (gp X) (w3.put a (.lst (xs.set j v))) (S3.set n (.lst (ds.set j d))) := s3.upd ha ⟨_, upd_same, (rx.mono e4).set (((r1.mono e2).mono e3).mono e4) j⟩
            exact p σ (w3.put a (.lst (xs.set j v))) (((e1.trans e2).trans e3).trans e4) s4 (en3.mono e4)
        · cases q
      · cases q
    · cases q
/-- a method of a named list -/
@[simp] def isL (o : Dv) (S : Store) : Option Nat := match o with
  | .obj n => match S[n]? with
    | some (.lst _) => some n
    | _ => none
  | _ => none
theorem isL_ok {w : Wd} {S : Store} {v : V} {o : Dv} {n : Nat} (s : SOk G w S) (r : Rp G w v o) (h : isL o S = some n) : o = .obj n ∧ ∃ a xs ds, v = .ref a ∧ w.as[n]? = some a ∧ S[n]? = some (.lst ds) ∧ w.H a = some (.lst xs) ∧ RpAll G w xs ds := by
  unfold isL at h
  split at h
  · rename_i m
    split at h
    · rename_i ds e
      cases h
      cases r with
      | obj ha =>
        obtain ⟨xs, h1, h2⟩ := s.cont _ _ _ ha e
        exact ⟨rfl, _, xs, ds, rfl, ha, e, h1, h2⟩
    · cases h
  · cases h
@[simp] def fMeth1 (k : Nat → List Dv → Mm Dv) (fo : FE) (fa : FA) : FE := fun env => bnd (fo env) fun o S => match isL o S with
  | some n => bnd (fa env) (k n) S
  | none => none
def MethD (G : Gp) (r : V → List V → Hp → VK → Prop) (k : Nat → List Dv → Mm Dv) : Prop := ∀ (W : WX) (w : Wd) (σ : L2.St) (S : Store) (a : Addr) (n : Nat) (xs : List V) (ds : List Dv) (res : Rs Dv) (Q : VK), SOk G w S → w.as[n]? = some a → RpAll G w xs ds → k n ds S = some res → PR G W (Rp G) w σ res Q → r (.ref a) xs w.H Q
theorem meth1_body {r : V → List V → Hp → VK → Prop} {k : Nat → List Dv → Mm Dv} {fo : FE} {fa : FA} (hd : MethD G r k) : ∀ σ H Q, tD G ξ W (fMeth1 k fo fa) σ H Q → tBM G.K "list" r (tD G ξ W fo) (tDA G ξ W fa) σ H Q := fun σ H Q ⟨w, env, S, res, eH, s, en, h, p⟩ => by
  subst eH
  refine seqR s en h p.px fun x S1 v w1 e1 s1 en1 r1 h1 => ?_
  cases q : isL x S1 with
  | none => rw [q] at h1; cases h1
  | some n =>
    rw [q] at h1
    obtain ⟨rfl, a, xs, ds, rfl, ha, hS, hx, rx⟩ := isL_ok s1 r1 q
    refine ⟨.inl ⟨rfl, xs, SqL.of hx⟩, ?_⟩
    exact seqR s1 en1 h1 (p.px.mono e1 s1) fun ys S2 us w2 e2 s2 en2 r2 h2 => hd W w2 σ S2 a n us ys res Q s2 (e2.as_of ha) r2 h2 (p.mono (e1.trans e2) s2)
@[simp] def appK (n : Nat) (ds : List Dv) : Mm Dv := fun S => match ds, S[n]? with
  | [y], some (.lst xs) => if xs.length ≤ big then some (.ok .non (S.set n (.lst (xs ++ [y])))) else none
  | _, _ => none
theorem md_app : MethD G rAppend appK := by
  intro W w σ S a n xs ds res Q s ha r h p
  unfold appK at h
  split at h
  · rename_i y zs hS
    by_cases z : zs.length ≤ big
    · rw [if_pos z] at h
      cases h
      obtain ⟨v, rfl, hv⟩ := rp1 r
      obtain ⟨us, hx, rx⟩ := s.cont n a _ ha hS
      have e4 : Ext w (w.put a (.lst (us ++ [v]))) := .upd ha
      exact ⟨a, us, v, rfl, rfl, hx, by rw [rx.length]; exact big_lt z, p.ok_ (w' := w.put a (.lst (us ++ [v]))) e4 (s.upd ha ⟨_, upd_same, (rx.mono e4).append (.cons (hv.mono e4) .nil)⟩) .non⟩
    · rw [if_neg z] at h; cases h
  · cases h
theorem d_append {o a : Expr} {fo : FE} {fa : FA} {apos cpos : Pos} (ho : DE X ξ W o fo) (ha : DA X ξ W [a] fa)
    (hbase : attributeBase o "append" X.env (eval o X.env) = eval o X.env := by rfl)
    (hfew : ((backTo cpos (starEach [a] X.env)).all (fun x => !x.1) && (backToKw cpos (keywordEach [] X.env)).all (fun x => x.1.isSome)
      && decide ([a].length + ([] : List Keyword).length + (if ([] : List Keyword).isEmpty then 0 else 1) < 30)) = true := by rfl)
    (hline : (apos.endLine == cpos.line) = true := by rfl) (hs : starEach [a] X.env = (false, eval a X.env) :: starEach [] X.env := by rfl) (hplain : (backTo cpos (starEach [] X.env)).any (·.1) = false := by rfl) :
    DE X ξ W (.Call (.Attribute o "append" apos) [a] [] cpos) (fMeth1 appK fo fa) :=
  PE.imp (pe_bm PySem.F.plainAttrs_list PySem.F.slot_list_append PySem.F.type_list_append mt_append ho ha hbase hfew hline hs hplain) (meth1_body md_app)
end
/-! ### defs -/
abbrev DFn := List Dv → Mm Dv
/-- what the def answers, as data -/
def spD (K : PySem.W.Frag) (mg : Str → Option Value) (n : Nat) (F : DFn) : Sp := fun vs H Q E => vs.length = n ∧ ∃ (w : Wd) (S : Store) (ds : List Dv) (r : Rs Dv), w.H = H ∧ SOk ⟨K, cOf mg⟩ w S ∧ RpAll ⟨K, cOf mg⟩ w vs ds ∧ F ds S = some r ∧
  PR ⟨K, cOf mg⟩ (fun cls d _ H => E cls d H) (Rp ⟨K, cOf mg⟩) w [] r Q
@[simp] def bodyF (n : Nat) (fb : FS) : DFn := fun ds S => match fb (ds.map some ++ List.replicate (n - ds.length) none) S with
  | some (.nx _ S') => some (.ok .non S')
  | some (.rt d S') => some (.ok d S')
  | some (.exc c fs _ S') => some (.exc c fs S')
  | _ => none
section
variable {X : Cx} {ξ : Iv} {W : WX} {G : Gp}
theorem start_ok {w : Wd} {N : List Str} {vs : List V} {ds : List Dv} (r : RpAll G w vs ds) : EOk G Iv.no w (L2.start N vs) (ds.map some ++ List.replicate (N.length - ds.length) none) := by
  have hl := r.length
  refine ⟨by unfold L2.start; simp [hl], fun i d h => ?_, True.intro⟩
  by_cases hi : i < ds.length
  · rw [List.getElem?_append_left (by simpa using hi), List.getElem?_map] at h
    cases e : ds[i]? with
    | none => rw [e] at h; cases h
    | some d' =>
      rw [e] at h
      cases h
      obtain ⟨v, h1, h2⟩ := r.get e
      refine ⟨v, ?_, h2⟩
      unfold L2.start
      rw [List.getElem?_append_left (by simp; omega), List.getElem?_map, h1]
      rfl
  · rw [List.getElem?_append_right (by simp; omega), List.getElem?_replicate] at h
    split at h <;> cases h
/-- the wish of a def's body -/
abbrev WD (E : XK) : WX := fun cls d _ H => E cls d H
variable {P : Program} {w0 : World} {K : PySem.W.Frag} {mg : Str → Option Value} {base : Heap}
theorem fn_ok {x qual : Str} {st : Stmt} {f : Addr} {fd : FuncData} {N ps : List Str} {k : Nat} {fb : FS} (F : Fun K x qual st f fd) (S : FnScope N ps (defScope st))
    (hbody : ∀ (cdv : Value) (A : Around) (outer : List Env) (s : Shared) (H : Hp) (E : XK), Room k (A.deeper (envOfC qual (defScope st) s.heap.objs.size f cdv)) →
      DSs (cxOf (L2.CX P w0) P w0 K mg base N qual (defScope st) f cdv A outer s H E) Iv.no (WD E) (defBody st) fb) :
    FnOk P w0 K mg base (L2.CX P w0) (k + 1) f fd ps (spD K mg ps.length (bodyF N.length fb)) := by
  refine F.okX S (fun vs H Q E h => h.1) fun cdv A outer s H vs Q E hr h => ⟨_, hbody cdv A outer s H E hr, ?_⟩
  obtain ⟨hl, w, S, ds, r, eH, hs, rv, hF, p⟩ := h
  unfold bodyF at hF
  cases hb : fb (ds.map some ++ List.replicate (N.length - ds.length) none) S with
  | none => rw [hb] at hF; cases hF
  | some r1 =>
    rw [hb] at hF
    refine ⟨w, _, S, r1, eH, hs, start_ok rv, hb, ?_⟩
    cases r1 with
    | nx env' S' =>
      cases hF
      exact fun σ' w' e s' _ => p .non w' e s' .non
    | rt d S' =>
      cases hF
      exact fun v w' e s' rv => p v w' e s' rv
    | exc c fs env' S' =>
      cases hF
      exact fun σ' dd fs' w' e s' _ hd hm hn hr => p dd fs' w' e s' hd hm hn hr
    | bk _ _ => cases hF
    | ct _ _ => cases hF
/-- another word for what is answered -/
theorem fn_as {f : Addr} {fd : FuncData} {ps : List Str} {k n : Nat} {F F' : DFn} (h : FnOk P w0 K mg base (L2.CX P w0) k f fd ps (spD K mg n F)) (e : ∀ ds S r, ds.length = n → F' ds S = some r → F ds S = some r) : FnOk P w0 K mg base (L2.CX P w0) k f fd ps (spD K mg n F') :=
  h.imp fun vs H Q E ⟨hl, w, S, ds, r, eH, hs, rv, hF, p⟩ => ⟨hl, w, S, ds, r, eH, hs, rv, e ds S r (by rw [← rv.length]; exact hl) hF, p⟩
/-- f(e, ..) -/
theorem d_call {f : Addr} {fd : FuncData} {ps : List Str} {k : Nat} {F : DFn} {x : Str} {e : Expr} {es : List Expr} {p pos : Pos} {fa : FA} (hF : FnOk X.prog X.w X.K X.mg X.base (L2.CX X.prog X.w) k f fd ps (spD X.K X.mg ps.length F)) (hr : Room k X.A) (hm : X.mg x = some (.ref f)) (hk : PySem.W.keepIn X.K (.ref f) = true) (hb : Binds X.K fd ps []) (tk : Takes X W)
    (ha : DA X ξ W (e :: es) fa) (hn : (e :: es).length = ps.length) (hg : Gl X x := by rfl) (hdb : (x == ("__debug__" : Str)) = false := by decide) (he : starEach (e :: es) X.env = (false, eval e X.env) :: starEach es X.env := by rfl) (hpl : (backTo pos (starEach es X.env)).any (·.1) = false := by rfl) :
    DE X ξ W (.Call (.Name x p) (e :: es) [] pos) (fCall (fun ds => if ds.length = ps.length then F ds else stuck) fa) :=
  PE.imp (pe_callS hF hr hg hm hk hb (fun σ => passAt tk σ) ha hdb he hpl) fun σ H Q ⟨w, env, S, res, eH, s, en, h, p⟩ => by
    subst eH
    refine seqR s en h p.px fun ds S1 vs w1 e1 s1 en1 r1 h1 => ?_
    by_cases z : ds.length = ps.length
    · rw [if_pos z] at h1
      refine ⟨by rw [r1.length]; exact z, w1, S1, ds, res, rfl, s1, r1, h1, ?_⟩
      have p1 := p.mono e1 s1
      cases res with
      | ok d S' => exact p1
      | exc c fs S' => exact fun dd fs' w' e s' hd hm hn hr => p1 dd fs' w' e s' hd hm hn hr
    · rw [if_neg z] at h1; cases h1
end
end FC

set_option Elab.async false
set_option linter.all false
set_option maxRecDepth 100000
set_option maxHeartbeats 2000000
namespace PySem
namespace SupX
open PySem.W PySem.Calls PyProof.Rows PySem.HandSPX
abbrev sArgs (fld : Str) (p1 p2 : Pos) : Arguments := { posonlyargs := [], args := [{ arg := "self", annotation := none, pos := p1 }, { arg := fld, annotation := none, pos := p2 }], vararg := none, kwonlyargs := [], kw_defaults := [], kwarg := none, defaults := [] }
abbrev sBody (fld : Str) (msg : Str) (a1 a2 a3 a4 a5 a6 q1 q2 q3 q4 : Pos) : List Stmt :=
  [.Expr (.Call (.Attribute (.Call (.Name "super" a1) [] [] a2) "__init__" a3) [.Constant (.str msg) 0 a4] [] a5) a6,
   .Assign [.Attribute (.Name "self" q1) fld q2] (.Name fld q3) q4]
abbrev sScope (fld : Str) : Scope := { kind := .function, names := [(PySem.Str.ofString "self", .local), (fld, .local), (PySem.Str.ofString "__class__", .free), (PySem.Str.ofString "super", .globalImplicit)], isGenerator := false, isCoroutine := false, more := [] }
/-- what the written part says of the class at C, its __init__ at fI -/
structure SupTxt (P : Program) (K : Frag) (mg : Str → Option Value) (name fld : Str) (C fI : Addr) : Prop where
  gC : mg name = some (.ref C)
  cls : ∃ nm q N bs bm sn sub ab col dd k0 k1 k2 k3 k5, K.lookup C = some (excClassObj nm q C N bs bm true sn sub ab col dd k0 k1 k2 k3 k5 "ValueError.__new__") ∧ refsVE bm = true
  sa : findIn K (.ref C) "__setattr__" = some (some (.builtin "object.__setattr__"))
  ga : findIn K (.ref C) "__getattribute__" = some (some (.builtin "BaseException.__getattribute__"))
  gg : findIn K (.ref C) "__getattr__" = some none
  noN : findIn K (.ref C) fld = some none
  iC : findIn K (.ref C) "__init__" = some (some (.ref fI))
  tC : typeIn K (.ref fI) = some (.type "function")
  kC : keepIn K (.ref C) = true
  exC : subIn K (.ref C) (.type "BaseException") = some true
  vC : subIn K (.ref C) (.type "ValueError") = some true
  tyC : typeIn K (.ref C) = some (.type "type")
  hdC : hasDictIn K C = true
  opq : nsIn K cStatics "thirdparty.any" = some none
  spI : ks_superIn K C C "__init__" = some (some (.builtin "ValueError.__init__"))
  spN : mg "super" = none
  top : (P.main.scope.names.lookup ("super" : Str)).isSome = false
  l1 : (sScope fld).names.lookup fld = some .local
  l2 : (sScope fld).names.lookup ("super" : Str) = some .globalImplicit
  l3 : (sScope fld).names.lookup ("__class__" : Str) = some .free
  l4 : (fld == ("__debug__" : Str)) = false
  l5 : (("self" : Str) == fld) = false
  fn : ∃ (qual msg : Str) (oc : Value) (od : Option Addr) (doc pm : Value) (an : Option Addr) (cda cc : Addr) (ct : Value) (osl : Array (Option Value)) (p1 p2 a1 a2 a3 a4 a5 a6 q1 q2 q3 q4 : Pos) (ccl cl : Value) (cdd cld : Option Addr) (vs : Array Value) (ccs csl : Array (Option Value)) (file : Str) (tf : Tok),
    K.lookup fI = some ⟨oc, od, .func (ksFn "__init__" qual (sArgs fld p1 p2) (sBody fld msg a1 a2 a3 a4 a5 a6 q1 q2 q3 q4) (sScope fld) .none .none doc pm an (.ref cda) ct cc), osl⟩ ∧ codeIn K (.ref cda) qual = true ∧
    K.lookup cda = some ⟨ccl, cdd, .fields vs, ccs⟩ ∧ vs[2]? = some (.str file tf) ∧ ((P.main.file : Str) == file) = true ∧ K.lookup cc = some ⟨cl, cld, .cell (some (.ref C)), csl⟩ ∧
    (∀ u v : Value, bindArgs (ksFn "__init__" qual (sArgs fld p1 p2) (sBody fld msg a1 a2 a3 a4 a5 a6 q1 q2 q3 q4) (sScope fld) .none .none doc pm an (.ref cda) ct cc) ⟨[u, v], []⟩ = pure [(PySem.Str.ofString "self", u), (fld, v)]) ∧
    ∃ pl : Sem Bool, ∀ L : Addr, eval (.Call (.Attribute (.Call (.Name "super" a1) [] [] a2) "__init__" a3) [.Constant (.str msg) 0 a4] [] a5) (ksEnv qual (sScope fld) L fI (.ref cda) cc) = (do
      let ov ← attributeBase (.Call (.Name "super" a1) [] [] a2) "__init__" (ksEnv qual (sScope fld) L fI (.ref cda) cc) (eval (.Call (.Name "super" a1) [] [] a2) (ksEnv qual (sScope fld) L fI (.ref cda) cc))
      standAt a3.atName
      let (f, first) ← holding [ov] (getMethod ov "__init__" pl)
      callWith a5 f first (backTo a5 (starEach [.Constant (.str msg) 0 a4] (ksEnv qual (sScope fld) L fI (.ref cda) cc))) [])
section
variable {prog : Program} {w : World} {A : Around} {E : Value → Shared → Prop} {h : Heap} {g : Array GenState} {d : Drawn} {t : Nat} {os : OsState}
variable {nm q : Str} {C N : Addr} {bs bm : List Value} {hdct : Bool} {sn : List Str} {sub : List Value} {ab : Bool} {col : Option Bool} {dd : Option Addr} {k0 k1 k2 k3 k5 : Option Value}
/-- the bound ValueError.__init__ called -/
theorem call_mw {u e t0 : Addr} {rest : List Value} {Q : Value → Shared → Prop}
    (hC : h.get? C = some (excClassObj nm q C N bs bm hdct sn sub ab col dd k0 k1 k2 k3 k5 "ValueError.__new__")) (he : h.get? e = some (HandSPX.excO C t0)) (hu : h.get? u = some (kxs_mw "ValueError.__init__" e)) (hrest : rest.length ≤ sizeLine)
    (hq : ∀ h' t1, (∀ b o, b ≠ e → h.get? b = some o → h'.get? b = some o) → h'.get? e = some (HandSPX.excO C t1) → Q .none ⟨h', g, d, t, os⟩) :
    wpAny (model prog w) A (call (.ref u) rest) Q E ⟨h, g, d, t, os⟩ := by
  refine wpAny_call (codeAny_of_tree ?_)
  show wpAny _ A.in1 (callAny (.ref u) ⟨rest, []⟩) _ _ _
  simp only [callAny]
  refine wpAny_bind (wpAny_load hu ?_)
  simp only [kxs_mw, show (Value.type "method-wrapper" == Value.type "method" || Value.type "method-wrapper" == Value.type "builtin_function_or_method" || Value.type "method-wrapper" == Value.type "method-wrapper") = true by decide, if_true]
  refine W.KFB.if_so (by decide) ?_
  refine wpAny_bind (ESX.check_bound F.excBase_ValueError hC he rfl ?_)
  refine wpAny_bind (wpAny_pure (wpAny_pure ?_))
  refine ⟨Code.quiet_builtin _ (by decide +kernel), codeAny_builtin F.excBase_ValueError.initEntry ?_⟩
  rw [Around.under_plainId F.excBase_ValueError.init.plain _]
  wp_walk
  refine hq _ h.objs.size (fun b o hb ho => ?_) ?_
  · rw [Heap.get?_update_other _ _ (Ne.symm hb)]
    exact Heap.get?_push_of_some _ ho
  · rw [Heap.get?_update_self _ (Heap.get?_push_of_some _ he) rfl]
    rfl
end
theorem callWith1 {M : Model} {A : Around} {E : Value → Shared → Prop} {s : Shared} {i : String} {u x : Addr} {pos : Pos} {env : Env} {e : Expr} {Q : Value → Shared → Prop}
    (h : wpAny M A (spliced (backTo pos (starEach [e] env))) (fun vs s₁ => KxsAt i u x s₁.heap ∧ wpAny M A (call (.ref u) vs) Q E s₁) E s)
    (he : starEach [e] env = [(false, eval e env)]) :
    wpAny M A (callWith pos (.ref u) [] (backTo pos (starEach [e] env)) []) Q E s := by
  rw [he] at h ⊢
  refine kxs_callWith (i := i) (x := x) rfl ?_
  exact evalArgs_plain h
theorem kept_but {K : Frag} {h h' : Heap} {x : Addr} (X : K.In h) (hx : K.lookup x = none) (k : ∀ b o, b ≠ x → h.get? b = some o → h'.get? b = some o) : K.In h' := fun a o e =>
  k a o (fun z => by rw [z, hx] at e; cases e) (X a o e)
/-- what __init__ leaves of a fresh exception at x -/
structure InitEnd (h h' : Heap) (fld : Str) (x C dx t1 : Addr) (v : Value) : Prop where
  keep : ∀ b o, b ≠ x → h.get? b = some o → h'.get? b = some o
  obj : h'.get? x = some { cls := .ref C, dict := some dx, data := .fields #[.ref t1, .none, .none, .none, .bool false, .none] }
  dbig : h.objs.size ≤ dx
  dne : dx ≠ x
  ns : h'.Ns1 dx (fun y => if y = fld then some v else none)
/-- a made exception -/
structure OwnMade (h h' : Heap) (fld : Str) (e C d : Addr) (v : Value) : Prop where
  keep : ∀ b o, h.get? b = some o → h'.get? b = some o
  new : h.objs.size ≤ e
  obj : ∃ oe vs, h'.get? e = some oe ∧ oe.cls = .ref C ∧ oe.dict = some d ∧ oe.data = .fields vs ∧ vs[1]? = some .none
  dbig : h.objs.size ≤ d
  dne : d ≠ e
  ns : h'.Ns1 d (fun y => if y = fld then some v else none)
section
variable {prog : Program} {w : World} {A : Around} {E : Value → Shared → Prop} {R : Result → Shared → Prop} {s : Shared} {K : Frag} {mg mb : Str → Option Value} {name fld : Str} {C fI : Addr}
theorem sup_init (T : SupTxt prog K mg name fld C fI) {x t0 : Addr} {v : Value} (X : K.In s.heap) (hG : s.heap.Ns mainGlobals mg) (hB : s.heap.Ns builtinsNs mb) (hb : ∀ x : Str, x ≠ "__name__" → mb x = bootBuiltins x) (hlim : s.heap.NoLimit) (hx : s.heap.get? x = some (excO C t0)) (hnx : K.lookup x = none) (hroom : A.depth < recursionLimit)
    (hq : ∀ h' tk dx t1, InitEnd s.heap h' fld x C dx t1 v → R (.ok (.ret .none)) { s with heap := h', toks := tk }) :
    codeAny (model prog w) A (.call (.ref fI) ⟨[.ref x, v], []⟩) R s := by
  obtain ⟨qual, msg, oc, od, doc, pm, an, cda, cc, ct, osl, p1, p2, a1, a2, a3, a4, a5, a6, q1, q2, q3, q4, ccl, cl, cdd, cld, vs, ccs, csl, file, tf, ho, hcd, hcode, hvs, hfile, hcell, hbind, pl, hev⟩ := T.fn
  obtain ⟨nm, q, N, bs, bm, sn, sub, ab, col, dd, k0, k1, k2, k3, k5, hC, hbm⟩ := T.cls
  have hcl : clsIn K C = some { name := nm, bases := bs, mro := .ref C :: bm, ns := N, qualname := q, hasDict := true, slotNames := sn, subclasses := sub, abstract := ab, collection := col, hasDel := false } := by unfold clsIn; rw [hC] <;> rfl
  have lself : (sScope fld).names.lookup ("self" : Str) = some .local := by rfl
  have lfld := T.l1
  have lsup := T.l2
  have lcls := T.l3
  have hxL : s.heap.objs.size ≠ x := Nat.ne_of_gt (Heap.lt_size hx)
  refine ks_codeAny_call_defAt (binds := [(PySem.Str.ofString "self", .ref x), (fld, v)]) hroom (X _ _ ho) rfl hlim (codeRec_of X hcd) rfl (BindsTo.of_eq (hbind _ _)) (fun y hy => ?_) (fun y hy => ?_) (fun h₁ hn k => ?_) rfl rfl rfl
  · have hy' : y = (PySem.Str.ofString "self", NameKind.local) ∨ y = (fld, NameKind.local) ∨ y = (PySem.Str.ofString "__class__", NameKind.free) ∨ y = (PySem.Str.ofString "super", NameKind.globalImplicit) := by simpa using hy
    rcases hy' with e | e | e | e <;> (rw [e]; intro z; cases z)
  · have hy' : y = (PySem.Str.ofString "self", Value.ref x) ∨ y = (fld, v) := by simpa using hy
    rcases hy' with e | e
    · rw [e]; exact lself
    · rw [e]; exact lfld
  · have X₁ : K.In h₁ := X.keeps k
    have hx₁ := k _ _ hx
    have hC₁ := X₁ _ _ hC
    have mself : (fun y => List.lookup y [(PySem.Str.ofString "self", Value.ref x), (fld, v)].reverse) ("self" : Str) = some (.ref x) := by
      show List.lookup ("self" : Str) [(fld, v), (PySem.Str.ofString "self", Value.ref x)] = _
      rw [List.lookup_cons, show ((PySem.Str.ofString "self") == fld) = false from T.l5]
      rfl
    have mfld : (fun y => List.lookup y [(PySem.Str.ofString "self", Value.ref x), (fld, v)].reverse) fld = some v := by
      show List.lookup fld [(fld, v), (PySem.Str.ofString "self", Value.ref x)] = _
      rw [List.lookup_cons, beq_self_eq_true]
    show _root_.PySem.wpAt _ _ _ (execs (sBody fld msg a1 a2 a3 a4 a5 a6 q1 q2 q3 q4) (ksEnv qual (sScope fld) s.heap.objs.size fI (.ref cda) cc)) _ _ _
    refine ks_wpAt_execs_cons (ks_wpAt_Expr_any (ks_wpAt_MethodCall ?_ (hev _)) (by rfl) (by rfl))
    refine ks_wpAt_super_base (env := ksEnv qual (sScope fld) s.heap.objs.size fI (.ref cda) cc) lsup lcls (by decide) rfl (X₁ _ _ ho) rfl rfl rfl (X₁ _ _ hcode) rfl hvs hfile T.top ?_
    refine ks_loadName_global rfl lsup (loadGlobal_builtin (env := ksEnv qual (sScope fld) s.heap.objs.size fI (.ref cda) cc) (hG.keeps k) T.spN (hB.keeps k) ((hb "super" (by decide)).trans (by decide +kernel)) ⟨rfl, ?_⟩)
    refine wpAny_loadName_free rfl lcls rfl ⟨_, X₁ _ _ hcell, rfl⟩ ?_
    refine wpAny_loadName_local rfl lself hn mself ?_
    refine ks_wpAny_isType_cls hC₁ rfl ⟨rfl, ?_⟩
    have hsub : mroIn K C (.ref C) = some true := by
      unfold mroIn
      rw [hcl, Option.bind_some]
      simp
    refine ks_wpAny_call_super hC₁ rfl hx₁ rfl (fun c e => nomatch e) (looks_mroIn X₁ hsub) (fun h₂ e₂ k₂ => ?_)
    have X₂ : K.In h₂ := X₁.keeps k₂
    have hx₂ := k₂ _ _ hx₁
    have I₂ : InstAt h₂ x (excO C t0) C none := ⟨hx₂, rfl, rfl, trivial⟩
    have hf : alongIn K "__init__" (((Value.ref C :: bm).dropWhile (· != .ref C)).drop 1) = some (some (.builtin "ValueError.__init__")) := by
      have q := T.spI
      unfold ks_superIn at q
      rw [hcl] at q
      exact q
    have hne : x ≠ C := ks_ne X₂ I₂ hcl
    refine kxs_getMethod kxs_ValueError (so := h₁.objs.size) (D := C) e₂ (looks_opaque X₂ T.opq) (l₀ := .ref C :: bm) (fun A Q E s k q => wpAny_bind ((looks_clsIn X₂ hcl) A _ E s k (wpAny_pure q))) rfl X₂ hf (I₂.type.andThen (looks_subIn X₂ T.vC)) hne (by decide) ?_
    refine callWith1 (i := "ValueError.__init__") (x := x) ?_ rfl
    show wpAny _ _ (spliced ((false, eval (.Constant (.str msg) 0 a4) (ksEnv qual (sScope fld) s.heap.objs.size fI (.ref cda) cc)) :: backTo a5 [])) _ _ _
    refine Calls.spliced_cons (Calls.Constant_str (Calls.spliced_nil ⟨?_, ?_⟩))
    · exact Heap.get?_push_at rfl rfl
    · have k₃ : ∀ b o, h₂.get? b = some o → (h₂.push (kxs_mw "ValueError.__init__" x)).get? b = some o := fun b o e => Heap.get?_push_of_some _ e
      have X₃ : K.In (h₂.push (kxs_mw "ValueError.__init__" x)) := X₂.keeps k₃
      refine call_mw (t0 := t0) (X₃ _ _ hC) (k₃ _ _ hx₂) (Heap.get?_push_at rfl rfl) (by rw [sizeLine_eq]; exact (by decide : 1 ≤ 16777216)) fun h₄ t1 k₄ hx₄ => ?_
      have X₄ : K.In h₄ := kept_but X₃ hnx k₄
      have old : ∀ b o, b ≠ x → s.heap.get? b = some o → h₄.get? b = some o := fun b o hb e => k₄ b o hb (k₃ b o (k₂ b o (k b o e)))
      have hn₄ : h₄.Ns s.heap.objs.size fun y => List.lookup y [(PySem.Str.ofString "self", Value.ref x), (fld, v)].reverse := by
        obtain ⟨oL, es, ep, hL, r⟩ := hn
        exact ⟨oL, es, ep, k₄ _ _ hxL (k₃ _ _ (k₂ _ _ hL)), r⟩
      refine ks_wpAt_execs_cons (ks_wpAt_Assign_Attr ?_ (by rfl))
      refine wpAt_of_wpAny (wpAny_Name (wpAny_loadName_local rfl lfld hn₄ mfld ?_) T.l4)
      refine wpAny_Name (wpAny_loadName_local rfl lself hn₄ mself ?_) (by decide)
      refine set_plain X₄ (ox := excO C t1) (od := none) ⟨hx₄, rfl, rfl, trivial⟩ T.sa ?_
      refine exc_osa X₄ hx₄ hcl (show refsVE (.ref C :: bm) = true from hbm) rfl T.noN (fun h₅ tk₅ dx k₅ dn dne hx₅ hn₅ => ?_)
      refine wpAt_of_wpAny (wpAny_execs_nil ?_)
      refine hq h₅ tk₅ dx t1 ⟨fun b o hb e => k₅ b o hb (old b o hb e), hx₅, ?_, dne, hn₅⟩
      obtain ⟨oL, es, ep, hL, _⟩ := hn₄
      exact Nat.le_trans (Nat.le_of_lt (Heap.lt_size hL)) dn
theorem sup_made (T : SupTxt prog K mg name fld C fI) {v : Value} (X : K.In s.heap) (hG : s.heap.Ns mainGlobals mg) (hB : s.heap.Ns builtinsNs mb) (hb : ∀ x : Str, x ≠ "__name__" → mb x = bootBuiltins x) (hlim : s.heap.NoLimit) (hroom : A.depth + 1 < recursionLimit)
    (hq : ∀ h' tk e d, OwnMade s.heap h' fld e C d v → R (.ok (.ret (.ref e))) { s with heap := h', toks := tk }) :
    codeAny (model prog w) A (.call (.ref C) ⟨[v], []⟩) R s := by
  obtain ⟨nm, q, N, bs, bm, sn, sub, ab, col, dd, k0, k1, k2, k3, k5, hC, hbm⟩ := T.cls
  obtain ⟨hp, g, dr, tk, os⟩ := s
  have k : ∀ b o, hp.get? b = some o → ((hp.push (kdv_tup [v])).push (excO C hp.objs.size)).get? b = some o := fun b o e => Heap.get?_push_of_some _ (Heap.get?_push_of_some _ e)
  have hget : ((hp.push (kdv_tup [v])).push (excO C hp.objs.size)).get? (hp.objs.size + 1) = some (excO C hp.objs.size) := by heap_get
  have hnx : K.lookup (hp.objs.size + 1) = none := by
    cases e : K.lookup (hp.objs.size + 1) with
    | none => rfl
    | some o =>
      have z : hp.get? (hp.objs.size + 1) = some o := X _ _ e
      exact absurd (Nat.lt_of_succ_lt (Heap.lt_size z)) (Nat.lt_irrefl _)
  refine call_own F.excBase_ValueError (fun X => refsVE_contains X bm hbm) (X _ _ hC) (looks_findIn X T.iC) (fun self => bind_fn X self T.tC) (by rw [sizeLine_eq]; exact (by decide : 1 ≤ 16777216)) ?_
  refine sup_init (s := ⟨(hp.push (kdv_tup [v])).push (excO C hp.objs.size), g, dr, tk, os⟩) T (X.keeps k) (hG.keeps k) (hB.keeps k) hb (hlim.keeps k) hget hnx ?_ fun h' tk' dx t1 ⟨k', hx, dn, dne, hns⟩ => ?_
  · show A.depth + 1 < recursionLimit
    exact hroom
  · have old : ∀ b o, hp.get? b = some o → h'.get? b = some o := fun b o e => k' b o (Nat.ne_of_lt (Nat.lt_succ_of_lt (Heap.lt_size e))) (k b o e)
    have z : hp.objs.size + 1 + 1 ≤ dx := by
      first
        | (simpa only [Heap.size_push] using dn)
        | exact dn
        | (have q := dn; rw [Heap.size_push, Heap.size_push] at q; exact q)
    exact ⟨rfl, hq h' tk' (hp.objs.size + 1) dx ⟨old, Nat.le_succ _, ⟨_, _, hx, rfl, rfl, rfl, rfl⟩, Nat.le_trans (Nat.le_trans (Nat.le_succ _) (Nat.le_succ _)) z, dne, hns⟩⟩
end
end SupX
end PySem

set_option Elab.async false
set_option linter.all false
set_option maxRecDepth 100000
set_option maxHeartbeats 2000000
namespace FC
open PySem PySem.Spec L2
open PySem.SupX (SupTxt)
theorem relO_one {v : V} {v' : Value} {fld : Str} (r : RelV v v') (f : Str) : RelO (List.lookup f [(fld, v)]) (if f = fld then some v' else none) := by
  by_cases hw : f = fld
  · subst hw
    rw [if_pos rfl]
    have q : List.lookup f [(f, v)] = some v := by simp [List.lookup]
    rw [q]
    exact r
  · rw [if_neg hw]
    have qw : (f == fld) = false := by simpa using hw
    have q2 : List.lookup f [(fld, v)] = none := by simp [List.lookup, qw]
    rw [q2]
    trivial
section
variable {X : Cx} {ξ : Iv} {W : WX} {G : Gp} {name fld : Str} {C fI : Addr}
def tMkSup (C : Addr) (fld : Str) (ta : TA) : L2.St → Hp → XK → Prop := fun σ H Q => ta σ H fun vs H1 => ∃ v, vs = [v] ∧ ∀ d, H1 d = none → Q (.ref C) (some d) (upd H1 d (.xd [(fld, v)]))
theorem pmk_sup {a : Expr} {ta : TA} {p pos : Pos} {k : Nat} (T : SupTxt X.prog X.K X.mg name fld C fI) (hr : Room k X.A) (ha : PA X [a] ta) (hg : Gl X name := by rfl) (hdb : (name == ("__debug__" : Str)) = false := by decide)
    (he : starEach (a :: []) X.env = (false, eval a X.env) :: starEach [] X.env := by rfl) (hpl : (backTo pos (starEach [] X.env)).any (·.1) = false := by rfl) :
    PMk X (.Call (.Name name p) [a] [] pos) (tMkSup C fld ta) := by
  intro pins s σ H Q I h
  refine wpAny_Call_Name_kw (ld_glob I hg T.gC ?_ hdb)
  refine PySem.W.callWith_K (h₀ := X.base) I.ok.mod.kin T.kC (thn (ha.run pos pins s σ H _ I h) fun us s1 hh => ?_) he hpl
  obtain ⟨vs, H1, I1, r1, v, ev, q1⟩ := hh
  subst ev
  refine ⟨I1.kIn, ?_⟩
  cases r1 with
  | cons rv rn =>
    rename_i v' us'
    cases rn
    show wpAny _ _ (call (.ref C) [v']) _ _ _
    have hlim := I1.nolimit
    obtain ⟨mb, hb1, hb2⟩ := I1.mod.blt
    have hG : s1.heap.Ns mainGlobals X.mg := I1.mod.glob.keeps I1.bk
    have hB : s1.heap.Ns builtinsNs mb := hb1.keeps I1.bk
    obtain ⟨hp, g, d, t, os⟩ := s1
    refine wpAny_call (PySem.SupX.sup_made T I1.kIn hG hB hb2 hlim (by have := hr.dp; omega) fun h' tk' e d M => ?_)
    show MkP X pins σ Q (.ref e) ⟨h', g, _, tk', os⟩
    obtain ⟨oe, fv, hoe, hc, hd, hdat, h1⟩ := M.obj
    have hns := M.ns
    obtain ⟨G', g1, g2⟩ := restrict h' fun b => decide (b ≠ e)
    have gk : ∀ b, b ≠ e → G'.get? b = h'.get? b := fun b hb => g1 b (decide_eq_true hb)
    have ge : G'.get? e = none := g2 e (by simp)
    have old : ∀ b o, hp.get? b = some o → G'.get? b = some o := fun b o q => (gk b (Nat.ne_of_lt (Nat.lt_of_lt_of_le (Heap.lt_size q) M.new))).trans (M.keep b o q)
    have ob : ObjOk X.prog X.w (upd H1 d (.xd [(fld, v)])) G' d (.xd [(fld, v)]) :=
      ⟨_, hns.at (fun o q => (gk d M.dne).trans q), fun f => relO_one rv f⟩
    have J : Inv X pins σ (upd H1 d (.xd [(fld, v)])) ⟨G', g, _, tk', os⟩ := I1.laid (t' := tk') old M.dbig ob
    refine ⟨e, oe, fv, ⟨G', g, _, tk', os⟩, _, .ref C, some d, rfl, J, fun b o q => ?_, ge, hoe, ⟨hc, hd⟩, hdat, h1, ?_, rfl, I1.bare, raises_own T.exC T.tyC, q1 d (I1.hok.fresh M.dbig)⟩
    · by_cases hb : b = e
      · have q' : G'.get? b = some o := q
        rw [hb, ge] at q'; cases q'
      · exact (gk b hb).symm.trans q
    · rw [upd_ne (Ne.symm M.dne)]
      exact I1.hok.fresh M.new
/-- raise C(e) -/
def sRaise (name : Str) (flds : List Str) (fa : FA) : FS := sBnd fa fun ds env S => if ds.length = flds.length then some (.exc name (flds.zip ds) env S) else none
theorem s_raise1 {a : Expr} {fa : FA} {p pos pos2 : Pos} {k : Nat} (hc : X.calm = true) (T : SupTxt X.prog X.K X.mg name fld C fI) (hr : Room k X.A) (tk : Takes X W) (ha : DA X ξ W [a] fa) (hg : Gl X name := by rfl) (hdb : (name == ("__debug__" : Str)) = false := by decide)
    (he : starEach (a :: []) X.env = (false, eval a X.env) :: starEach [] X.env := by rfl) (hpl : (backTo pos (starEach [] X.env)).any (·.1) = false := by rfl) :
    DS X ξ W (.Raise (some (.Call (.Name name p) [a] [] pos)) none pos2) (sRaise name [fld] fa) :=
  PS.imp (ps_raise hc tk (pmk_sup T hr ha hg hdb he hpl)) fun D σ H ⟨w, env, S, r, eH, s, en, h, p⟩ => by
    subst eH
    refine seqS s en h p.px fun ds S1 vs w1 e1 s1 en1 r1 h1 => ?_
    have h1' : (if ds.length = 1 then some (Rf.exc name ([fld].zip ds) env S1) else none) = some r := h1
    by_cases z : ds.length = 1
    · rw [if_pos z] at h1'
      cases h1'
      match ds, z with
      | [d], _ =>
        obtain ⟨v, rfl, hv⟩ := rp1 r1
        have eC : (gp X).cA name = C := by
          show cOf X.mg name = C
          unfold cOf
          rw [T.gC]
        refine ⟨v, rfl, fun dd hdd => ?_⟩
        have q := p σ dd [(fld, v)] (w1.put dd (.xd [(fld, v)])) (e1.trans (.put hdd)) (s1.put hdd) ((en1.mono (.put hdd))) upd_same (s1.fresh hdd) rfl (.cons (hv.mono (.put hdd)) .nil)
        rw [eC] at q
        exact q
    · rw [if_neg z] at h1'
      cases h1'
end
end FC

set_option Elab.async false
set_option linter.all false
set_option maxRecDepth 100000
set_option maxHeartbeats 2000000
namespace FC
open PySem PySem.Spec L2
section
variable {X : Cx} {ξ : Iv} {W : WX} {G : Gp}
/-! ### try .. except C as n -/
def XdOk (G : Gp) (w : Wd) (dd : Addr) (flds : List (Str × Dv)) : Prop := ∃ fs', w.H dd = some (.xd fs') ∧ ¬ w.M dd ∧ fs'.map Prod.fst = flds.map Prod.fst ∧ RpAll G w (fs'.map Prod.snd) (flds.map Prod.snd)
theorem XdOk.mono {w w' : Wd} {dd : Addr} {flds : List (Str × Dv)} (e : Ext w w') (h : XdOk G w dd flds) : XdOk G w' dd flds := by
  obtain ⟨fs', h1, h2, h3, h4⟩ := h
  exact ⟨fs', e.keep _ _ (fun z => h2 (.inr z)) h1, e.nM _ _ h1 h2, h3, h4.mono e⟩
def Ix (G : Gp) (i : Nat) (a dd : Addr) (flds : List (Str × Dv)) : Iv := ⟨fun w σ => σ[i]? = some (some (.ref a)) ∧ XdOk G w dd flds, fun j => j ≠ i, fun w w' σ e h => ⟨h.1, h.2.mono e⟩, fun w σ j v hj h => ⟨by rw [List.getElem?_set_ne hj]; exact h.1, h.2⟩⟩
@[simp] def erase (i : Nat) : Option Rf → Option Rf
  | some (.nx env S) => some (.nx (env.set i none) S)
  | some (.rt d S) => some (.rt d S)
  | some (.bk env S) => some (.bk (env.set i none) S)
  | some (.ct env S) => some (.ct (env.set i none) S)
  | _ => none
@[simp] def sTryAs (fb : FS) (cn : Str → Option Bool) (i : Nat) (fsu : Str → List (Str × Dv) → FS) : FS := fun env S => match fb env S with
  | some (.exc c flds env1 S1) => match cn c with
    | some true => if i < env1.length then erase i (fsu c flds (env1.set i none) S1) else none
    | some false => some (.exc c flds env1 S1)
    | none => none
  | r => r
theorem EOk.unset {I : Iv} {w : Wd} {σ : L2.St} {env : DEnv} {i : Nat} {o : Option V} (h : EOk G I w σ env) : EOk G Iv.no w (σ.set i o) (env.set i none) := ⟨by simp [h.len], fun j d q => by
  by_cases z : i = j
  · subst z
    rw [List.getElem?_set_self'] at q
    cases e : env[i]? with
    | none => rw [e] at q; cases q
    | some o => rw [e] at q; cases q
  · rw [List.getElem?_set_ne z] at q
    obtain ⟨u, h1, h2⟩ := h.get j d q
    exact ⟨u, by rw [List.getElem?_set_ne z]; exact h1, h2⟩, True.intro⟩
theorem s_try_as {x n : Str} {c : Value} {i : Nat} {body suite : List Stmt} {b₀ : Stmt} {np pos pos' : Pos} {fb : FS} {cn : Str → Option Bool} {fsu : Str → List (Str × Dv) → FS}
    (hN : X.N.Nodup) (hc : Names X x c) (tk : Takes X W)
    (hb : ∀ (W' : WX) (pn : List (Addr × Obj)) (xe : Value → Shared → Prop), Takes (X.tr pn xe) W' → PassesOwn (model X.prog X.w) X.A X.env xe → DSs (X.tr pn xe) Iv.no W' body fb)
    (hcn : ∀ c' b, cn c' = some b → PySem.W.exmOne X.K (.ref (cOf X.mg c')) c = some b)
    (hsu : ∀ (a : Addr) (oe : Obj) (dd : Addr) (c' : Str) (flds : List (Str × Dv)) (pn : List (Addr × Obj)), cn c' = some true → Zc (.ref (cOf X.mg c')) (some dd) oe → (∃ vs, oe.data = .fields vs) → DSs (X.suite a ((a, oe) :: pn)) (Ix (gp X) i a dd flds) W0 (b₀ :: suite) (fsu c' flds))
    (hs : X.stack = X.env :: X.outer := by rfl) (hf : X.env.frame = some X.env.locals := by rfl) (hi : X.N[i]? = some n := by rfl) (hln : X.env.kindOf n = some .local := by rfl) :
    DS X Iv.no W (.Try body [.ExceptHandler (some (.Name x np)) (some n) (b₀ :: suite) pos'] [] [] pos) (sTryAs fb cn i fsu) := by
  refine PS.imp (ps_try_as (Wout := W) (tb := fun W' => tF (gp X) Iv.no W' fb) (ts := fun a cls d D σ H => ∃ (c' : Str) (flds : List (Str × Dv)) (dd : Addr), cls = .ref (cOf X.mg c') ∧ d = some dd ∧ cn c' = some true ∧ tF (gp X) (Ix (gp X) i a dd flds) W0 (fsu c' flds) D σ H)
    hs hf hN hi hln hc tk hb (fun a oe cls d pn hz hv => ⟨fun pins s σ H D I h => ?_⟩)) fun D σ H ⟨w, env, S, r, eH, s, en, h, p⟩ => ?_
  · obtain ⟨c', flds, dd, rfl, rfl, hct, h⟩ := h
    exact (hsu a oe dd c' flds pn hct hz hv).run pins s σ H D I h
  · subst eH
    unfold sTryAs at h
    cases h1 : fb env S with
    | none => rw [h1] at h; cases h
    | some r1 =>
      rw [h1] at h
      refine ⟨w, env, S, r1, rfl, s, en, h1, ?_⟩
      cases r1 with
      | nx env1 S1 => cases h; exact p
      | rt d S1 => cases h; exact p
      | bk env1 S1 => cases h; exact p
      | ct env1 S1 => cases h; exact p
      | exc c' flds env1 S1 =>
        intro σ' dd fs' w' e' s' en' hd hm hn hr
        have h2 : (match cn c' with | some true => if i < env1.length then erase i (fsu c' flds (env1.set i none) S1) else none | some false => some (.exc c' flds env1 S1) | none => none) = some r := h
        cases hb' : cn c' with
        | none => rw [hb'] at h2; cases h2
        | some b =>
          rw [hb'] at h2
          refine ⟨b, hcn c' b hb', fun hbt a ha => ?_, fun hbf => ?_⟩
          · subst hbt
            have h3 : (if i < env1.length then erase i (fsu c' flds (env1.set i none) S1) else none) = some r := h2
            by_cases hil : i < env1.length
            · rw [if_pos hil] at h3
              refine ⟨c', flds, dd, rfl, rfl, hb', ?_⟩
              cases h4 : fsu c' flds (env1.set i none) S1 with
              | none => rw [h4] at h3; cases h3
              | some r4 =>
                rw [h4] at h3
                have q := en'.unset (i := i) (o := some (.ref a))
                refine ⟨w', env1.set i none, S1, r4, rfl, s', ⟨q.len, q.get, ?_, fs', hd, hm, hn, hr⟩, h4, ?_⟩
                · rw [List.getElem?_set_self (by rw [en'.len]; exact hil)]
                · cases r4 with
                  | nx env5 S5 =>
                    cases h3
                    exact fun σ5 w5 e5 s5 en5 => p _ w5 (e'.trans e5) s5 en5.unset
                  | rt d5 S5 =>
                    cases h3
                    exact fun v w5 e5 s5 r5 => p v w5 (e'.trans e5) s5 r5
                  | bk env5 S5 =>
                    cases h3
                    exact fun σ5 w5 e5 s5 en5 => p _ w5 (e'.trans e5) s5 en5.unset
                  | ct env5 S5 =>
                    cases h3
                    exact fun σ5 w5 e5 s5 en5 => p _ w5 (e'.trans e5) s5 en5.unset
                  | exc _ _ _ _ => cases h3
            · rw [if_neg hil] at h3; cases h3
          · subst hbf
            cases h2
            exact p σ' dd fs' w' e' s' en' hd hm hn hr
/-! ### the caught exception -/
variable {a dd : Addr} {oe : Obj} {pn : List (Addr × Obj)} {c : Str} {flds : List (Str × Dv)} {i : Nat}
theorem fld_at {w : Wd} {f : Str} {d : Dv} : ∀ {fs' : List (Str × V)} {flds : List (Str × Dv)}, fs'.map Prod.fst = flds.map Prod.fst → RpAll G w (fs'.map Prod.snd) (flds.map Prod.snd) → flds.lookup f = some d → ∃ v, fs'.lookup f = some v ∧ Rp G w v d
  | [], [], _, _, h => by cases h
  | [], _ :: _, h, _, _ => by cases h
  | _ :: _, [], h, _, _ => by cases h
  | (g, v) :: fs', (g', d') :: flds, hn, hr, h => by
    have e1 : g = g' ∧ fs'.map Prod.fst = flds.map Prod.fst := by simpa using hn
    obtain ⟨rfl, hn'⟩ := e1
    have hr' : RpAll G w (v :: fs'.map Prod.snd) (d' :: flds.map Prod.snd) := hr
    cases hr' with
    | cons hv hrr =>
      rw [List.lookup_cons] at h ⊢
      cases q : (f == g) with
      | true =>
        rw [q] at h
        cases h
        exact ⟨v, rfl, hv⟩
      | false =>
        rw [q] at h
        exact fld_at hn' hrr h
@[simp] def fXf (flds : List (Str × Dv)) (f : Str) : FE := fun _ => ofO (flds.lookup f)
/-- e.f -/
theorem d_xf {x f : Str} {p pos : Pos} (T : XfC X.K (cOf X.mg c)) (hno : PySem.W.findIn X.K (.ref (cOf X.mg c)) f = some none) (hz : Zc (.ref (cOf X.mg c)) (some dd) oe) (hf : ∃ vs, oe.data = .fields vs)
    (hN : X.N[i]? = some x := by rfl) (hv : Vis X.env.scope x := by first | exact Or.inl rfl | exact Or.inr (Or.inl rfl) | exact Or.inr (Or.inr rfl)) (hd : (x == ("__debug__" : Str)) = false := by decide) (hcd : (x == ("__classdict__" : Str)) = false := by decide) (hb : attributeBase (.Name x p) f X.env (eval (.Name x p) X.env) = eval (.Name x p) X.env := by rfl) :
    DE (X.suite a ((a, oe) :: pn)) (Ix (gp X) i a dd flds) W (.Attribute (.Name x p) f pos) (fXf flds f) :=
  PE.imp (pe_xf T hno hz hf (pe_var (i := i) hN hv hd hcd) hb) fun σ H Q ⟨w, env, S, r, eH, s, en, h, q⟩ => by
    subst eH
    obtain ⟨hsl, fs', h1, h2, h3, h4⟩ := en.inv
    obtain ⟨d, hd', rfl⟩ := ofO_some h
    obtain ⟨v, hv', rv⟩ := fld_at h3 h4 hd'
    exact ⟨.ref a, hsl, rfl, rfl, dd, fs', v, rfl, h1, hv', q.here s rv⟩
def rIsED (K : PySem.W.Frag) (D a dd : Addr) : List V → Hp → VK → Prop := fun xs H Q => ∃ (c : V) (cv : Value) (b : Bool) (fs : List (Str × V)), xs = [.ref a, c] ∧ (∀ u, RelV c u → u = cv) ∧ PySem.W.kitOne K (.ref D) cv = some b ∧ H dd = some (.xd fs) ∧ Q (.bl b) H
theorem call_isED {D : Addr} (C : ExcC X.K D) (hz : Zc (.ref D) (some dd) oe) (hf : ∃ vs, oe.data = .fields vs) : CallR (X.suite a ((a, oe) :: pn)) (.builtin "isinstance") (rIsED X.K D a dd) := by
  intro pins s σ H xs us Q I r h
  obtain ⟨c, cv, b, fs, rfl, hcv, e, hdd, q⟩ := h
  cases r with
  | cons rx rr =>
    cases rr with
    | cons rt rr =>
      cases rr
      cases rx
      have ec := hcv _ rt
      subst ec
      obtain ⟨hget, _⟩ := I.pin (a, oe) (List.mem_append.mpr (.inl List.mem_cons_self))
      obtain ⟨vs, hv⟩ := hf
      obtain ⟨mA, hns, _⟩ := (show ObjOk X.prog X.w H s.heap dd (.xd fs) from I.hok dd _ hdd)
      obtain ⟨od, ho, _⟩ := lookIn_ns hns
      have J : PySem.W.InstAt s.heap a oe D (some od) := by
        obtain ⟨oc, odc, oda, osl⟩ := oe
        obtain ⟨h1, h2⟩ := hz
        dsimp only at h1 h2 hv
        subst h1 h2 hv
        exact ⟨hget, rfl, rfl, ho⟩
      obtain ⟨cd, hcd, _⟩ := PySem.W.any_some C.hd
      exact PySem.W.kia_one (PySem.W.kitx_exc (by rw [hcd]; rfl) C.hg C.hk C.hs C.ha C.hn C.ht C.hm) I.kIn J e (fun z => nomatch z) fun tk => ⟨.bl b, H, I.kept (t' := tk) fun _ _ z => z, rfl, q⟩
/-- isinstance(e, D) -/
theorem d_isE {x : Str} {ce : Expr} {cvV : V} {cv : Value} {b : Bool} {p p2 pos : Pos} (C : ExcC X.K (cOf X.mg c)) (hz : Zc (.ref (cOf X.mg c)) (some dd) oe) (hf : ∃ vs, oe.data = .fields vs) (hm : X.mg "isinstance" = none) (hce : PE (X.suite a ((a, oe) :: pn)) ce (tC cvV)) (hcv : ∀ u, RelV cvV u → u = cv) (hk : PySem.W.kitOne X.K (.ref (cOf X.mg c)) cv = some b)
    (hv : bootBuiltins "isinstance" = some (.builtin "isinstance")) (hg : Gl X "isinstance" := by rfl) (hN : X.N[i]? = some x := by rfl) (hvi : Vis X.env.scope x := by first | exact Or.inl rfl | exact Or.inr (Or.inl rfl) | exact Or.inr (Or.inr rfl)) (hd : (x == ("__debug__" : Str)) = false := by decide) (hcd : (x == ("__classdict__" : Str)) = false := by decide)
    (he : starEach [.Name x p2, ce] X.env = (false, eval (.Name x p2) X.env) :: starEach [ce] X.env := by rfl) (he2 : starEach [ce] X.env = (false, eval ce X.env) :: starEach [] X.env := by rfl) (hpl : (backTo pos (starEach [ce] X.env)).any (·.1) = false := by rfl) :
    DE (X.suite a ((a, oe) :: pn)) (Ix (gp X) i a dd flds) W (.Call (.Name "isinstance" p) [.Name x p2, ce] [] pos) (fC (.bl b)) :=
  PE.imp (pe_callB (X := X.suite a ((a, oe) :: pn)) (call_isED C hz hf) hg hm hv (pa_cons (pe_var (X := X.suite a ((a, oe) :: pn)) (i := i) hN hvi hd hcd) (pa_cons hce pa_nil he2) he) (by decide) (by decide) he hpl) fun σ H Q ⟨w, env, S, r, eH, s, en, h, q⟩ => by
    subst eH
    cases h
    obtain ⟨hsl, fs', h1, h2, h3, h4⟩ := en.inv
    exact ⟨.ref a, hsl, cvV, cv, b, fs', rfl, hcv, hk, h1, q.here s (.bl b)⟩
/-! ### isinstance of data -/
@[simp] def tyOf (d : Dv) (S : Store) : Option String := match d with
  | .non => some "NoneType"
  | .bl _ => some "bool"
  | .int _ => some "int"
  | .str _ => some "str"
  | .tup _ => some "tuple"
  | .lst _ => some "list"
  | .dic _ => some "dict"
  | .dit _ => some "dict"
  | .obj n => match S[n]? with
    | some (.lst _) => some "list"
    | some (.dic _) => some "dict"
    | some (.dit _) => some "dict"
    | _ => none
  | _ => none
theorem tyX_of {w : Wd} {S : Store} {v : V} {d : Dv} {t : String} (s : SOk G w S) (r : Rp G w v d) (h : tyOf d S = some t) : TyX G.K w.H v (.type t) := by
  cases r with
  | non => cases h; exact .base .non
  | bl b => cases h; exact .base (.bl b)
  | int i => cases h; exact .base (.int i)
  | str x => cases h; exact .base (.str x)
  | tup ha _ =>
    cases h
    rcases ha with ⟨h | ⟨o, h⟩, _⟩ | ⟨o, its, n, h1, h2, _⟩
    · exact .base (.tup h)
    · exact .fTuple h
    · exact .kTuple h1 h2
  | lst ha _ =>
    cases h
    rcases ha with ⟨h | ⟨o, h⟩, _⟩ | ⟨o, its, n, h1, h2, _⟩
    · exact .base (.lst h)
    · exact .base (.frz h)
    · exact .kList h1 h2
  | dic ha _ _ _ => cases h; exact .base (.dK ha)
  | dit ha _ _ _ => cases h; exact .base (.dT ha)
  | ins _ _ _ _ => cases h
  | @obj a n ha =>
    dsimp only [tyOf] at h
    cases e : S[n]? with
    | none => rw [e] at h; cases h
    | some d =>
      rw [e] at h
      have m := s.cont n a d ha e
      cases d <;> first | (cases h; done) | skip
      · obtain ⟨xs, h1, _⟩ := m; cases h; exact .base (.lst h1)
      · obtain ⟨xs, h1, _⟩ := m; cases h; exact .base (.dK h1)
      · obtain ⟨xs, h1, _⟩ := m; cases h; exact .base (.dT h1)
/-- the types' names and a class asked for -/
@[simp] def isTy (t b : String) : Option Bool :=
  if b = "bool" then some (t == "bool") else if b = "int" then some (t == "int" || t == "bool") else if b = "str" then some (t == "str") else if b = "tuple" then some (t == "tuple") else if b = "list" then some (t == "list") else if b = "dict" then some (t == "dict") else none
def tyNames : List String := ["NoneType", "bool", "int", "str", "tuple", "list", "dict"]
theorem kit_all : ∀ b ∈ ["bool", "int", "str", "tuple", "list", "dict"], ∀ t ∈ tyNames, kitB t b = isTy t b := by decide +kernel
theorem tyOf_mem {d : Dv} {S : Store} {t : String} (h : tyOf d S = some t) : t ∈ tyNames := by
  unfold tyOf at h
  split at h <;> first | (cases h; decide) | skip
  · split at h <;> first | (cases h; decide) | (cases h; done)
  · cases h
@[simp] def fIsi (b : String) (fa : FE) : FE := fun env => bnd (fa env) fun x S => match tyOf x S with
  | some t => match isTy t b with
    | some r => some (.ok (.bl r) S)
    | none => none
  | none => none
theorem d_isi {b : String} {e : Expr} {fa : FE} {cx : Str} {p p2 pos : Pos} (ha : DE X ξ W e fa) (hm : X.mg "isinstance" = none) (hv : bootBuiltins "isinstance" = some (.builtin "isinstance")) (hmb : X.mg cx = none) (hvb : bootBuiltins cx = some (.type b)) (hb : b ∈ ["bool", "int", "str", "tuple", "list", "dict"])
    (hg : Gl X "isinstance" := by rfl) (hgb : Gl X cx := by rfl) (hn : cx ≠ "__name__" := by decide) (hdb : (cx == ("__debug__" : Str)) = false := by decide)
    (he : starEach [e, .Name cx p2] X.env = (false, eval e X.env) :: starEach [.Name cx p2] X.env := by rfl) (he2 : starEach [.Name cx p2] X.env = (false, eval (.Name cx p2) X.env) :: starEach [] X.env := by rfl) (hpl : (backTo pos (starEach [.Name cx p2] X.env)).any (·.1) = false := by rfl) :
    DE X ξ W (.Call (.Name "isinstance" p) [e, .Name cx p2] [] pos) (fIsi b fa) :=
  PE.imp (pe_callB call_isi hg hm hv (pa_cons ha (pa_cons (pe_bltn (v := .ty b) hgb hmb hvb rfl hn hdb) pa_nil he2) he) (by decide) (by decide) he hpl) fun σ H Q ⟨w, env, S, r, eH, s, en, h, q⟩ => by
    subst eH
    refine seqR s en h q.px fun x S1 v w1 e1 s1 en1 r1 h1 => ?_
    cases ht : tyOf x S1 with
    | none => rw [ht] at h1; cases h1
    | some t =>
      rw [ht] at h1
      have h1' : (match isTy t b with | some r => some (Rs.ok (Dv.bl r) S1) | none => none) = some r := h1
      cases hi : isTy t b with
      | none => rw [hi] at h1'; cases h1'
      | some bb =>
        rw [hi] at h1'
        cases h1'
        exact ⟨v, .ty b, .type t, .type b, bb, rfl, .ty b, tyX_of s1 r1 ht, kit_ty ((kit_all b hb t (tyOf_mem ht)).trans hi), q.ok_ e1 s1 (.bl bb)⟩
end
end FC

set_option Elab.async false
set_option linter.all false
set_option maxRecDepth 100000
namespace FC
open PySem PySem.Spec L2
open PyProof.Rows (envOfC)
/-! ### what a def has made for itself falls away -/
mutual
def noO : Dv → Bool
  | .non => true
  | .bl _ => true
  | .int _ => true
  | .str _ => true
  | .tup xs => noOs xs
  | .lst xs => noOs xs
  | .obj _ => false
  | .ins _ fs => noOf fs
  | .dic kvs => noOk kvs
  | .dit kvs => noOt kvs
def noOs : List Dv → Bool
  | [] => true
  | d :: r => noO d && noOs r
def noOf : List (Str × Dv) → Bool
  | [] => true
  | (_, d) :: r => noO d && noOf r
def noOk : List (Key × Dv) → Bool
  | [] => true
  | (_, d) :: r => noO d && noOk r
def noOt : List (List Key × Dv) → Bool
  | [] => true
  | (_, d) :: r => noO d && noOt r
end
theorem noOf_eq : ∀ fs : List (Str × Dv), noOf fs = noOs (fs.map Prod.snd)
  | [] => rfl
  | (_, d) :: r => by show (noO d && noOf r) = (noO d && noOs (r.map Prod.snd)); rw [noOf_eq r]
theorem noOk_eq : ∀ fs : List (Key × Dv), noOk fs = noOs (fs.map Prod.snd)
  | [] => rfl
  | (_, d) :: r => by show (noO d && noOk r) = (noO d && noOs (r.map Prod.snd)); rw [noOk_eq r]
theorem noOt_eq : ∀ fs : List (List Key × Dv), noOt fs = noOs (fs.map Prod.snd)
  | [] => rfl
  | (_, d) :: r => by show (noO d && noOt r) = (noO d && noOs (r.map Prod.snd)); rw [noOt_eq r]
theorem noOs_ints : ∀ ns : List Int, noOs (ns.map Dv.int) = true
  | [] => rfl
  | n :: ns => by show (true && noOs (ns.map Dv.int)) = true; rw [noOs_ints ns]; rfl
/-- names may be forgotten -/
structure Dr (w w' : Wd) : Prop where
  H : w'.H = w.H
  M : ∀ a, w'.M a → w.M a
mutual
theorem Rp.dr {G : Gp} {w w' : Wd} (e : Dr w w') : ∀ {v : V} {d : Dv}, Rp G w v d → noO d = true → Rp G w' v d
  | _, _, .non, _ => .non
  | _, _, .bl b, _ => .bl b
  | _, _, .int i, _ => .int i
  | _, _, .str x, _ => .str x
  | _, _, .tup h r, n => .tup (by
      rcases h with h | h
      · exact .inl ⟨by rw [e.H]; exact h.1, fun z => h.2 (e.M _ z)⟩
      · exact .inr h) (RpAll.dr e r n)
  | _, _, .lst h r, n => .lst (by
      rcases h with h | h
      · exact .inl ⟨by rw [e.H]; exact h.1, fun z => h.2 (e.M _ z)⟩
      · exact .inr h) (RpAll.dr e r n)
  | _, _, .obj h, n => Bool.noConfusion n
  | _, _, .ins h m q r, n => .ins (by rw [e.H]; exact h) (fun z => m (e.M _ z)) q (RpAll.dr e r (by rw [← noOf_eq]; exact n))
  | _, _, .dic h m q r, n => .dic (by rw [e.H]; exact h) (fun z => m (e.M _ z)) q (RpAll.dr e r (by rw [← noOk_eq]; exact n))
  | _, _, .dit h m q r, n => .dit (by rw [e.H]; exact h) (fun z => m (e.M _ z)) q (RpAll.dr e r (by rw [← noOt_eq]; exact n))
theorem RpAll.dr {G : Gp} {w w' : Wd} (e : Dr w w') : ∀ {vs : List V} {ds : List Dv}, RpAll G w vs ds → noOs ds = true → RpAll G w' vs ds
  | _, _, .nil, _ => .nil
  | _, _, .cons h r, n => .cons (Rp.dr e h (Bool.and_eq_true_iff.mp n).1) (RpAll.dr e r (Bool.and_eq_true_iff.mp n).2)
end
theorem MOk.dr {G : Gp} {w w' : Wd} (e : Dr w w') {a : Addr} {d : Dv} (h : MOk G w a d) (n : noO d = true) : MOk G w' a d := by
  have hk : w'.H a = w.H a := by rw [e.H]
  cases d <;> first | exact h.elim | skip
  · obtain ⟨xs, h, r⟩ := h; exact ⟨xs, hk.trans h, r.dr e n⟩
  · obtain ⟨dx, fs', h, q, r⟩ := h; exact ⟨dx, fs', hk.trans h, q, r.dr e (by rw [← noOf_eq]; exact n)⟩
  · obtain ⟨kvs', h, q, r⟩ := h; exact ⟨kvs', hk.trans h, q, r.dr e (by rw [← noOk_eq]; exact n)⟩
  · obtain ⟨kvs', h, q, r⟩ := h; exact ⟨kvs', hk.trans h, q, r.dr e (by rw [← noOt_eq]; exact n)⟩
/-- the value of a def's end, told without the def's own names -/
def solid (n : Nat) (d : Dv) (S : Store) : Option Dv := match d with
  | .obj k => if k < n then none else S[k]?
  | d => some d
def gcF (F : DFn) : DFn := fun ds S => match F ds S with
  | some (.ok d S') => match solid S.length d S' with
    | some d' => if noO d' = true ∧ noOs (S'.take S.length) = true ∧ S.length ≤ S'.length then some (.ok d' (S'.take S.length)) else none
    | none => none
  | some (.exc c fs S') => if noOf fs = true ∧ noOs (S'.take S.length) = true ∧ S.length ≤ S'.length then some (.exc c fs (S'.take S.length)) else none
  | none => none
section
variable {G : Gp} {w w' : Wd} {S S' : Store}
theorem drop_ok (e : Ext w w') (s : SOk G w S) (s' : SOk G w' S') (hn : noOs (S'.take S.length) = true) (hl : S.length ≤ S'.length) : Ext w ⟨w'.H, w.as, w'.M0⟩ ∧ SOk G ⟨w'.H, w.as, w'.M0⟩ (S'.take S.length) ∧ Dr w' ⟨w'.H, w.as, w'.M0⟩ := by
  obtain ⟨bs, hb⟩ := e.as
  have dr : Dr w' ⟨w'.H, w.as, w'.M0⟩ := ⟨rfl, fun a h => by
    rcases h with h | h
    · exact .inl h
    · exact .inr (by rw [hb]; exact List.mem_append_left _ h)⟩
  have all : ∀ (l : List Dv), noOs l = true → ∀ (i : Nat) (d : Dv), l[i]? = some d → noO d = true := by
    intro l
    induction l with
    | nil => intro _ i d h; simp at h
    | cons x r ih =>
      intro h i d hd
      have h' : (noO x && noOs r) = true := h
      cases i with
      | zero =>
        simp at hd
        subst hd
        exact (Bool.and_eq_true_iff.mp h').1
      | succ i => exact ih (Bool.and_eq_true_iff.mp h').2 i d (by simpa using hd)
  refine ⟨⟨⟨[], by simp⟩, e.m0, fun _ _ _ h => h, fun a o h n z => e.nM a o h n (dr.M a z), e.keep⟩, ⟨s.nd, ?_, s'.dom, fun a ha => s'.dj a (by rw [hb]; exact List.mem_append_left _ ha), fun i a d h1 h2 => ?_⟩, dr⟩
  · show w.as.length = (S'.take S.length).length
    rw [List.length_take, s.len]
    omega
  · have hi : i < (S'.take S.length).length := (List.getElem?_eq_some_iff.mp h2).1
    have hi2 : i < S.length := by rw [List.length_take] at hi; omega
    have nd := all _ hn i d h2
    rw [List.getElem?_take_of_lt hi2] at h2
    refine (s'.cont i a d ?_ h2).dr dr nd
    rw [hb, List.getElem?_append_left (by rw [s.len]; exact hi2)]
    exact h1
theorem solid_ok {v : V} {d d' : Dv} (e : Ext w w') (s : SOk G w S) (s' : SOk G w' S') (r : Rp G w' v d) (h : solid S.length d S' = some d') (nd : noO d' = true) (hn : noOs (S'.take S.length) = true) (hl : S.length ≤ S'.length) : Rp G ⟨w'.H, w.as, w'.M0⟩ v d' := by
  obtain ⟨e2, s2, dr⟩ := drop_ok e s s' hn hl
  unfold solid at h
  split at h
  · rename_i k
    by_cases hk : k < S.length
    · rw [if_pos hk] at h; cases h
    · rw [if_neg hk] at h
      cases r with
      | @obj a n ha =>
        have m := (s'.cont k a d' ha h).dr dr nd
        have nM : ¬ (⟨w'.H, w.as, w'.M0⟩ : Wd).M a := by
          obtain ⟨bs, hb⟩ := e.as
          have hkl : w.as.length ≤ k := by rw [s.len]; omega
          have hkw : k < w'.as.length := (List.getElem?_eq_some_iff.mp ha).1
          have hae : w'.as[k] = a := (List.getElem?_eq_some_iff.mp ha).2
          rintro (z | z)
          · exact s'.dj a (List.mem_of_getElem? ha) z
          · obtain ⟨j, hj, ej⟩ := List.getElem_of_mem z
            have hj' : j < w.as.length := hj
            have hj2 : j < w'.as.length := by rw [hb, List.length_append]; omega
            have e1 : w'.as[j] = w'.as[k] := by
              rw [hae, ← ej]
              simp only [hb]
              exact List.getElem_append_left hj'
            have := (List.getElem_inj s'.nd).mp e1
            omega
        cases d' <;> first | exact m.elim | skip
        · obtain ⟨xs, h1, h2⟩ := m
          exact .lst (.inl ⟨.inl h1, nM⟩) h2
        · obtain ⟨dx, fs', h1, h2, h3⟩ := m
          exact .ins h1 nM h2 h3
        · obtain ⟨kvs', h1, h2, h3⟩ := m
          exact .dic h1 nM h2 h3
        · obtain ⟨kvs', h1, h2, h3⟩ := m
          exact .dit h1 nM h2 h3
  · cases h
    exact r.dr dr nd
variable {P : Program} {w0 : World} {K : PySem.W.Frag} {mg : Str → Option Value} {base : Heap}
theorem fn_gc {f : Addr} {fd : FuncData} {ps : List Str} {k n : Nat} {F : DFn} (h : FnOk P w0 K mg base (L2.CX P w0) k f fd ps (spD K mg n F)) : FnOk P w0 K mg base (L2.CX P w0) k f fd ps (spD K mg n (gcF F)) :=
  h.imp fun vs H Q E ⟨hl, w, S, ds, r, eH, hs, rv, hF, p⟩ => by
    unfold gcF at hF
    cases h1 : F ds S with
    | none => rw [h1] at hF; cases hF
    | some r1 =>
      rw [h1] at hF
      refine ⟨hl, w, S, ds, r1, eH, hs, rv, h1, ?_⟩
      cases r1 with
      | ok d S' =>
        dsimp only at hF
        cases h2 : solid S.length d S' with
        | none => rw [h2] at hF; cases hF
        | some d' =>
          rw [h2] at hF
          dsimp only at hF
          by_cases z : noO d' = true ∧ noOs (S'.take S.length) = true ∧ S.length ≤ S'.length
          · rw [if_pos z] at hF
            cases hF
            intro v w' e s' rv'
            obtain ⟨e2, s2, dr⟩ := drop_ok e hs s' z.2.1 z.2.2
            exact p v ⟨w'.H, w.as, w'.M0⟩ e2 s2 (solid_ok e hs s' rv' h2 z.1 z.2.1 z.2.2)
          · rw [if_neg z] at hF; cases hF
      | exc c fs S' =>
        dsimp only at hF
        by_cases z : noOf fs = true ∧ noOs (S'.take S.length) = true ∧ S.length ≤ S'.length
        · rw [if_pos z] at hF
          cases hF
          intro dd fs' w' e s' hd hm hn hr
          obtain ⟨e2, s2, dr⟩ := drop_ok e hs s' z.2.1 z.2.2
          exact p dd fs' ⟨w'.H, w.as, w'.M0⟩ e2 s2 hd (fun q => hm (dr.M _ q)) hn (hr.dr dr (by rw [← noOf_eq]; exact z.1))
        · rw [if_neg z] at hF; cases hF
end
end FC

set_option Elab.async false
set_option linter.all false
set_option maxRecDepth 100000
namespace FC
open PySem PySem.Spec L2
section
variable {X : Cx} {ξ : Iv} {W : WX} {G : Gp}
/-! ### list(range(..)) -/
abbrev FR := DEnv → Mm (Int × Int)
def RR (_ : Wd) (a : Int × Int) (b : Int × Int) : Prop := a = b
def rgOk (a b : Int) : Prop := a.natAbs ≤ 400000 ∧ b.natAbs ≤ 400000
instance (a b : Int) : Decidable (rgOk a b) := inferInstanceAs (Decidable (_ ∧ _))
theorem rgOk.to {a b : Int} (h : rgOk a b) : RgOk a b := by
  obtain ⟨h1, h2⟩ := h
  refine ⟨?_, ?_, ?_, ?_, Nat.le_trans (?_ : (b - a).toNat ≤ 1000000) (by decide)⟩ <;> omega
theorem rgV_eq (a b : Int) : rgV a b = (upTo a (b - a).toNat).map V.int := by
  unfold rgV upTo
  rw [List.map_map]
  rfl
def fLr1 (m : Bool) (fa : FE) : FE := fun env => bnd (fa env) fun x => bnd (ofO (asI x)) fun n => if rgOk 0 n then newL m ((upTo 0 (n - 0).toNat).map Dv.int) else stuck
def fLr2 (m : Bool) (fa fb : FE) : FE := fun env => bnd (fa env) fun x => bnd (fb env) fun y => bnd (ofO (asI x)) fun i => bnd (ofO (asI y)) fun j => if rgOk i j then newL m ((upTo i (j - i).toNat).map Dv.int) else stuck
theorem asI_bnd {α : Type} {w : Wd} {v : V} {d : Dv} {k : Int → Mm α} {S : Store} {r : Rs α} (rv : Rp G w v d) (h : bnd (ofO (asI d)) k S = some r) : ∃ i, v = .int i ∧ k i S = some r := by
  cases rv <;> first | (cases h; done) | skip
  rename_i b
  exact ⟨b, rfl, h⟩
theorem d_listRg1 (m : Bool) {e : Expr} {fa : FE} {p p2 pos pos2 : Pos} (hc : X.calm = true) (hml : X.mg "list" = none) (hmr : X.mg "range" = none) (ha : DE X ξ W e fa) (hgl : Gl X "list" := by rfl) (hgr : Gl X "range" := by rfl) (na : starEach [e] X.env = (false, eval e X.env) :: starEach [] X.env := by rfl)
    (nb : starEach [.Call (.Name "range" p2) [e] [] pos2] X.env = (false, eval (.Call (.Name "range" p2) [e] [] pos2) X.env) :: starEach [] X.env := by rfl) : DE X ξ W (.Call (.Name "list" p) [.Call (.Name "range" p2) [e] [] pos2] [] pos) (fLr1 m fa) :=
  PE.imp (pe_listRg hc hgl hml (prg_1 hgr hmr ha na) nb) fun σ H Q ⟨w, env, S, res, eH, s, en, h, p⟩ => by
    subst eH
    show tRg1 (tD (gp X) ξ W fa) σ w.H _
    refine seqR s en h p.px fun x S1 v w1 e1 s1 en1 r1 h1 => ?_
    obtain ⟨n, rfl, h2⟩ := asI_bnd r1 h1
    by_cases z : rgOk 0 n
    · rw [if_pos z] at h2
      refine ⟨n, rfl, z.to, ?_⟩
      rw [rgV_eq]
      exact new_lst s1 (RpAll.of_ints _) h2 (p.mono e1 s1)
    · rw [if_neg z] at h2; cases h2
theorem d_listRg2 (m : Bool) {e e2 : Expr} {fa fb : FE} {p p2 pos pos2 : Pos} (hc : X.calm = true) (hml : X.mg "list" = none) (hmr : X.mg "range" = none) (ha : DE X ξ W e fa) (hb : DE X ξ W e2 fb) (hgl : Gl X "list" := by rfl) (hgr : Gl X "range" := by rfl) (na : starEach [e, e2] X.env = (false, eval e X.env) :: starEach [e2] X.env := by rfl)
    (na2 : starEach [e2] X.env = (false, eval e2 X.env) :: starEach [] X.env := by rfl) (na3 : (backTo pos2 (starEach [e2] X.env)).any (·.1) = false := by rfl)
    (nb : starEach [.Call (.Name "range" p2) [e, e2] [] pos2] X.env = (false, eval (.Call (.Name "range" p2) [e, e2] [] pos2) X.env) :: starEach [] X.env := by rfl) : DE X ξ W (.Call (.Name "list" p) [.Call (.Name "range" p2) [e, e2] [] pos2] [] pos) (fLr2 m fa fb) :=
  PE.imp (pe_listRg hc hgl hml (prg_2 hgr hmr ha hb na na2 na3) nb) fun σ H Q ⟨w, env, S, res, eH, s, en, h, p⟩ => by
    subst eH
    show tRg2 (tD (gp X) ξ W fa) (tD (gp X) ξ W fb) σ w.H _
    refine seqR s en h p.px fun x S1 v w1 e1 s1 en1 r1 h1 => seqR s1 en1 h1 (p.px.mono e1 s1) fun y S2 u w2 e2 s2 en2 r2 h2 => ?_
    obtain ⟨i, hi, h3⟩ := asI_bnd (r1.mono e2) h2
    obtain ⟨j, rfl, h4⟩ := asI_bnd r2 h3
    by_cases z : rgOk i j
    · rw [if_pos z] at h4
      refine ⟨i, j, hi, rfl, z.to, ?_⟩
      rw [rgV_eq]
      exact new_lst s2 (RpAll.of_ints _) h4 (p.mono (e1.trans e2) s2)
    · rw [if_neg z] at h4; cases h4
end
/-! ### the law's end -/
def spLaw (n : Nat) (K : PySem.W.Frag) : Sp := fun vs H Q _ => ∃ (a : Addr) (ns : List Int), vs = [.ref a] ∧ SqL K H a (ns.map V.int) ∧ ns.length ≤ n ∧ ∀ H', Q (.bl true) H'
theorem fn_law {P : Program} {w0 : World} {K : PySem.W.Frag} {mg : Str → Option Value} {base : Heap} {f : Addr} {fd : FuncData} {ps : List Str} {k n : Nat} {F : DFn} (h : FnOk P w0 K mg base (L2.CX P w0) k f fd ps (spD K mg 1 F))
    (e : ∀ ns : List Int, ns.length ≤ n → ∃ S', F [.lst (ns.map Dv.int)] [] = some (.ok (.bl true) S')) : FnOk P w0 K mg base (L2.CX P w0) k f fd ps (spLaw n K) :=
  h.imp fun vs H Q E ⟨a, ns, ev, hS, hl, q⟩ => by
    subst ev
    obtain ⟨S', hF⟩ := e ns hl
    have nM : ∀ b, ¬ (⟨H, [], []⟩ : Wd).M b := fun b z => by
      rcases z with z | z
      · exact absurd z (by simp)
      · exact absurd z (by simp)
    refine ⟨rfl, ⟨H, [], []⟩, [], [.lst (ns.map Dv.int)], _, rfl, ⟨List.nodup_nil, rfl, fun a ha => absurd ha (by simp), fun a ha => absurd ha (by simp), fun i a d h1 _ => by simp at h1⟩, .cons (.lst ?_ (RpAll.of_ints ns)) .nil, hF, fun v w' _ _ rv => ?_⟩
    · rcases hS with h | h
      · exact .inl ⟨h, nM a⟩
      · exact .inr h
    · cases rv
      exact q _
end FC

set_option Elab.async false
set_option linter.all false
set_option maxRecDepth 100000
namespace FC
open PySem PySem.Spec L2
section
variable {X : Cx} {ξ : Iv} {W : WX} {G : Gp}
/-- a call's answer, told by the number of its arguments -/
@[simp] def clF (n : Nat) (F : DFn) : DCl := fun ds => if ds.length = n then F ds else stuck
theorem d_callF {f : Addr} {fd : FuncData} {ps : List Str} {k n : Nat} {F : DFn} {x : Str} {e : Expr} {es : List Expr} {p pos : Pos} {fa : FA} (hF : FnOk X.prog X.w X.K X.mg X.base (L2.CX X.prog X.w) k f fd ps (spD X.K X.mg n F)) (hn : ps.length = n) (hr : Room k X.A) (hm : X.mg x = some (.ref f)) (hk : PySem.W.keepIn X.K (.ref f) = true) (hb : Binds X.K fd ps []) (tk : Takes X W)
    (ha : DA X ξ W (e :: es) fa) (hg : Gl X x := by rfl) (hdb : (x == ("__debug__" : Str)) = false := by decide) (he : starEach (e :: es) X.env = (false, eval e X.env) :: starEach es X.env := by rfl) (hpl : (backTo pos (starEach es X.env)).any (·.1) = false := by rfl) :
    DE X ξ W (.Call (.Name x p) (e :: es) [] pos) (fCall (clF n F) fa) :=
  PE.imp (pe_callS hF hr hg hm hk hb (fun σ => passAt tk σ) ha hdb he hpl) fun σ H Q ⟨w, env, S, res, eH, s, en, h, p⟩ => by
    subst eH
    refine seqR s en h p.px fun ds S1 vs w1 e1 s1 en1 r1 h1 => ?_
    have h2 : (if ds.length = n then F ds else stuck) S1 = some res := h1
    by_cases z : ds.length = n
    · rw [if_pos z] at h2
      refine ⟨by rw [r1.length]; exact z, w1, S1, ds, res, rfl, s1, r1, h2, ?_⟩
      have p1 := p.mono e1 s1
      cases res with
      | ok d S' => exact p1
      | exc c fs S' => exact fun dd fs' w' e s' hd hm hn hr => p1 dd fs' w' e s' hd hm hn hr
    · rw [if_neg z] at h2; cases h2
/-- a walked list or tuple that nothing changes -/
theorem i_seq {tg e : Expr} {fa : FE} (ha : DE X ξ W e fa) : DI X ξ W tg e (fIt fa) := PI.imp (PI.or (pi_list ha) (pi_tup ha)) fun σ H R ⟨w, env, S, res, eH, s, en, h, p⟩ => by
  subst eH
  have h0 := h
  unfold fIt bnd at h0
  cases q : fa env S with
  | none => rw [q] at h0; cases h0
  | some r1 =>
    rw [q] at h0
    cases r1 with
    | exc c fs S1 =>
      cases h0
      exact .inl ⟨w, env, S, _, rfl, s, en, q, p⟩
    | ok d S1 =>
      have h1 : ofO (frozen d) S1 = some res := h0
      obtain ⟨ds, hd, rfl⟩ := ofO_some h1
      cases d <;> first | (cases hd; done) | skip
      · cases hd
        refine .inr ⟨w, env, S, _, rfl, s, en, q, fun v w1 e1 s1 rv => ?_⟩
        cases rv with
        | tup ha ra => exact ⟨_, rfl, ⟨_, ha.to⟩, p.ok_ e1 s1 (it_tup ha ra)⟩
      · cases hd
        refine .inl ⟨w, env, S, _, rfl, s, en, q, fun v w1 e1 s1 rv => ?_⟩
        cases rv with
        | lst ha ra => exact ⟨_, rfl, ⟨_, ha.to⟩, p.ok_ e1 s1 (it_list ha ra)⟩
/-- which classes a clause takes -/
@[simp] def cnL (l : List (Str × Bool)) : Str → Option Bool := fun c => l.lookup c
theorem cnL_ok {K : PySem.W.Frag} {mg : Str → Option Value} {cv : Value} : ∀ {l : List (Str × Bool)}, (∀ p ∈ l, PySem.W.exmOne K (.ref (cOf mg p.1)) cv = some p.2) → ∀ c b, cnL l c = some b → PySem.W.exmOne K (.ref (cOf mg c)) cv = some b
  | [], _, c, b, h => by cases h
  | (n, v) :: r, hl, c, b, h => by
    unfold cnL at h
    rw [List.lookup_cons] at h
    cases q : (c == n) with
    | true =>
      rw [q] at h
      cases h
      have e : c = n := by simpa using q
      subst e
      exact hl _ List.mem_cons_self
    | false =>
      rw [q] at h
      exact cnL_ok (l := r) (fun p hp => hl p (List.mem_cons_of_mem _ hp)) c b h
theorem cOf_of {mg : Str → Option Value} {n : Str} {C : Addr} (h : mg n = some (.ref C)) : cOf mg n = C := by
  unfold cOf
  rw [h]
end
end FC
namespace FC
open PySem
theorem cnL_one {n c : Str} (h : cnL [(n, true)] c = some true) : c = n := by
  unfold cnL at h
  rw [List.lookup_cons] at h
  cases q : (c == n) with
  | true => simpa using q
  | false => rw [q] at h; cases h
end FC
namespace FC
open PySem PySem.Spec L2
section
variable {X : Cx} {ξ : Iv} {W : WX} {G : Gp}
theorem d_lcV {tg iter elt : Expr} {ifs : List Expr} {scope : Scope} {own : List (Str × Nat)} {pos : Pos} {fi : FI} {sl : List Nat} {b : Bd} {ft : FT} {fe : FE} {vs : List Nat} (m : Bool) (hc : X.calm = true) (hN : X.N.Nodup) (hi : DI X ξ W tg iter fi) (ok : BlkOk X.N X.env.scope scope own)
    (hg : ∀ (s : Shared) (H : Hp) (C : Addr) (cl : List (Str × Addr)) (fp : List Addr), DG (X.blk s H scope (compEnvC scope cl C X.env) fp) ξ tg sl b)
    (ht : ∀ (s : Shared) (H : Hp) (C : Addr) (cl : List (Str × Addr)) (fp : List Addr), DTs (X.blk s H scope (compEnvC scope cl C X.env) fp) ξ W0 ifs ft)
    (he : ∀ (s : Shared) (H : Hp) (C : Addr) (cl : List (Str × Addr)) (fp : List Addr), DE (X.blk s H scope (compEnvC scope cl C X.env) fp) ξ W0 elt fe)
    (hv : own.map (·.2) = vs := by rfl) (hsl : ∀ i ∈ sl, i ∈ own.map (·.2) := by decide) (hok : ∀ v ∈ own.map (·.2), ξ.ok v := by first | exact (fun _ _ => trivial) | decide) (hs : ∀ x, foldedSetIterable iter X.env x = pure x := by intro _; rfl) :
    DE X ξ W (.ListComp elt [⟨tg, iter, ifs, 0⟩] scope pos) (fLc m fi vs b ft fe) := by
  subst hv
  exact d_lc m hc hN hi ok hg ht he hsl hok hs
theorem s_setLcV {i : Nat} {y : Str} {py : Pos} {tg iter elt : Expr} {ifs : List Expr} {scope : Scope} {own : List (Str × Nat)} {pos spos : Pos} {fi : FI} {sl : List Nat} {b : Bd} {ft : FT} {fe : FE} {vs : List Nat}
    (m : Bool) (hc : X.calm = true) (hN : X.N.Nodup) (hsw : swapsWith (.ListComp elt [⟨tg, iter, ifs, 0⟩] scope pos) (some (.Name y py)) spos.line X.env = pure true) (hi : DI X ξ W tg iter fi) (ok : BlkOk X.N X.env.scope scope own)
    (hg : ∀ (s : Shared) (H : Hp) (C : Addr) (cl : List (Str × Addr)) (fp : List Addr), DG (X.blk s H scope (compEnvC scope cl C X.env) fp) ξ tg sl b)
    (ht : ∀ (s : Shared) (H : Hp) (C : Addr) (cl : List (Str × Addr)) (fp : List Addr), DTs (X.blk s H scope (compEnvC scope cl C X.env) fp) ξ W0 ifs ft)
    (he : ∀ (s : Shared) (H : Hp) (C : Addr) (cl : List (Str × Addr)) (fp : List Addr), DE (X.blk s H scope (compEnvC scope cl C X.env) fp) ξ W0 elt fe)
    (hv : own.map (·.2) = vs := by rfl) (hsl : ∀ i ∈ sl, i ∈ own.map (·.2) := by decide) (hy : X.N[i]? = some y := by rfl) (hyl : X.env.scope.names.lookup y = some .local := by rfl) (hoki : ξ.ok i := by first | trivial | decide) (hok : ∀ v ∈ own.map (·.2), ξ.ok v := by first | exact (fun _ _ => trivial) | decide) (hs : ∀ x, foldedSetIterable iter X.env x = pure x := by intro _; rfl) :
    DS X ξ W (.Assign [.Name y py] (.ListComp elt [⟨tg, iter, ifs, 0⟩] scope pos) spos) (sAsg (fLc m fi vs b ft fe) (bName i)) := by
  subst hv
  exact s_setLc m hc hN hsw hi ok hg ht he hsl hy hyl hoki hok hs
end
end FC
namespace FC
open PySem PySem.Spec L2
theorem fn_none {P : Program} {w0 : World} {K : PySem.W.Frag} {mg : Str → Option Value} {base : Heap} {f : Addr} {fd : FuncData} {ps : List Str} {k n : Nat} (_ : ps.length = n) : FnOk P w0 K mg base (L2.CX P w0) k f fd ps (spD K mg n fun _ _ => none) where
  len := fun vs H Q E h => by
    obtain ⟨_, _, _, _, _, _, _, _, h, _⟩ := h
    cases h
  run := fun A outer s H args us vs Q E _ _ _ _ h => by
    obtain ⟨_, _, _, _, _, _, _, _, h, _⟩ := h
    cases h
end FC

set_option Elab.async false
set_option linter.all false
set_option maxRecDepth 100000
namespace FC
open PySem PySem.Spec L2
section
variable {ft : FT} {fe fo fi : FE} {f g : FS} {fI : FI} {b : Bd} {fa : FA} {env : DEnv} {S : Store} {ds : List Dv}
@[simp] theorem sIf_e : sIf ft f g env S = sBnd ft (fun c => if c = true then f else g) env S := rfl
@[simp] theorem sRet_e : sRet fe env S = sBnd fe (fun d _ S => some (.rt d S)) env S := rfl
@[simp] theorem sExpr_e : sExpr fe env S = sBnd fe (fun _ => sNext) env S := rfl
@[simp] theorem sAsg_e : sAsg fe b env S = sBnd fe (fun d env S => match b d env with
  | some env' => some (.nx env' S)
  | none => none) env S := rfl
@[simp] theorem sFor_e : sFor fI b f env S = sBnd fI (fun items => forM' b f items) env S := rfl
@[simp] theorem sRaise_e {name : Str} {flds : List Str} : sRaise name flds fa env S = sBnd fa (fun ds env S => if ds.length = flds.length then some (.exc name (flds.zip ds) env S) else none) env S := rfl
@[simp] theorem sSetIx_e : sSetIx fo fi fe env S = sBnd fe (fun v => sBnd fo fun o => sBnd fi fun i => fun env S => match setIx o i v S with
  | some S' => some (.nx env S')
  | none => none) env S := rfl
@[simp] theorem oSum_e : oSum ds S = oSeq (fun xs => bnd (ofO (asInts xs)) fun ns => FC.ret (.int ns.sum)) ds S := rfl
@[simp] theorem oAllL_e : oAllL ds S = oSeqL (fun xs => bnd (ofO (asBls xs)) fun ns => FC.ret (.bl (ns.all id))) ds S := rfl
@[simp] theorem oAnyL_e : oAnyL ds S = oSeqL (fun xs => bnd (ofO (asBls xs)) fun ns => FC.ret (.bl (ns.any id))) ds S := rfl
@[simp] theorem oTuple_e : oTuple ds S = oSeq (fun xs => FC.ret (.tup xs)) ds S := rfl
end
section
variable {i j : Int} {S : Store}
@[simp] theorem oSub_i : oSub (.int i) (.int j) S = some (.ok (.int (i - j)) S) := rfl
@[simp] theorem oLt_i : oLt (.int i) (.int j) S = some (.ok (.bl (decide (i < j))) S) := rfl
@[simp] theorem oLe_i : oLe (.int i) (.int j) S = some (.ok (.bl (decide (i ≤ j))) S) := rfl
@[simp] theorem oGt_i : oGt (.int i) (.int j) S = some (.ok (.bl (decide (j < i))) S) := rfl
@[simp] theorem oGe_i : oGe (.int i) (.int j) S = some (.ok (.bl (decide (j ≤ i))) S) := rfl
@[simp] theorem oBAnd_i : oBAnd (.int i) (.int j) S = some (.ok (.int (Builtin.bitAnd i j)) S) := rfl
theorem oIC_i {C : Int → Int → Prop} [∀ i j, Decidable (C i j)] {g : Int → Int → Dv} (h : C i j) : oIC C g (.int i) (.int j) S = some (.ok (g i j) S) := by simp [oIC, ret, h]
@[simp] theorem oMod_i (h : 0 < j) : oMod (.int i) (.int j) S = some (.ok (.int (i % j)) S) := oIC_i h
theorem oDiv_i (h : 0 < j) (h2 : j.natAbs.log2 < 9000) : oDiv (.int i) (.int j) S = some (.ok (.int (i / j)) S) := oIC_i ⟨h, h2⟩
theorem oMul_i (h : i.natAbs.log2 + j.natAbs.log2 < 1000000) : oMul (.int i) (.int j) S = some (.ok (.int (i * j)) S) := oIC_i h
theorem log2_lt {i : Int} {k n : Nat} (h : i.natAbs < 2 ^ k) (hk : k ≤ n) (hn : 0 < n) : i.natAbs.log2 < n := by
  rcases Nat.eq_zero_or_pos i.natAbs with z | z
  · rw [z]; simpa using hn
  · have := (Nat.log2_lt (by omega)).2 h
    omega
theorem oMul_b (h : 0 ≤ i) (h2 : i < 2 ^ 64) (h3 : 0 ≤ j) (h4 : j < 2 ^ 64) : oMul (.int i) (.int j) S = some (.ok (.int (i * j)) S) := oMul_i (by
  have a := log2_lt (i := i) (k := 64) (n := 64) (by omega) (by decide) (by decide)
  have b := log2_lt (i := j) (k := 64) (n := 64) (by omega) (by decide) (by decide)
  omega)
theorem oDiv_b (h : 0 < j) (h2 : j < 2 ^ 64) : oDiv (.int i) (.int j) S = some (.ok (.int (i / j)) S) := oDiv_i h (log2_lt (k := 64) (by omega) (by decide) (by decide))
theorem oPow_i (h : 0 ≤ j) (h2 : j ≤ 1000000) (h3 : i.natAbs < 2 ^ 64) : oPow (.int i) (.int j) S = some (.ok (.int (i ^ j.toNat)) S) := oIC_i ⟨h, h2, h3⟩
theorem oShl_i (h : 0 ≤ j) (h2 : j ≤ 1000000) (h3 : i.natAbs < 2 ^ 64) : oShl (.int i) (.int j) S = some (.ok (.int (i * 2 ^ j.toNat)) S) := oIC_i ⟨h, h2, h3⟩
theorem oShr_i (h : 0 ≤ j) : oShr (.int i) (.int j) S = some (.ok (.int (i / 2 ^ j.toNat)) S) := oIC_i h
@[simp] theorem ten18 : oPow (.int 10) (.int 18) S = some (.ok (.int 1000000000000000000) S) := oPow_i (by decide) (by decide) (by decide)
@[simp] theorem ten7 : oPow (.int 10) (.int 7) S = some (.ok (.int 10000000) S) := oPow_i (by decide) (by decide) (by decide)
@[simp] theorem ten6 : oPow (.int 10) (.int 6) S = some (.ok (.int 1000000) S) := oPow_i (by decide) (by decide) (by decide)
@[simp] theorem oMin2_i : oMin2 [.int i, .int j] S = some (.ok (.int (min i j)) S) := by
  have : (if j < i then j else i) = min i j := by split <;> omega
  simp [oMin2, FC.ret, this]
@[simp] theorem oMax2_i : oMax2 [.int i, .int j] S = some (.ok (.int (max i j)) S) := by
  have : (if j > i then j else i) = max i j := by split <;> omega
  simp only [oMax2, FC.ret, this]
theorem abs_if (i : Int) : (if i < 0 then -i else i) = (i.natAbs : Int) := by split <;> omega
@[simp] theorem oAbs_i : oAbs [.int i] S = some (.ok (.int (i.natAbs : Int)) S) := by simp only [oAbs, FC.ret, abs_if]
@[simp] theorem oInt1_i : oInt1 [.int i] S = some (.ok (.int i) S) := rfl
theorem ite_app {c : Prop} [Decidable c] {α : Type} {f g : Mm α} {r : Option (Rs α)} (h : c) (e : f S = r) : (if c then f else g) S = r := by rw [if_pos h]; exact e
theorem rng1_e (h : rngOk j) : rng1 [.int j] S = some (.ok ((upTo 0 j.toNat).map .int) S) := ite_app (f := FC.ret ((upTo 0 j.toNat).map Dv.int)) (g := stuck) h rfl
theorem rng2_e (h : rngOk i) (h2 : rngOk j) : rng2 [.int i, .int j] S = some (.ok ((upTo i (j - i).toNat).map .int) S) := ite_app (f := FC.ret ((upTo i (j - i).toNat).map Dv.int)) (g := stuck) (And.intro h h2) rfl
theorem rngOk_of {i : Int} (h : 0 ≤ i) (h2 : i ≤ 1000000) : rngOk i := by unfold rngOk; omega
@[simp] theorem rng1_len {n : Nat} (h : n ≤ 1000000) : rng1 [.int n] S = some (.ok ((upTo 0 n).map .int) S) := by
  rw [rng1_e (rngOk_of (by omega) (by omega)), Int.toNat_natCast]
theorem rgOk_of {i : Int} (h : 0 ≤ i) (h2 : i ≤ 400000) : rgOk 0 i := ⟨by decide, by omega⟩
theorem fLr1_e {fa : FE} {env : DEnv} {n : Int} (hf : fa env S = some (.ok (.int n) S)) (h : 0 ≤ n) (h2 : n ≤ 400000) : fLr1 false fa env S = some (.ok (.lst ((upTo 0 (n - 0).toNat).map .int)) S) := by
  unfold fLr1 FC.bnd
  rw [hf]
  exact ite_app (f := newL false ((upTo 0 (n - 0).toNat).map Dv.int)) (g := stuck) (rgOk_of h h2) rfl
theorem fLr1_len {fa : FE} {env : DEnv} {n : Nat} (hf : fa env S = some (.ok (.int n) S)) (h : n ≤ 400000) : fLr1 false fa env S = some (.ok (.lst ((upTo 0 n).map .int)) S) := by
  rw [fLr1_e hf (by omega) (by omega), Int.sub_zero, Int.toNat_natCast]
@[simp] theorem oEq_i : oEq (.int i) (.int j) S = some (.ok (.bl (decide (i = j))) S) := rfl
@[simp] theorem oNe_i : oNe (.int i) (.int j) S = some (.ok (.bl (!decide (i = j))) S) := rfl
end
/-- a tuple of ints; a list of ints -/
abbrev tIn (xs : List Int) : Dv := .tup (xs.map .int)
abbrev lIn (xs : List Int) : Dv := .lst (xs.map .int)
@[simp] theorem asInts_map' (xs : List Int) : asInts (xs.map Dv.int) = some xs := asInts_map xs
@[simp] theorem asBls_map' (xs : List Bool) : asBls (xs.map Dv.bl) = some xs := asBls_map xs
/-- a comprehension whose parts change nothing -/
theorem compM_pure {α : Type} {b : Bd} {ft : FT} {fe : FE} {env0 : DEnv} {S : Store} (enc : α → Dv) (p : α → Bool) (g : α → Dv) : ∀ (xs : List α) (acc : List Dv), acc.length + xs.length ≤ big →
    (∀ x ∈ xs, ∃ env1, b (enc x) env0 = some env1 ∧ ft env1 S = some (.ok (p x) S) ∧ (p x = true → fe env1 S = some (.ok (g x) S))) → compM b ft fe env0 (xs.map enc) acc S = some (.ok (acc ++ (xs.filter p).map g) S)
  | [], acc, _, _ => by simp [compM]
  | x :: xs, acc, hl, h => by
    obtain ⟨env1, h1, h2, h3⟩ := h x List.mem_cons_self
    have hl' : acc.length + (xs.length + 1) ≤ big := hl
    have ha : acc.length ≤ big := by omega
    show compM b ft fe env0 (enc x :: xs.map enc) acc S = _
    unfold compM
    simp only [h1, h2]
    cases hp : p x with
    | false =>
      simp only
      rw [compM_pure enc p g xs acc (by omega) fun y hy => h y (List.mem_cons_of_mem _ hy)]
      simp [hp]
    | true =>
      simp only [h3 hp, if_pos ha]
      rw [compM_pure enc p g xs (acc ++ [g x]) (by simp; omega) fun y hy => h y (List.mem_cons_of_mem _ hy)]
      simp [hp]
/-- .. without a test -/
theorem compM_map {α : Type} {b : Bd} {fe : FE} {env0 : DEnv} {S : Store} (enc : α → Dv) (g : α → Dv) (xs : List α) (hl : xs.length ≤ big) (h : ∀ x ∈ xs, ∃ env1, b (enc x) env0 = some env1 ∧ fe env1 S = some (.ok (g x) S)) : compM b fYes fe env0 (xs.map enc) [] S = some (.ok (xs.map g) S) := by
  have := compM_pure (b := b) (ft := fYes) (fe := fe) (env0 := env0) (S := S) enc (fun _ => true) g xs [] (by simpa using hl) fun x hx => by
    obtain ⟨env1, h1, h2⟩ := h x hx
    exact ⟨env1, h1, rfl, fun _ => h2⟩
  rw [this, List.nil_append, List.filter_eq_self.mpr (by simp)]
/-- .. whose element changes the store: P by the number of elements made -/
theorem compM_st {α : Type} {b : Bd} {fe : FE} {env0 : DEnv} (enc : α → Dv) (P : Nat → Store → Prop) (Q : α → Dv → Prop) (N : Nat) : ∀ (xs : List α) (acc : List Dv) (i : Nat) (S : Store), acc.length + xs.length ≤ big → i + xs.length ≤ N → P i S →
    (∀ x ∈ xs, ∀ j S, j < N → P j S → ∃ env1 y S', b (enc x) env0 = some env1 ∧ fe env1 S = some (.ok y S') ∧ P (j + 1) S' ∧ Q x y) →
    ∃ ys S', compM b fYes fe env0 (xs.map enc) acc S = some (.ok (acc ++ ys) S') ∧ P (i + xs.length) S' ∧ ys.length = xs.length ∧ ∀ (k : Nat) (x : α) (y : Dv), xs[k]? = some x → ys[k]? = some y → Q x y
  | [], acc, i, S, _, _, hP, _ => ⟨[], S, by simp [compM], by simpa using hP, rfl, by simp⟩
  | x :: xs, acc, i, S, hl, hN, hP, h => by
    have hN' : i + (xs.length + 1) ≤ N := hN
    obtain ⟨env1, y, S1, h1, h2, h3, h4⟩ := h x List.mem_cons_self i S (by omega) hP
    have hl' : acc.length + (xs.length + 1) ≤ big := hl
    have ha : acc.length ≤ big := by omega
    obtain ⟨ys, S', e1, e2, e3, e4⟩ := compM_st enc P Q N xs (acc ++ [y]) (i + 1) S1 (by simp; omega) (by omega) h3 fun z hz => h z (List.mem_cons_of_mem _ hz)
    refine ⟨y :: ys, S', ?_, ?_, by simp [e3], fun k => ?_⟩
    · show compM b fYes fe env0 (enc x :: xs.map enc) acc S = _
      unfold compM
      simp only [h1, fYes, FC.ret, h2, if_pos ha, e1, List.append_assoc, List.singleton_append]
    · simp only [List.length_cons]
      rw [show i + (xs.length + 1) = i + 1 + xs.length by omega]
      exact e2
    · cases k with
      | zero =>
        intro x' y' hx hy
        simp at hx hy
        subst hx; subst hy
        exact h4
      | succ k => simpa using e4 k
/-- a loop that goes through all items -/
theorem forM_all {α : Type} {b : Bd} {fb : FS} {S : Store} (enc : α → Dv) (Pe : DEnv → Prop) : ∀ (xs : List α) (env : DEnv), Pe env → (∀ x ∈ xs, ∀ env, Pe env → ∃ env1 env2, b (enc x) env = some env1 ∧ fb env1 S = some (.nx env2 S) ∧ Pe env2) →
    ∃ env', forM' b fb (xs.map enc) env S = some (.nx env' S) ∧ Pe env'
  | [], env, hP, _ => ⟨env, by simp [forM'], hP⟩
  | x :: xs, env, hP, h => by
    obtain ⟨env1, env2, h1, h2, h3⟩ := h x List.mem_cons_self env hP
    obtain ⟨env', e1, e2⟩ := forM_all enc Pe xs env2 h3 fun z hz => h z (List.mem_cons_of_mem _ hz)
    refine ⟨env', ?_, e2⟩
    show forM' b fb (enc x :: xs.map enc) env S = _
    unfold forM'
    simp only [h1, h2, e1]
/-- .. whose body changes the store -/
theorem forM_st {α : Type} {b : Bd} {fb : FS} (enc : α → Dv) (P : Nat → DEnv → Store → Prop) (N : Nat) : ∀ (xs : List α) (i : Nat) (env : DEnv) (S : Store), i + xs.length ≤ N → P i env S → (∀ x ∈ xs, ∀ j env S, j < N → P j env S → ∃ env1 env2 S2, b (enc x) env = some env1 ∧ fb env1 S = some (.nx env2 S2) ∧ P (j + 1) env2 S2) →
    ∃ env' S', forM' b fb (xs.map enc) env S = some (.nx env' S') ∧ P (i + xs.length) env' S'
  | [], i, env, S, _, hP, _ => ⟨env, S, by simp [forM'], by simpa using hP⟩
  | x :: xs, i, env, S, hN, hP, h => by
    have hN' : i + (xs.length + 1) ≤ N := hN
    obtain ⟨env1, env2, S2, h1, h2, h3⟩ := h x List.mem_cons_self i env S (by omega) hP
    obtain ⟨env', S', e1, e2⟩ := forM_st enc P N xs (i + 1) env2 S2 (by omega) h3 fun z hz => h z (List.mem_cons_of_mem _ hz)
    refine ⟨env', S', ?_, ?_⟩
    · show forM' b fb (enc x :: xs.map enc) env S = _
      unfold forM'
      simp only [h1, h2, e1]
    · simp only [List.length_cons]
      rw [show i + (xs.length + 1) = i + 1 + xs.length by omega]
      exact e2
/-! ### pairs of ints -/
def encP (p : Int × Int) : Dv := .tup [.int p.1, .int p.2]
theorem pairs_ints : ∀ xs ys : List Int, pairs (xs.map .int) (ys.map .int) = (xs.zip ys).map encP
  | [], _ => by simp [pairs]
  | _ :: _, [] => by simp [pairs]
  | x :: xs, y :: ys => by
    simp only [List.map_cons, pairs, List.zip_cons_cons, encP, pairs_ints xs ys]
theorem upTo_range (n : Nat) : upTo 0 n = (List.range n).map fun i : Nat => (i : Int) := by
  unfold upTo
  simp
theorem numbered_ints (xs : List Int) : numbered (xs.map .int) = ((upTo 0 xs.length).zip xs).map encP := by
  unfold numbered
  rw [List.length_map]
  exact pairs_ints _ _
@[simp] theorem big_e : big = 1000000 := rfl
end FC

set_option Elab.async false
set_option linter.all false
set_option maxRecDepth 100000
set_option maxHeartbeats 4000000
namespace FCL
open PySem PySem.Spec L2 FC
open PySem.SupX (SupTxt)
def fs_size : FS := (sRet (fCall oSum (fCons (fVar 0) fNil)))
def F_size : DFn := bodyF 1 fs_size
def fs_plus : FS := (sRet (fCall oTuple (fCons (fLc false (fZip (fCons (fVar 0) (fCons (fVar 1) fNil))) [2, 3] (bTup 2 (bCons (bName 2) (bCons (bName 3) bNil))) fYes (fOp oAdd (fVar 2) (fVar 3))) fNil)))
def F_plus : DFn := bodyF 4 fs_plus
def fs_within : FS := (sRet (fCall oAllL (fCons (fLc false (fZip (fCons (fVar 0) (fCons (fVar 1) fNil))) [2, 3] (bTup 2 (bCons (bName 2) (bCons (bName 3) bNil))) fYes (fOp oLe (fVar 2) (fVar 3))) fNil)))
def F_within : DFn := bodyF 4 fs_within
def fs_minus : FS := (sSeq (sIf (fNot (fTru (fCall (clF 2 F_within) (fCons (fVar 1) (fCons (fVar 0) fNil))))) (sRaise "BadCrowd" ["crowd"] (fCons (fVar 1) fNil)) sNext)
    (sRet (fCall oTuple (fCons (fLc false (fZip (fCons (fVar 0) (fCons (fVar 1) fNil))) [2, 3] (bTup 2 (bCons (bName 2) (bCons (bName 3) bNil))) fYes (fOp oSub (fVar 2) (fVar 3))) fNil))))
def F_minus : DFn := bodyF 4 fs_minus
def fs_lesser : FS := (sRet (fCall oTuple (fCons (fLc false (fZip (fCons (fVar 0) (fCons (fVar 1) fNil))) [2, 3] (bTup 2 (bCons (bName 2) (bCons (bName 3) bNil))) fYes (fCall oMin2 (fCons (fVar 2) (fCons (fVar 3) fNil)))) fNil)))
def F_lesser : DFn := bodyF 4 fs_lesser
def fs_greater : FS := (sRet (fCall oTuple (fCons (fLc false (fZip (fCons (fVar 0) (fCons (fVar 1) fNil))) [2, 3] (bTup 2 (bCons (bName 2) (bCons (bName 3) bNil))) fYes (fCall oMax2 (fCons (fVar 2) (fCons (fVar 3) fNil)))) fNil)))
def F_greater : DFn := bodyF 4 fs_greater
def fs_kinds_in : FS := (sRet (fLc true (fEnum (fCons (fVar 0) fNil)) [1, 2] (bTup 2 (bCons (bName 1) (bCons (bName 2) bNil))) (fTest (fOp oGt (fVar 2) (fC (.int 0)))) (fVar 1)))
def F_kinds_in : DFn := bodyF 3 fs_kinds_in
def fs__law_pool : FS := (sSeq (sAsg (fC (.int 0)) (bName 2))
    (sSeq (sIf (fTest (fOp oLt (fVar 1) (fCall oLen (fCons (fVar 0) fNil)))) (sAsg (fCall oAbs (fCons (fCall oInt1 (fCons (fOp oIx (fVar 0) (fVar 1)) fNil)) fNil)) (bName 2)) sNext)
    (sSeq (sIf (fTest (fOp oGe (fVar 2) (fOp oPow (fC (.int 10)) (fC (.int 18))))) (sRet (fLst true (fCons (fOp oSub (fVar 2) (fOp oPow (fC (.int 10)) (fC (.int 18)))) (fCons (fC (.int 0)) (fCons (fOp oMod (fCall oInt1 (fCons (fVar 2) fNil)) (fC (.int 999999937))) fNil))))) sNext)
    (sRet (fLst true (fCons (fC (.int 0)) (fCons (fC (.int 0)) (fCons (fOp oMod (fCall oInt1 (fCons (fVar 2) fNil)) (fC (.int 999999937))) fNil))))))))
def F__law_pool : DFn := bodyF 3 fs__law_pool
def fs__law_draw : FS := (sSeq (sSetIx (fVar 0) (fC (.int 1)) (fOp oAdd (fOp oIx (fVar 0) (fC (.int 1))) (fC (.int 1))))
    (sSeq (sIf (fTest (fOp oGt (fOp oIx (fVar 0) (fC (.int 0))) (fC (.int 0)))) (sSeq (sAsg (fOp oMod (fCall oInt1 (fCons (fOp oIx (fVar 0) (fC (.int 0))) fNil)) (fVar 1)) (bName 2))
    (sSeq (sSetIx (fVar 0) (fC (.int 0)) (fOp oDiv (fOp oIx (fVar 0) (fC (.int 0))) (fVar 1)))
    (sRet (fVar 2)))) sNext)
    (sSeq (sAsg (fOp oMod (fCall oInt1 (fCons (fOp oAdd (fOp oAdd (fOp oMul (fOp oIx (fVar 0) (fC (.int 2))) (fC (.int 7919))) (fOp oMul (fOp oIx (fVar 0) (fC (.int 1))) (fC (.int 104729)))) (fC (.int 12345))) fNil)) (fC (.int 1000003))) (bName 3))
    (sSeq (sAsg (fOp oMod (fCall oInt1 (fCons (fOp oAdd (fOp oAdd (fOp oAdd (fOp oMul (fVar 3) (fVar 3)) (fOp oMul (fOp oIx (fVar 0) (fC (.int 1))) (fC (.int 31)))) (fOp oDiv (fOp oIx (fVar 0) (fC (.int 2))) (fC (.int 1000)))) (fC (.int 7))) fNil)) (fC (.int 998244353))) (bName 4))
    (sSeq (sAsg (fOp oMod (fCall oInt1 (fCons (fOp oAdd (fOp oAdd (fOp oMul (fVar 4) (fC (.int 48271))) (fOp oDiv (fVar 4) (fC (.int 1009)))) (fOp oMul (fOp oIx (fVar 0) (fC (.int 1))) (fOp oIx (fVar 0) (fC (.int 1))))) fNil)) (fC (.int 2147483647))) (bName 5))
    (sRet (fOp oMod (fCall oInt1 (fCons (fOp oDiv (fVar 5) (fC (.int 7))) fNil)) (fVar 1))))))))
def F__law_draw : DFn := bodyF 6 fs__law_draw
def fs__law_more : FS := (sRet (fOp oAdd (fOp oAdd (fSl false (fVar 0) fNo (fSo (fVar 1))) (fTup (fCons (fOp oAdd (fOp oIx (fVar 0) (fVar 1)) (fC (.int 1))) fNil))) (fSl false (fVar 0) (fSo (fOp oAdd (fVar 1) (fC (.int 1)))) fNo)))
def F__law_more : DFn := bodyF 2 fs__law_more
def fs__law_same (F : DFn) : FS := (sSeq (sIf (fTest (fOp oIs (fVar 1) (fC .non))) (sRet (fOp oIs (fVar 0) (fC .non))) sNext)
    (sSeq (sIf (fTru (fIsi "bool" (fVar 1))) (sRet (fAndV (fIsi "bool" (fVar 0)) (fOp oEq (fVar 0) (fVar 1)))) sNext)
    (sSeq (sIf (fTru (fIsi "int" (fVar 1))) (sRet (fAndV (fIsi "int" (fVar 0)) (fAndV (fNotV (fIsi "bool" (fVar 0))) (fOp oEq (fVar 0) (fVar 1))))) sNext)
    (sSeq (sIf (fTru (fIsi "str" (fVar 1))) (sRet (fAndV (fIsi "str" (fVar 0)) (fOp oEq (fVar 0) (fVar 1)))) sNext)
    (sSeq (sIf (fTru (fIsi "tuple" (fVar 1))) (sIf (fOr (fNot (fTru (fIsi "tuple" (fVar 0)))) (fTest (fOp oNe (fCall oLen (fCons (fVar 0) fNil)) (fCall oLen (fCons (fVar 1) fNil))))) (sRet (fC (.bl false))) sNext) (sIf (fOr (fNot (fTru (fIsi "list" (fVar 0)))) (fTest (fOp oNe (fCall oLen (fCons (fVar 0) fNil)) (fCall oLen (fCons (fVar 1) fNil))))) (sRet (fC (.bl false))) sNext))
    (sSeq (sFor (fRng1 (fCons (fCall oLen (fCons (fVar 1) fNil)) fNil)) (bName 2) (sIf (fNot (fTru (fCall (clF 2 F) (fCons (fOp oIx (fVar 0) (fVar 2)) (fCons (fOp oIx (fVar 1) (fVar 2)) fNil))))) (sRet (fC (.bl false))) sNext))
    (sRet (fC (.bl true)))))))))
def it__law_same : Nat → DFn
  | 0 => fun _ _ => none
  | n + 1 => bodyF 3 (fs__law_same (it__law_same n))
def F__law_same : DFn := it__law_same 5
def fs__law_count : FS := (sSeq (sIf (fTest (fOp oGt (fCall (clF 2 F__law_draw) (fCons (fVar 0) (fCons (fC (.int 3)) fNil))) (fC (.int 0)))) (sRet (fCall (clF 2 F__law_draw) (fCons (fVar 0) (fCons (fC (.int 5)) fNil)))) sNext)
    (sSeq (sAsg (fCall (clF 2 F__law_draw) (fCons (fVar 0) (fCons (fOp oPow (fC (.int 10)) (fC (.int 7))) fNil))) (bName 1))
    (sSeq (sAsg (fCall (clF 2 F__law_draw) (fCons (fVar 0) (fCons (fOp oPow (fC (.int 10)) (fC (.int 7))) fNil))) (bName 2))
    (sSeq (sAsg (fCall (clF 2 F__law_draw) (fCons (fVar 0) (fCons (fOp oPow (fC (.int 10)) (fC (.int 6))) fNil))) (bName 3))
    (sRet (fOp oAdd (fOp oMul (fOp oAdd (fOp oMul (fVar 1) (fOp oPow (fC (.int 10)) (fC (.int 7)))) (fVar 2)) (fOp oPow (fC (.int 10)) (fC (.int 6)))) (fVar 3)))))))
def F__law_count : DFn := bodyF 4 fs__law_count
def fs__law_refused : FS := (sSeq (sTryAs (sExpr (fCall (clF 2 F_minus) (fCons (fVar 0) (fCons (fVar 1) fNil)))) (cnL [("BadCrowd", true)]) 2 (fun _ flds => (sRet (fTup (fCons (fXf flds "crowd") (fCons (fC (.bl true)) (fCons (fC (.bl true)) (fCons (fC (.bl false)) fNil))))))))
    (sRet (fC .non)))
def F__law_refused : DFn := bodyF 3 fs__law_refused
def fs__law_pair_holds : FS := (sSeq (sAsg (fLr1 false (fCall oLen (fCons (fVar 0) fNil))) (bName 2))
    (sSeq (sAsg (fCall oTuple (fCons (fLc false (fIt (fVar 2)) [5] (bName 5) fYes (fOp oAdd (fOp oIx (fVar 0) (fVar 5)) (fOp oIx (fVar 1) (fVar 5)))) fNil)) (bName 3))
    (sSeq (sIf (fNot (fTru (fCall (clF 2 F__law_same) (fCons (fCall (clF 2 F_plus) (fCons (fVar 0) (fCons (fVar 1) fNil))) (fCons (fVar 3) fNil))))) (sRet (fC (.bl false))) sNext)
    (sSeq (sIf (fNot (fTru (fCall (clF 2 F__law_same) (fCons (fCall (clF 2 F_lesser) (fCons (fVar 0) (fCons (fVar 1) fNil))) (fCons (fCall oTuple (fCons (fLc false (fIt (fVar 2)) [5] (bName 5) fYes (fCall oMin2 (fCons (fOp oIx (fVar 0) (fVar 5)) (fCons (fOp oIx (fVar 1) (fVar 5)) fNil)))) fNil)) fNil))))) (sRet (fC (.bl false))) sNext)
    (sSeq (sIf (fNot (fTru (fCall (clF 2 F__law_same) (fCons (fCall (clF 2 F_greater) (fCons (fVar 0) (fCons (fVar 1) fNil))) (fCons (fCall oTuple (fCons (fLc false (fIt (fVar 2)) [5] (bName 5) fYes (fCall oMax2 (fCons (fOp oIx (fVar 0) (fVar 5)) (fCons (fOp oIx (fVar 1) (fVar 5)) fNil)))) fNil)) fNil))))) (sRet (fC (.bl false))) sNext)
    (sSeq (sAsg (fLc false (fIt (fVar 2)) [5] (bName 5) (fTest (fOp oGt (fOp oIx (fVar 1) (fVar 5)) (fOp oIx (fVar 0) (fVar 5)))) (fVar 5)) (bName 4))
    (sSeq (sIf (fNot (fTru (fCall (clF 2 F__law_same) (fCons (fCall (clF 2 F_within) (fCons (fVar 1) (fCons (fVar 0) fNil))) (fCons (fOp oEq (fCall oLen (fCons (fVar 4) fNil)) (fC (.int 0))) fNil))))) (sRet (fC (.bl false))) sNext)
    (sSeq (sIf (fTest (fOp oGt (fCall oLen (fCons (fVar 4) fNil)) (fC (.int 0)))) (sIf (fNot (fTru (fCall (clF 2 F__law_same) (fCons (fCall (clF 2 F__law_refused) (fCons (fVar 0) (fCons (fVar 1) fNil))) (fCons (fTup (fCons (fVar 1) (fCons (fC (.bl true)) (fCons (fC (.bl true)) (fCons (fC (.bl false)) fNil))))) fNil))))) (sRet (fC (.bl false))) sNext) (sIf (fNot (fTru (fCall (clF 2 F__law_same) (fCons (fCall (clF 2 F_minus) (fCons (fVar 0) (fCons (fVar 1) fNil))) (fCons (fCall oTuple (fCons (fLc false (fIt (fVar 2)) [5] (bName 5) fYes (fOp oSub (fOp oIx (fVar 0) (fVar 5)) (fOp oIx (fVar 1) (fVar 5)))) fNil)) fNil))))) (sRet (fC (.bl false))) sNext))
    (sSeq (sIf (fNot (fTru (fCall (clF 2 F__law_same) (fCons (fCall (clF 2 F_minus) (fCons (fVar 3) (fCons (fVar 1) fNil))) (fCons (fVar 0) fNil))))) (sRet (fC (.bl false))) sNext)
    (sRet (fCall (clF 2 F__law_same) (fCons (fCall (clF 1 F_size) (fCons (fVar 3) fNil)) (fCons (fOp oAdd (fCall oSum (fCons (fVar 0) fNil)) (fCall oSum (fCons (fVar 1) fNil))) fNil)))))))))))))
def F__law_pair_holds : DFn := bodyF 6 fs__law_pair_holds
def fs__law_alone_holds : FS := (sSeq (sAsg (fLc false (fRng1 (fCons (fCall oLen (fCons (fVar 0) fNil)) fNil)) [3] (bName 3) (fTest (fOp oGt (fOp oIx (fVar 0) (fVar 3)) (fC (.int 0)))) (fVar 3)) (bName 1))
    (sSeq (sAsg (fCall (clF 1 F_kinds_in) (fCons (fVar 0) fNil)) (bName 2))
    (sSeq (sIf (fNot (fTru (fCall (clF 2 F__law_same) (fCons (fVar 2) (fCons (fVar 1) fNil))))) (sRet (fC (.bl false))) sNext)
    (sSeq (sExpr (fMeth1 appK (fVar 2) (fCons (fC (.int 0)) fNil)))
    (sSeq (sSetIx (fVar 2) (fC (.int 0)) (fC (.int 9)))
    (sRet (fAndV (fCall (clF 2 F__law_same) (fCons (fCall (clF 1 F_kinds_in) (fCons (fVar 0) fNil)) (fCons (fVar 1) fNil))) (fCall (clF 2 F__law_same) (fCons (fCall (clF 1 F_size) (fCons (fVar 0) fNil)) (fCons (fCall oSum (fCons (fVar 0) fNil)) fNil))))))))))
def F__law_alone_holds : DFn := bodyF 4 fs__law_alone_holds
def fs_law : FS := (sSeq (sAsg (fCall (clF 2 F__law_pool) (fCons (fVar 0) (fCons (fC (.int 0)) fNil))) (bName 1))
    (sSeq (sAsg (fOp oAdd (fC (.int 1)) (fCall (clF 2 F__law_draw) (fCons (fVar 1) (fCons (fC (.int 6)) fNil)))) (bName 2))
    (sSeq (sIf (fTest (fOp oEq (fCall (clF 2 F__law_draw) (fCons (fVar 1) (fCons (fC (.int 8)) fNil))) (fC (.int 0)))) (sAsg (fOp oAdd (fC (.int 7)) (fCall (clF 2 F__law_draw) (fCons (fVar 1) (fCons (fC (.int 6)) fNil)))) (bName 2)) sNext)
    (sSeq (sAsg (fCall oTuple (fCons (fLc false (fRng1 (fCons (fVar 2) fNil)) [9] (bName 9) fYes (fCall (clF 1 F__law_count) (fCons (fVar 1) fNil))) fNil)) (bName 3))
    (sSeq (sIf (fTest (fOp oEq (fCall (clF 2 F__law_draw) (fCons (fVar 1) (fCons (fC (.int 2)) fNil))) (fC (.int 0)))) (sAsg (fCall oTuple (fCons (fLc false (fIt (fVar 3)) [10] (bName 10) fYes (fCall (clF 2 F__law_draw) (fCons (fVar 1) (fCons (fOp oAdd (fVar 10) (fC (.int 1))) fNil)))) fNil)) (bName 4)) (sAsg (fCall oTuple (fCons (fLc false (fRng1 (fCons (fVar 2) fNil)) [9] (bName 9) fYes (fCall (clF 1 F__law_count) (fCons (fVar 1) fNil))) fNil)) (bName 4)))
    (sSeq (sAsg (fCall (clF 2 F__law_more) (fCons (fVar 3) (fCons (fCall (clF 2 F__law_draw) (fCons (fVar 1) (fCons (fVar 2) fNil))) fNil))) (bName 5))
    (sSeq (sFor (fIt (fLst false (fCons (fTup (fCons (fVar 3) (fCons (fVar 4) fNil))) (fCons (fTup (fCons (fVar 4) (fCons (fVar 3) fNil))) (fCons (fTup (fCons (fVar 3) (fCons (fVar 5) fNil))) (fCons (fTup (fCons (fVar 5) (fCons (fVar 3) fNil))) (fCons (fTup (fCons (fVar 3) (fCons (fVar 3) fNil))) fNil))))))) (bTup 2 (bCons (bName 6) (bCons (bName 7) bNil))) (sIf (fNot (fTru (fCall (clF 2 F__law_pair_holds) (fCons (fVar 6) (fCons (fVar 7) fNil))))) (sRet (fC (.bl false))) sNext))
    (sSeq (sFor (fIt (fLst false (fCons (fVar 3) (fCons (fVar 4) (fCons (fVar 5) fNil))))) (bName 8) (sIf (fNot (fTru (fCall (clF 1 F__law_alone_holds) (fCons (fVar 8) fNil)))) (sRet (fC (.bl false))) sNext))
    (sRet (fCall (clF 2 F__law_pair_holds) (fCons (fVar 3) (fCons (fVar 4) fNil))))))))))))
def F_law : DFn := bodyF 11 fs_law
end FCL

set_option Elab.async false
set_option linter.all false
set_option maxRecDepth 100000
set_option maxHeartbeats 4000000
namespace FCL
open PySem PySem.Spec L2 FC
theorem g_size (xs : List Int) (S : Store) : F_size [tIn xs] S = some (.ok (.int xs.sum) S) := by
  simp [F_size, fs_size]
/-- the zip comprehensions -/
theorem g_zipc {fe : FE} {g : Int → Int → Dv} (xs ys : List Int) (S : Store) (env0 : DEnv) (h4 : ∃ a b c d, env0 = [a, b, c, d]) (hl : xs.length ≤ 100)
    (h : ∀ x y : Int, ∀ a b, fe [a, b, some (.int x), some (.int y)] S = some (.ok (g x y) S)) :
    compM (bTup 2 (bCons (bName 2) (bCons (bName 3) bNil))) fYes fe env0 (pairs (xs.map .int) (ys.map .int)) [] S = some (.ok ((xs.zip ys).map fun p => g p.1 p.2) S) := by
  obtain ⟨a, b, c, d, rfl⟩ := h4
  rw [pairs_ints]
  have hz : (xs.zip ys).length ≤ big := by simp [big]; omega
  exact compM_map (encP) (fun p => g p.1 p.2) _ hz fun p _ => ⟨[a, b, some (.int p.1), some (.int p.2)], by simp [encP], h _ _ _ _⟩
def zs (f : Int → Int → Int) (xs ys : List Int) : List Int := (xs.zip ys).map fun p => f p.1 p.2
def zb (xs ys : List Int) : Bool := ((xs.zip ys).map fun p => decide (p.1 ≤ p.2)).all id
theorem g_plus (xs ys : List Int) (S : Store) (hl : xs.length ≤ 100) : F_plus [tIn xs, tIn ys] S = some (.ok (tIn (zs (· + ·) xs ys)) S) := by
  have := g_zipc (fe := fOp oAdd (fVar 2) (fVar 3)) (g := fun x y => .int (x + y)) xs ys S [some (tIn xs), some (tIn ys), none, none] ⟨_, _, _, _, rfl⟩ hl (by intros; simp)
  simp [F_plus, fs_plus]
  rw [this]
  simp [zs]
theorem g_sub (xs ys : List Int) (S : Store) (hl : xs.length ≤ 100) (env0 : DEnv) (h4 : ∃ a b c d, env0 = [a, b, c, d]) : compM (bTup 2 (bCons (bName 2) (bCons (bName 3) bNil))) fYes (fOp oSub (fVar 2) (fVar 3)) env0 (pairs (xs.map .int) (ys.map .int)) [] S = some (.ok ((zs (· - ·) xs ys).map .int) S) := by
  have := g_zipc (fe := fOp oSub (fVar 2) (fVar 3)) (g := fun x y => .int (x - y)) xs ys S env0 h4 hl (by intros; simp)
  rw [this]
  simp [zs]
theorem g_lesser (xs ys : List Int) (S : Store) (hl : xs.length ≤ 100) : F_lesser [tIn xs, tIn ys] S = some (.ok (tIn (zs min xs ys)) S) := by
  have := g_zipc (fe := fCall oMin2 (fCons (fVar 2) (fCons (fVar 3) fNil))) (g := fun x y => .int (min x y)) xs ys S [some (tIn xs), some (tIn ys), none, none] ⟨_, _, _, _, rfl⟩ hl (by intros; simp)
  simp [F_lesser, fs_lesser]
  rw [this]
  simp [zs]
theorem g_greater (xs ys : List Int) (S : Store) (hl : xs.length ≤ 100) : F_greater [tIn xs, tIn ys] S = some (.ok (tIn (zs max xs ys)) S) := by
  have := g_zipc (fe := fCall oMax2 (fCons (fVar 2) (fCons (fVar 3) fNil))) (g := fun x y => .int (max x y)) xs ys S [some (tIn xs), some (tIn ys), none, none] ⟨_, _, _, _, rfl⟩ hl (by intros; simp)
  simp [F_greater, fs_greater]
  rw [this]
  simp [zs]
theorem g_within (xs ys : List Int) (S : Store) (hl : xs.length ≤ 100) : F_within [tIn xs, tIn ys] S = some (.ok (.bl (zb xs ys)) S) := by
  have := g_zipc (fe := fOp oLe (fVar 2) (fVar 3)) (g := fun x y => .bl (decide (x ≤ y))) xs ys S [some (tIn xs), some (tIn ys), none, none] ⟨_, _, _, _, rfl⟩ hl (by intros; simp)
  simp [F_within, fs_within]
  rw [this]
  have e : (List.map (fun p : Int × Int => Dv.bl (decide (p.1 ≤ p.2))) (xs.zip ys)) = ((xs.zip ys).map fun p => decide (p.1 ≤ p.2)).map .bl := by simp
  rw [e]
  simp only [asBls_map']
  rfl
theorem g_minus_ok (xs ys : List Int) (S : Store) (hl : xs.length ≤ 100) (hm : ys.length ≤ 100) (hw : zb ys xs = true) : F_minus [tIn xs, tIn ys] S = some (.ok (tIn (zs (· - ·) xs ys)) S) := by
  simp [F_minus, fs_minus]
  rw [g_within ys xs S hm]
  simp [hw]
  rw [g_sub xs ys S hl _ ⟨_, _, _, _, rfl⟩]
theorem g_minus_no (xs ys : List Int) (S : Store) (hm : ys.length ≤ 100) (hw : zb ys xs = false) : F_minus [tIn xs, tIn ys] S = some (.exc "BadCrowd" [("crowd", tIn ys)] S) := by
  simp [F_minus, fs_minus]
  rw [g_within ys xs S hm]
  simp [hw]
/-- the kinds that are in -/
def kin (xs : List Int) : List Int := (((upTo 0 xs.length).zip xs).filter fun p => decide (0 < p.2)).map (·.1)
theorem g_kinds (xs : List Int) (S : Store) (hl : xs.length ≤ 100) : F_kinds_in [tIn xs] S = some (.ok (.obj S.length) (S ++ [lIn (kin xs)])) := by
  have hz : ((upTo 0 xs.length).zip xs).length ≤ big := by simp [big]; omega
  have := compM_pure (b := bTup 2 (bCons (bName 1) (bCons (bName 2) bNil))) (ft := fTest (fOp oGt (fVar 2) (fC (.int 0)))) (fe := fVar 1) (env0 := [some (tIn xs), none, none]) (S := S) encP (fun p => decide (0 < p.2)) (fun p => .int p.1) ((upTo 0 xs.length).zip xs) [] (by simpa using hz) fun p _ => ⟨[some (tIn xs), some (.int p.1), some (.int p.2)], by simp [encP], by simp, by simp⟩
  rw [← numbered_ints] at this
  simp [F_kinds_in, fs_kinds_in]
  rw [this]
  simp [kin, List.map_map, Function.comp_def]
theorem g_pool (ns : List Int) (S : Store) : ∃ a c : Int, 0 ≤ a ∧ 0 ≤ c ∧ c < 999999937 ∧ F__law_pool [.lst (ns.map .int), .int 0] S = some (.ok (.obj S.length) (S ++ [.lst [.int a, .int 0, .int c]])) := by
  cases ns with
  | nil => exact ⟨0, 0, by decide, by decide, by decide, by simp [F__law_pool, fs__law_pool, newM, CO]⟩
  | cons n ns =>
    have e : atI (Dv.int n :: ns.map Dv.int) 0 = some (.int n) := by simp [atI, ixN]
    by_cases h : (1000000000000000000 : Int) ≤ n.natAbs
    · refine ⟨n.natAbs - 1000000000000000000, n.natAbs % 999999937, by omega, by omega, by omega, ?_⟩
      simp [F__law_pool, fs__law_pool, newM, e, h]
    · refine ⟨0, n.natAbs % 999999937, by omega, by omega, by omega, ?_⟩
      simp [F__law_pool, fs__law_pool, newM, e, h]
/-- the pool: at most k draws were made -/
def Pl (k : Nat) (rest S : Store) : Prop := ∃ a b c : Int, 0 ≤ a ∧ 0 ≤ b ∧ b ≤ k ∧ 0 ≤ c ∧ c < 999999937 ∧ S = .lst [.int a, .int b, .int c] :: rest
theorem g_draw {k : Nat} {rest S : Store} (m : Int) (h : Pl k rest S) (hk : k ≤ 1000000) (hm : 0 < m) (hm2 : m < 2 ^ 100) : ∃ v S', F__law_draw [.obj 0, .int m] S = some (.ok (.int v) S') ∧ 0 ≤ v ∧ v < m ∧ Pl (k + 1) rest S' := by
  obtain ⟨a, b, c, ha, hb, hbk, hc, hc2, rfl⟩ := h
  have e0 : atI [Dv.int a, Dv.int (b + 1), Dv.int c] 0 = some (.int a) := rfl
  have e1 : atI [Dv.int a, Dv.int (b + 1), Dv.int c] 1 = some (.int (b + 1)) := rfl
  have e2 : atI [Dv.int a, Dv.int (b + 1), Dv.int c] 2 = some (.int c) := rfl
  have f1 : atI [Dv.int a, Dv.int b, Dv.int c] 1 = some (.int b) := rfl
  have x0 : ixN 3 0 = some 0 := rfl
  have x1 : ixN 3 1 = some 1 := rfl
  by_cases z : 0 < a
  · refine ⟨a % m, _, ?_, Int.emod_nonneg _ (by omega), Int.emod_lt_of_pos _ hm, a / m, b + 1, c, Int.ediv_nonneg ha (by omega), by omega, by omega, hc, hc2, rfl⟩
    have hd : oDiv (.int a) (.int m) (Dv.lst [Dv.int a, Dv.int (b + 1), Dv.int c] :: rest) = _ := oDiv_i hm (log2_lt (k := 100) (by omega) (by decide) (by decide))
    simp [F__law_draw, fs__law_draw, e0, e1, e2, f1, x0, x1, z, hm, hd]
  · generalize hS : (Dv.lst [Dv.int a, Dv.int (b + 1), Dv.int c] :: rest : Store) = S1
    have g0 : S1[0]? = some (Dv.lst [Dv.int a, Dv.int (b + 1), Dv.int c]) := by rw [← hS]; rfl
    have m1 : oMul (.int c) (.int 7919) S1 = _ := oMul_b hc (by omega) (by decide) (by decide)
    have m2 : oMul (.int (b + 1)) (.int 104729) S1 = _ := oMul_b (by omega) (by omega) (by decide) (by decide)
    have m3 : oMul (.int (b + 1)) (.int 31) S1 = _ := oMul_b (by omega) (by omega) (by decide) (by decide)
    have m4 : oMul (.int (b + 1)) (.int (b + 1)) S1 = _ := oMul_b (by omega) (by omega) (by omega) (by omega)
    have d1 : ∀ i, oDiv (.int i) (.int 1000) S1 = _ := fun i => oDiv_b (by decide) (by decide)
    have d2 : ∀ i, oDiv (.int i) (.int 1009) S1 = _ := fun i => oDiv_b (by decide) (by decide)
    have d3 : ∀ i, oDiv (.int i) (.int 7) S1 = _ := fun i => oDiv_b (by decide) (by decide)
    generalize hx : (c * 7919 + (b + 1) * 104729 + 12345) % 1000003 = x
    have hx0 : 0 ≤ x ∧ x < 1000003 := by omega
    have m5 : oMul (.int x) (.int x) S1 = _ := oMul_b hx0.1 (by omega) hx0.1 (by omega)
    generalize hy : (x * x + (b + 1) * 31 + c / 1000 + 7) % 998244353 = y
    have hy0 : 0 ≤ y ∧ y < 998244353 := by rw [← hy]; exact ⟨Int.emod_nonneg _ (by decide), Int.emod_lt_of_pos _ (by decide)⟩
    have m6 : oMul (.int y) (.int 48271) S1 = _ := oMul_b hy0.1 (by omega) (by decide) (by decide)
    refine ⟨(y * 48271 + y / 1009 + (b + 1) * (b + 1)) % 2147483647 / 7 % m, S1, ?_, Int.emod_nonneg _ (by omega), Int.emod_lt_of_pos _ hm, a, b + 1, c, ha, by omega, by omega, hc, hc2, hS.symm⟩
    simp [F__law_draw, fs__law_draw, e0, e1, e2, f1, x0, x1, z, hm, hS, g0, m1, m2, m3, m4, hx, m5, d1, hy, m6, d2, d3]
@[simp] theorem s_bl (n : Nat) (b c : Bool) (S : Store) : it__law_same (n + 1) [.bl b, .bl c] S = some (.ok (.bl (decide (b = c))) S) := by
  simp [it__law_same, fs__law_same, oEq, eqD, eqS]
@[simp] theorem s_int (n : Nat) (i j : Int) (S : Store) : it__law_same (n + 1) [.int i, .int j] S = some (.ok (.bl (decide (i = j))) S) := by
  simp [it__law_same, fs__law_same]
theorem mem_upTo {n : Nat} {i : Int} (h : i ∈ upTo 0 n) : ∃ k : Nat, k < n ∧ i = k := by
  rw [upTo_range] at h
  simp at h
  obtain ⟨k, hk, e⟩ := h
  exact ⟨k, hk, e.symm⟩
theorem atI_nat {α : Type} (xs : List α) (k : Nat) : atI xs (k : Int) = xs[k]? := by
  unfold atI ixN
  by_cases h : k < xs.length
  · rw [if_pos (by omega), if_pos (by omega)]; simp
  · rw [if_pos (by omega), if_neg (by omega)]; simp; omega
/-- two sequences whose members are the same -/
theorem s_loop {n : Nat} {x y : Dv} {xs ys : List Dv} {S : Store} (hx : seqOf x S = some xs) (hy : seqOf y S = some ys) (hl : xs.length = ys.length)
    (h : ∀ (k : Nat) a b, xs[k]? = some a → ys[k]? = some b → it__law_same n [a, b] S = some (.ok (.bl true) S)) (c : Option Dv) :
    ∃ c', forM' (bName 2) (sIf (fNot (fTru (fCall (clF 2 (it__law_same n)) (fCons (fOp oIx (fVar 0) (fVar 2)) (fCons (fOp oIx (fVar 1) (fVar 2)) fNil))))) (sRet (fC (.bl false))) sNext) ((upTo 0 ys.length).map .int) [some x, some y, c] S = some (.nx [some x, some y, c'] S) := by
  obtain ⟨env', h1, c', rfl⟩ := forM_all (b := bName 2) (fb := sIf (fNot (fTru (fCall (clF 2 (it__law_same n)) (fCons (fOp oIx (fVar 0) (fVar 2)) (fCons (fOp oIx (fVar 1) (fVar 2)) fNil))))) (sRet (fC (.bl false))) sNext) (S := S) Dv.int (fun env => ∃ c, env = [some x, some y, c]) (upTo 0 ys.length) [some x, some y, c] ⟨c, rfl⟩ fun i hi env ⟨c, e⟩ => by
    subst e
    obtain ⟨k, hk, rfl⟩ := mem_upTo hi
    have ex : xs[k]? = some xs[k] := List.getElem?_eq_getElem (by omega)
    have ey : ys[k]? = some ys[k] := List.getElem?_eq_getElem hk
    refine ⟨[some x, some y, some (.int k)], [some x, some y, some (.int k)], by simp, ?_, _, rfl⟩
    have := h k _ _ ex ey
    unfold seqOf at hx hy
    simp [hx, hy, atI_nat, ex, ey, this]
  exact ⟨c', h1⟩
theorem s_tup (n : Nat) (xs ys : List Dv) (S : Store) (hl : xs.length = ys.length) (hb : ys.length ≤ 1000000) (h : ∀ (k : Nat) a b, xs[k]? = some a → ys[k]? = some b → it__law_same n [a, b] S = some (.ok (.bl true) S)) : it__law_same (n + 1) [.tup xs, .tup ys] S = some (.ok (.bl true) S) := by
  obtain ⟨c', hc⟩ := s_loop (x := .tup xs) (y := .tup ys) (n := n) (S := S) (by simp) (by simp) hl h none
  simp [it__law_same, fs__law_same, hl, hb, hc]
theorem s_lst (n k : Nat) (xs ys : List Dv) (S : Store) (hS : S[k]? = some (.lst xs)) (hl : xs.length = ys.length) (hb : ys.length ≤ 1000000) (h : ∀ (k : Nat) a b, xs[k]? = some a → ys[k]? = some b → it__law_same n [a, b] S = some (.ok (.bl true) S)) : it__law_same (n + 1) [.obj k, .lst ys] S = some (.ok (.bl true) S) := by
  obtain ⟨c', hc⟩ := s_loop (x := .obj k) (y := .lst ys) (n := n) (S := S) (by simp [hS]) (by simp) hl h none
  simp [it__law_same, fs__law_same, hS, hl, hb, hc]
theorem s_ints (n : Nat) (xs : List Int) (S : Store) : ∀ (k : Nat) a b, (xs.map Dv.int)[k]? = some a → (xs.map Dv.int)[k]? = some b → it__law_same (n + 1) [a, b] S = some (.ok (.bl true) S) := fun k a b h1 h2 => by
  rw [h1] at h2
  cases h2
  rw [List.getElem?_map] at h1
  cases e : xs[k]? with
  | none => rw [e] at h1; cases h1
  | some i => rw [e] at h1; cases h1; simp
theorem s_tIn (n : Nat) (xs : List Int) (S : Store) (h : xs.length ≤ 1000000) : it__law_same (n + 2) [tIn xs, tIn xs] S = some (.ok (.bl true) S) := s_tup (n + 1) _ _ S rfl (by simpa using h) (s_ints n xs S)
theorem s_lIn (n k : Nat) (xs : List Int) (S : Store) (hS : S[k]? = some (lIn xs)) (h : xs.length ≤ 1000000) : it__law_same (n + 2) [.obj k, lIn xs] S = some (.ok (.bl true) S) := s_lst (n + 1) k _ _ S hS rfl (by simpa using h) (s_ints n xs S)
theorem Pl.mono {k m : Nat} {rest S : Store} (h : Pl k rest S) (hk : k ≤ m) : Pl m rest S := by
  obtain ⟨a, b, c, h1, h2, h3, h4⟩ := h
  exact ⟨a, b, c, h1, h2, by omega, h4⟩
theorem g_count {k : Nat} {rest S : Store} (h : Pl k rest S) (hk : k ≤ 100000) : ∃ v S', F__law_count [.obj 0] S = some (.ok (.int v) S') ∧ 0 ≤ v ∧ v < 10 ^ 20 ∧ Pl (k + 4) rest S' := by
  obtain ⟨a, S1, h1, a0, a1, p1⟩ := g_draw 3 h (by omega) (by decide) (by decide)
  by_cases z : 0 < a
  · obtain ⟨b, S2, h2, b0, b1, p2⟩ := g_draw 5 p1 (by omega) (by decide) (by decide)
    exact ⟨b, S2, by simp [F__law_count, fs__law_count, h1, h2, z], b0, by omega, p2.mono (by omega)⟩
  · obtain ⟨x, S2, h2, x0, x1, p2⟩ := g_draw 10000000 p1 (by omega) (by decide) (by decide)
    obtain ⟨y, S3, h3, y0, y1, p3⟩ := g_draw 10000000 p2 (by omega) (by decide) (by decide)
    obtain ⟨u, S4, h4, u0, u1, p4⟩ := g_draw 1000000 p3 (by omega) (by decide) (by decide)
    have m1 : oMul (.int x) (.int 10000000) S4 = _ := oMul_b x0 (by omega) (by decide) (by decide)
    have m2 : oMul (.int (x * 10000000 + y)) (.int 1000000) S4 = _ := oMul_b (by omega) (by omega) (by decide) (by decide)
    exact ⟨(x * 10000000 + y) * 1000000 + u, S4, by simp [F__law_count, fs__law_count, h1, h2, h3, h4, z, m1, m2], by omega, by omega, p4⟩
theorem g_refused (xs ys : List Int) (S : Store) (hm : ys.length ≤ 100) (hw : zb ys xs = false) : F__law_refused [tIn xs, tIn ys] S = some (.ok (.tup [tIn ys, .bl true, .bl true, .bl false]) S) := by
  have := g_minus_no xs ys S hm hw
  simp [F__law_refused, fs__law_refused, this, sTryAs]
/-- a comprehension over the places -/
theorem g_ixc {fe : FE} {g : Int → Int → Dv} (xs ys : List Int) (S : Store) (x0 x1 a b c d : Option Dv) (hl : xs.length = ys.length) (hx : xs.length ≤ 100)
    (h : ∀ (k : Nat) x y, xs[k]? = some x → ys[k]? = some y → fe [x0, x1, a, b, c, some (.int k)] S = some (.ok (g x y) S)) :
    compM (bName 5) fYes fe [x0, x1, a, b, c, d] ((upTo 0 xs.length).map .int) [] S = some (.ok ((xs.zip ys).map fun p => g p.1 p.2) S) := by
  have := compM_map (b := bName 5) (fe := fe) (env0 := [x0, x1, a, b, c, d]) (S := S) Dv.int (fun i => g (xs.getD i.toNat 0) (ys.getD i.toNat 0)) (upTo 0 xs.length) (by simp [upTo_range]; omega) fun i hi => by
    obtain ⟨k, hk, rfl⟩ := mem_upTo hi
    refine ⟨[x0, x1, a, b, c, some (.int k)], by simp, ?_⟩
    rw [h k xs[k] ys[k] (List.getElem?_eq_getElem hk) (List.getElem?_eq_getElem (by omega))]
    simp [hk, show k < ys.length by omega]
  rw [this]
  congr 2
  apply List.ext_getElem
  · simp [upTo_range, hl]
  · intro i h1 h2
    simp [upTo_range] at h1 h2
    simp [upTo_range, h1, show i < ys.length by omega]
theorem zb_iff (xs ys : List Int) (hl : xs.length = ys.length) : zb ys xs = true ↔ ∀ (k : Nat) x y, xs[k]? = some x → ys[k]? = some y → y ≤ x := by
  unfold zb
  rw [List.all_eq_true]
  constructor
  · intro h k x y hx hy
    have := h (decide (y ≤ x)) (List.mem_map.2 ⟨(y, x), List.mem_of_getElem? (i := k) (by simp [List.getElem?_zip_eq_some, hx, hy]), rfl⟩)
    simpa using this
  · intro h b hb
    obtain ⟨p, hp, rfl⟩ := List.mem_map.1 hb
    obtain ⟨k, hk⟩ := List.mem_iff_getElem?.1 hp
    rw [List.getElem?_zip_eq_some] at hk
    simpa using h k _ _ hk.2 hk.1

theorem zs_len (f : Int → Int → Int) (xs ys : List Int) (hl : xs.length = ys.length) : (zs f xs ys).length = xs.length := by simp [zs, hl]
theorem zs_get (f : Int → Int → Int) (xs ys : List Int) (k : Nat) : (zs f xs ys)[k]? = match xs[k]?, ys[k]? with
  | some x, some y => some (f x y)
  | _, _ => none := by
  unfold zs
  rw [List.getElem?_map]
  cases hx : xs[k]? <;> cases hy : ys[k]? <;> simp [List.getElem?_eq_none_iff, List.getElem?_eq_some_iff] at hx hy ⊢
  · omega
  · omega
  · omega
  · obtain ⟨h1, h2⟩ := hx
    obtain ⟨h3, h4⟩ := hy
    simp [List.getElem?_eq_getElem, h1, h3, h2, h4]
    exact ⟨_, _, ⟨rfl, by omega, rfl⟩, rfl⟩
theorem zs_sum : ∀ xs ys : List Int, xs.length = ys.length → (zs (· + ·) xs ys).sum = xs.sum + ys.sum
  | [], [], _ => by simp [zs]
  | x :: xs, y :: ys, h => by
    have := zs_sum xs ys (by simpa using h)
    simp [zs] at this ⊢
    omega
  | [], _ :: _, h => by simp at h
  | _ :: _, [], h => by simp at h
theorem zs_back : ∀ xs ys : List Int, xs.length = ys.length → zs (· - ·) (zs (· + ·) xs ys) ys = xs
  | [], [], _ => by simp [zs]
  | x :: xs, y :: ys, h => by
    have := zs_back xs ys (by simpa using h)
    simp [zs] at this ⊢
    exact this
  | [], _ :: _, h => by simp at h
  | _ :: _, [], h => by simp at h
theorem zb_plus (xs ys : List Int) (hl : xs.length = ys.length) (h0 : ∀ x ∈ xs, 0 ≤ x) : zb ys (zs (· + ·) xs ys) = true := by
  rw [zb_iff _ _ (by rw [zs_len _ _ _ hl, hl])]
  intro k x y hx hy
  rw [zs_get, hy] at hx
  cases e : xs[k]? with
  | none => rw [e] at hx; cases hx
  | some z =>
    rw [e] at hx
    cases hx
    have := h0 z (List.mem_of_getElem? e)
    omega
/-- the places where ys has more -/
def ov (xs ys : List Int) : List Int := (upTo 0 xs.length).filter fun i => decide (xs.getD i.toNat 0 < ys.getD i.toNat 0)
theorem ov_nil (xs ys : List Int) (hl : xs.length = ys.length) : decide ((ov xs ys).length = 0) = zb ys xs := by
  rw [Bool.eq_iff_iff, zb_iff xs ys hl]
  simp [ov, upTo_range, List.filter_eq_nil_iff]
  constructor
  · intro h k x y hx hy
    have := h k (List.getElem?_eq_some_iff.1 hx).1
    simpa [hx, hy] using this
  · intro h k hk
    have := h k xs[k] ys[k] (List.getElem?_eq_getElem hk) (List.getElem?_eq_getElem (by omega))
    simpa [hk, show k < ys.length by omega] using this
theorem g_ov (xs ys : List Int) (S : Store) (b c d : Option Dv) (e : DEnv) (he : e = [some (tIn xs), some (tIn ys), b, c, d, none]) (hl : xs.length = ys.length) (hx : xs.length ≤ 100) :
    compM (bName 5) (fTest (fOp oGt (fOp oIx (fVar 1) (fVar 5)) (fOp oIx (fVar 0) (fVar 5)))) (fVar 5) e ((upTo 0 xs.length).map .int) [] S = some (.ok ((ov xs ys).map .int) S) := by
  subst he
  have := compM_pure (b := bName 5) (ft := fTest (fOp oGt (fOp oIx (fVar 1) (fVar 5)) (fOp oIx (fVar 0) (fVar 5)))) (fe := fVar 5) (env0 := [some (tIn xs), some (tIn ys), b, c, d, none]) (S := S) Dv.int (fun i => decide (xs.getD i.toNat 0 < ys.getD i.toNat 0)) Dv.int (upTo 0 xs.length) [] (by simp [upTo_range]; omega) fun i hi => by
    obtain ⟨k, hk, rfl⟩ := mem_upTo hi
    have h2 : k < ys.length := by omega
    refine ⟨[some (tIn xs), some (tIn ys), b, c, d, some (.int k)], by simp, ?_, by simp⟩
    simp [atI_nat, hk, h2]
  rw [this]
  simp [ov]

set_option maxHeartbeats 0
theorem g_pair (xs ys : List Int) (S : Store) (hl : xs.length = ys.length) (hx : xs.length ≤ 100) (h0 : ∀ x ∈ xs, 0 ≤ x) : F__law_pair_holds [tIn xs, tIn ys] S = some (.ok (.bl true) S) := by
  have e1 := fLr1_len (S := S) (fa := fCall oLen (fCons (fVar 0) fNil)) (env := [some (tIn xs), some (tIn ys), none, none, none, none]) (n := xs.length) (by simp) (by omega)
  have ga : ∀ (x y : Int) (k : Nat), xs[k]? = some x → ys[k]? = some y → atI (xs.map Dv.int) k = some (.int x) ∧ atI (ys.map Dv.int) k = some (.int y) := fun x y k h1 h2 => by simp [atI_nat, h1, h2]
  have c1 := g_ixc (fe := fOp oAdd (fOp oIx (fVar 0) (fVar 5)) (fOp oIx (fVar 1) (fVar 5))) (g := fun x y => .int (x + y)) xs ys S (some (tIn xs)) (some (tIn ys)) (some (.lst ((upTo 0 xs.length).map .int))) none none none hl hx fun k x y h1 h2 => by
    obtain ⟨a, b⟩ := ga x y k h1 h2
    simp [a, b]
  have c2 := fun u => g_ixc (fe := fCall oMin2 (fCons (fOp oIx (fVar 0) (fVar 5)) (fCons (fOp oIx (fVar 1) (fVar 5)) fNil))) (g := fun x y => .int (min x y)) xs ys S (some (tIn xs)) (some (tIn ys)) (some (.lst ((upTo 0 xs.length).map .int))) (some u) none none hl hx fun k x y h1 h2 => by
    obtain ⟨a, b⟩ := ga x y k h1 h2
    simp [a, b]
  have c3 := fun u => g_ixc (fe := fCall oMax2 (fCons (fOp oIx (fVar 0) (fVar 5)) (fCons (fOp oIx (fVar 1) (fVar 5)) fNil))) (g := fun x y => .int (max x y)) xs ys S (some (tIn xs)) (some (tIn ys)) (some (.lst ((upTo 0 xs.length).map .int))) (some u) none none hl hx fun k x y h1 h2 => by
    obtain ⟨a, b⟩ := ga x y k h1 h2
    simp [a, b]
  have c4 := fun u v => g_ixc (fe := fOp oSub (fOp oIx (fVar 0) (fVar 5)) (fOp oIx (fVar 1) (fVar 5))) (g := fun x y => .int (x - y)) xs ys S (some (tIn xs)) (some (tIn ys)) (some (.lst ((upTo 0 xs.length).map .int))) (some u) (some v) none hl hx fun k x y h1 h2 => by
    obtain ⟨a, b⟩ := ga x y k h1 h2
    simp [a, b]
  have c5 := fun u => g_ov xs ys S (some (.lst ((upTo 0 xs.length).map .int))) (some u) none _ rfl hl hx
  have r1 := g_plus xs ys S hx
  have r2 := g_lesser xs ys S hx
  have r3 := g_greater xs ys S hx
  have r4 := g_within ys xs S (by omega)
  have r5 := g_minus_ok (zs (· + ·) xs ys) ys S (by rw [zs_len _ _ _ hl]; exact hx) (by omega) (zb_plus xs ys hl h0)
  have r6 := g_size (zs (· + ·) xs ys) S
  rw [zs_back xs ys hl] at r5
  rw [zs_sum xs ys hl] at r6
  have sm : ∀ l : List Int, l.length ≤ 100 → F__law_same [tIn l, tIn l] S = _ := fun l h => s_tIn 3 l S (by omega)
  have hz : ∀ f : Int → Int → Int, (zs f xs ys).length ≤ 100 := fun f => by rw [zs_len _ _ _ hl]; exact hx
  have k1 : ∀ f : Int → Int → Int, (List.map (fun p : Int × Int => Dv.int (f p.1 p.2)) (xs.zip ys)) = (zs f xs ys).map Dv.int := fun f => by simp [zs]
  have q0 := ov_nil xs ys hl
  have s3 := sm _ (hz (· + ·))
  have s4 := sm _ (hz min)
  have s5 := sm _ (hz max)
  have s6 := sm _ (hz (· - ·))
  have s7 := sm xs hx
  have b1 : ∀ b c : Bool, F__law_same [.bl b, .bl c] S = _ := fun b c => s_bl 4 b c S
  have i1 : ∀ i j : Int, F__law_same [.int i, .int j] S = _ := fun i j => s_int 4 i j S
  simp only [k1] at c1 c2 c3 c4
  have t1 : F__law_same [.tup [tIn ys, .bl true, .bl true, .bl false], .tup [tIn ys, .bl true, .bl true, .bl false]] S = some (.ok (.bl true) S) := by
    refine s_tup 4 _ _ S rfl (by simp) fun k a b h1 h2 => ?_
    rw [h1] at h2
    cases h2
    match k, h1 with
    | 0, h1 => cases h1; exact s_tIn 2 ys S (by omega)
    | 1, h1 => cases h1; simp
    | 2, h1 => cases h1; simp
    | 3, h1 => cases h1; simp
  cases w : zb ys xs with
  | true =>
    have r7 := g_minus_ok xs ys S hx (by omega) w
    rw [w] at q0 r4
    have q1 : (ov xs ys).length = 0 := by simpa using q0
    simp [F__law_pair_holds, fs__law_pair_holds, e1, c1, c2, c3, c4, c5, r1, r2, r3, r4, r5, r6, r7, s3, s4, s5, s6, s7, b1, i1, q1]
  | false =>
    have r7 := g_refused xs ys S (by omega) w
    rw [w] at q0 r4
    have q1 : (ov xs ys).length ≠ 0 := by simpa using q0
    have q2 : 0 < (ov xs ys).length := by omega
    have q3 : ov xs ys ≠ [] := fun h => q1 (by rw [h]; rfl)
    simp [F__law_pair_holds, fs__law_pair_holds, e1, c1, c2, c3, c4, c5, r1, r2, r3, r4, r5, r6, r7, s3, s4, s5, s6, s7, b1, i1, t1, q1, q2, q3]
theorem zip_upTo (n : Nat) (xs : List Int) (h : xs.length = n) : (upTo 0 n).zip xs = (upTo 0 n).map fun i => (i, xs.getD i.toNat 0) := by
  apply List.ext_getElem
  · simp [upTo_range, h]
  · intro i h1 h2
    simp [upTo_range, h] at h1 h2
    simp [upTo_range, show i < xs.length by omega]
theorem kin_eq (xs : List Int) : kin xs = (upTo 0 xs.length).filter fun i => decide (0 < xs.getD i.toNat 0) := by
  unfold kin
  rw [zip_upTo _ _ rfl, List.filter_map, List.map_map]
  simp [Function.comp_def]
theorem kin_len (xs : List Int) : (kin xs).length ≤ xs.length := by
  rw [kin_eq]
  exact Nat.le_trans (List.length_filter_le _ _) (by simp [upTo_range])
theorem g_alone (xs : List Int) (S : Store) (hx : xs.length ≤ 100) : ∃ S', F__law_alone_holds [tIn xs] S = some (.ok (.bl true) S') := by
  have c1 := compM_pure (b := bName 3) (ft := fTest (fOp oGt (fOp oIx (fVar 0) (fVar 3)) (fC (.int 0)))) (fe := fVar 3) (env0 := [some (tIn xs), none, none, none]) (S := S) Dv.int (fun i => decide (0 < xs.getD i.toNat 0)) Dv.int (upTo 0 xs.length) [] (by simp [upTo_range]; omega) fun i hi => by
    obtain ⟨k, hk, rfl⟩ := mem_upTo hi
    refine ⟨[some (tIn xs), none, none, some (.int k)], by simp, ?_, by simp⟩
    simp [atI_nat, hk]
  rw [← kin_eq, List.nil_append] at c1
  have hk := kin_len xs
  have r1 := g_kinds xs S hx
  have s1 : F__law_same [.obj S.length, lIn (kin xs)] (S ++ [lIn (kin xs)]) = _ := s_lIn 3 S.length (kin xs) _ (by simp) (by omega)
  have k1 : (kin xs).length ≤ 1000000 := by omega
  have hx2 : xs.length ≤ 1000000 := by omega
  generalize hM : (Dv.lst (((kin xs).map Dv.int ++ [Dv.int 0]).set 0 (Dv.int 9))) = M
  have r2 := g_kinds xs (S ++ [M]) hx
  have s2 : F__law_same [.obj (S.length + 1), lIn (kin xs)] (S ++ [M, lIn (kin xs)]) = _ := s_lIn 3 (S.length + 1) (kin xs) _ (by simp) (by omega)
  have i1 : ∀ (i j : Int) S, F__law_same [.int i, .int j] S = _ := fun i j S => s_int 4 i j S
  refine ⟨S ++ [M] ++ [lIn (kin xs)], ?_⟩
  have x1 : ixN ((kin xs).length + 1) 0 = some 0 := by simp [ixN]
  simp only [F__law_alone_holds, fs__law_alone_holds]
  simp [c1, r1, s1, k1, hx2, x1, hM]
  simp [r2, s2, i1, g_size]

theorem g_more (xs : List Int) (i : Nat) (S : Store) (hx : xs.length ≤ 100) (hi : i < xs.length) (h0 : ∀ x ∈ xs, 0 ≤ x) : ∃ ys : List Int, F__law_more [tIn xs, .int i] S = some (.ok (tIn ys) S) ∧ ys.length = xs.length ∧ ∀ y ∈ ys, 0 ≤ y := by
  refine ⟨xs.take i ++ [xs[i] + 1] ++ xs.drop (i + 1), ?_, by simp; omega, ?_⟩
  · have z1 : HT.sIx xs.length xs.length (some (i : Int)) = i := by rw [HT.sIx_nat]; omega
    have z2 : HT.sIx xs.length 0 (some ((i : Int) + 1)) = i + 1 := by
      rw [show ((i : Int) + 1) = ((i + 1 : Nat) : Int) by omega, HT.sIx_nat]; omega
    have n0 : HT.sIx xs.length 0 none = 0 := rfl
    have n1 : HT.sIx xs.length xs.length none = xs.length := rfl
    have e1 : cutD (xs.map Dv.int) none (some (i : Int)) = (xs.take i).map Dv.int := by simp [cutD, z1, n0, List.map_take]
    have e2 : cutD (xs.map Dv.int) (some ((i : Int) + 1)) none = (xs.drop (i + 1)).map Dv.int := by
      simp only [cutD, List.length_map, z2, n1]
      rw [List.take_of_length_le (by simp), List.map_drop]
    have a1 : atI (xs.map Dv.int) (i : Int) = some (.int xs[i]) := by simp [atI_nat, hi]
    have l1 : min i xs.length + 1 ≤ 1000000 := by omega
    have l2 : min i xs.length + 1 + (xs.length - (i + 1)) ≤ 1000000 := by omega
    simp [F__law_more, fs__law_more, n0, n1, z1, z2, e1, e2, a1, l1, l2, show ¬ i = xs.length by omega]
  · intro y hy
    simp at hy
    rcases hy with hy | hy | hy
    · exact h0 y (List.mem_of_mem_take hy)
    · have := h0 xs[i] (List.getElem_mem hi); omega
    · exact h0 y (List.mem_of_mem_drop hy)
/-- data that are all ints with a property -/
theorem ints_of (Q : Int → Prop) : ∀ ys : List Dv, (∀ (k : Nat) y, ys[k]? = some y → ∃ v, y = .int v ∧ Q v) → ∃ vs : List Int, ys = vs.map .int ∧ ∀ v ∈ vs, Q v
  | [], _ => ⟨[], rfl, by simp⟩
  | y :: ys, h => by
    obtain ⟨v, rfl, hv⟩ := h 0 y rfl
    obtain ⟨vs, rfl, hs⟩ := ints_of Q ys fun k y hy => h (k + 1) y (by simpa using hy)
    refine ⟨v :: vs, rfl, fun x hx => ?_⟩
    simp at hx
    rcases hx with rfl | hx
    · exact hv
    · exact hs x hx
theorem g_counts {k n : Nat} {S : Store} (env : DEnv) (h1 : env[1]? = some (some (.obj 0))) (hP : Pl k [] S) (hk : k ≤ 10000) (hn : n ≤ 13) : ∃ (vs : List Int) (S' : Store),
    compM (bName 9) fYes (fCall (clF 1 F__law_count) (fCons (fVar 1) fNil)) env ((upTo 0 n).map .int) [] S = some (.ok (vs.map .int) S') ∧ vs.length = n ∧ (∀ v ∈ vs, 0 ≤ v ∧ v < 10 ^ 20) ∧ Pl (k + 100) [] S' := by
  have hl : (upTo 0 n).length = n := by simp [upTo_range]
  obtain ⟨ys, S', c1, c2, c3, c4⟩ := compM_st (b := bName 9) (fe := fCall (clF 1 F__law_count) (fCons (fVar 1) fNil)) (env0 := env) Dv.int (fun j S => Pl (k + 4 * j) [] S) (fun _ y => ∃ v, y = .int v ∧ 0 ≤ v ∧ v < 10 ^ 20) n (upTo 0 n) [] 0 S (by simp [hl]; omega) (by omega) hP fun x hx j S hN hj => by
    obtain ⟨v, S2, e1, e2, e3, e4⟩ := g_count hj (by omega)
    refine ⟨env.set 9 (some (.int x)), .int v, S2, rfl, ?_, e4, v, rfl, e2, e3⟩
    simp [h1, e1]
  rw [hl] at c2 c3
  obtain ⟨vs, rfl, hv⟩ := ints_of (fun v => 0 ≤ v ∧ v < 10 ^ 20) ys fun i y hy => by
    have hi : i < n := by have := (List.getElem?_eq_some_iff.1 hy).1; omega
    exact c4 i ((upTo 0 n)[i]'(by omega)) y (List.getElem?_eq_getElem (by omega)) hy
  exact ⟨vs, S', by simpa using c1, by simpa using c3, hv, c2.mono (by omega)⟩
theorem g_belows {k : Nat} {S : Store} (xs : List Int) (env : DEnv) (h1 : env[1]? = some (some (.obj 0))) (h11 : env.length = 11) (hP : Pl k [] S) (hk : k ≤ 10000) (hn : xs.length ≤ 13) (h0 : ∀ v ∈ xs, 0 ≤ v ∧ v < 10 ^ 20) : ∃ (vs : List Int) (S' : Store),
    compM (bName 10) fYes (fCall (clF 2 F__law_draw) (fCons (fVar 1) (fCons (fOp oAdd (fVar 10) (fC (.int 1))) fNil))) env (xs.map .int) [] S = some (.ok (vs.map .int) S') ∧ vs.length = xs.length ∧ (∀ v ∈ vs, 0 ≤ v) ∧ Pl (k + 100) [] S' := by
  obtain ⟨ys, S', c1, c2, c3, c4⟩ := compM_st (b := bName 10) (fe := fCall (clF 2 F__law_draw) (fCons (fVar 1) (fCons (fOp oAdd (fVar 10) (fC (.int 1))) fNil))) (env0 := env) Dv.int (fun j S => Pl (k + j) [] S) (fun _ y => ∃ v, y = .int v ∧ 0 ≤ v) 13 xs [] 0 S (by simp; omega) (by omega) hP fun x hx j S hN hj => by
    obtain ⟨a0, a1⟩ := h0 x hx
    obtain ⟨v, S2, e1, e2, e3, e4⟩ := g_draw (x + 1) hj (by omega) (by omega) (by omega)
    refine ⟨env.set 10 (some (.int x)), .int v, S2, rfl, ?_, e4, v, rfl, e2⟩
    have h1' : env[1]'(by omega) = some (.obj 0) := by simpa [h11] using h1
    simp [h1', h11, e1]
  obtain ⟨vs, rfl, hv⟩ := ints_of (fun v => 0 ≤ v) ys fun i y hy => by
    have hi : i < xs.length := by have := (List.getElem?_eq_some_iff.1 hy).1; omega
    exact c4 i (xs[i]) y (List.getElem?_eq_getElem (by omega)) hy
  exact ⟨vs, S', by simpa using c1, by simpa using c3, hv, c2.mono (by omega)⟩
set_option maxHeartbeats 0
theorem law_good (ns : List Int) (h : ns.length ≤ 63) : ∃ S', F_law [.lst (ns.map Dv.int)] [] = some (.ok (.bl true) S') := by
  obtain ⟨a, c, ha, hc, hc2, hp⟩ := g_pool ns []
  have P0 : Pl 0 [] [.lst [.int a, .int 0, .int c]] := ⟨a, 0, c, ha, by decide, by decide, hc, hc2, rfl⟩
  simp only [List.length_nil, List.nil_append] at hp
  generalize [Dv.lst [.int a, .int 0, .int c]] = S0 at hp P0
  obtain ⟨v1, S1, d1, v10, v11, P1⟩ := g_draw 6 P0 (by omega) (by decide) (by decide)
  obtain ⟨v2, S2, d2, v20, v21, P2⟩ := g_draw 8 P1 (by omega) (by decide) (by decide)
  -- the number of kinds
  obtain ⟨n, S3, hn1, hn2, P3, hT⟩ : ∃ (n : Nat) (S3 : Store), 1 ≤ n ∧ n ≤ 12 ∧ Pl 3 [] S3 ∧ (sIf (fTest (fOp oEq (fCall (clF 2 F__law_draw) (fCons (fVar 1) (fCons (fC (.int 8)) fNil))) (fC (.int 0)))) (sAsg (fOp oAdd (fC (.int 7)) (fCall (clF 2 F__law_draw) (fCons (fVar 1) (fCons (fC (.int 6)) fNil)))) (bName 2)) sNext)
      [some (.lst (ns.map Dv.int)), some (.obj 0), some (.int (1 + v1)), none, none, none, none, none, none, none, none] S1 = some (.nx [some (.lst (ns.map Dv.int)), some (.obj 0), some (.int n), none, none, none, none, none, none, none, none] S3) := by
    by_cases z : v2 = 0
    · obtain ⟨v3, S3, d3, v30, v31, P3⟩ := g_draw 6 P2 (by omega) (by decide) (by decide)
      refine ⟨(7 + v3).toNat, S3, by omega, by omega, P3, ?_⟩
      simp [d2, z, d3, show max (7 + v3) 0 = 7 + v3 by omega]
    · refine ⟨(1 + v1).toNat, S2, by omega, by omega, P2.mono (by omega), ?_⟩
      simp [d2, z, show max (1 + v1) 0 = 1 + v1 by omega]
  obtain ⟨xs, S4, c1, xl, x0, P4⟩ := g_counts [some (.lst (ns.map Dv.int)), some (.obj 0), some (.int n), none, none, none, none, none, none, none, none] rfl P3 (by omega) (show n ≤ 13 by omega)
  obtain ⟨v5, S5, d5, v50, v51, P5⟩ := g_draw 2 P4 (by omega) (by decide) (by decide)
  obtain ⟨ys, S6, yl, y0, P6, hY⟩ : ∃ (ys : List Int) (S6 : Store), ys.length = n ∧ (∀ v ∈ ys, 0 ≤ v) ∧ Pl 300 [] S6 ∧ (sIf (fTest (fOp oEq (fCall (clF 2 F__law_draw) (fCons (fVar 1) (fCons (fC (.int 2)) fNil))) (fC (.int 0)))) (sAsg (fCall oTuple (fCons (fLc false (fIt (fVar 3)) [10] (bName 10) fYes (fCall (clF 2 F__law_draw) (fCons (fVar 1) (fCons (fOp oAdd (fVar 10) (fC (.int 1))) fNil)))) fNil)) (bName 4)) (sAsg (fCall oTuple (fCons (fLc false (fRng1 (fCons (fVar 2) fNil)) [9] (bName 9) fYes (fCall (clF 1 F__law_count) (fCons (fVar 1) fNil))) fNil)) (bName 4)))
      [some (.lst (ns.map Dv.int)), some (.obj 0), some (.int n), some (tIn xs), none, none, none, none, none, none, none] S4 = some (.nx [some (.lst (ns.map Dv.int)), some (.obj 0), some (.int n), some (tIn xs), some (tIn ys), none, none, none, none, none, none] S6) := by
    by_cases z : v5 = 0
    · obtain ⟨ys, S6, c2, yl, y0, P6⟩ := g_belows xs [some (.lst (ns.map Dv.int)), some (.obj 0), some (.int n), some (tIn xs), none, none, none, none, none, none, none] rfl rfl P5 (by omega) (by omega) x0
      refine ⟨ys, S6, by omega, y0, P6.mono (by omega), ?_⟩
      simp [d5, z, c2]
    · obtain ⟨ys, S6, c2, yl, y0, P6⟩ := g_counts [some (.lst (ns.map Dv.int)), some (.obj 0), some (.int n), some (tIn xs), none, none, none, none, none, none, none] rfl P5 (by omega) (show n ≤ 13 by omega)
      refine ⟨ys, S6, yl, fun v hv => (y0 v hv).1, P6.mono (by omega), ?_⟩
      simp [d5, z, c2, show n ≤ 1000000 by omega]
  obtain ⟨v7, S7, d7, v70, v71, P7⟩ := g_draw n P6 (by omega) (by omega) (by omega)
  obtain ⟨i, rfl⟩ : ∃ i : Nat, v7 = i := ⟨v7.toNat, by omega⟩
  obtain ⟨us, r1, ul, u0⟩ := g_more xs i S7 (by omega) (by omega) fun v hv => (x0 v hv).1
  have xp := fun v hv => (x0 v hv).1
  have p1 := g_pair xs ys S7 (by omega) (by omega) xp
  have p2 := g_pair ys xs S7 (by omega) (by omega) y0
  have p3 := g_pair xs us S7 (by omega) (by omega) xp
  have p4 := g_pair us xs S7 (by omega) (by omega) u0
  have p5 := g_pair xs xs S7 (by omega) (by omega) xp
  obtain ⟨T1, a1⟩ := g_alone xs S7 (by omega)
  obtain ⟨T2, a2⟩ := g_alone ys T1 (by omega)
  obtain ⟨T3, a3⟩ := g_alone us T2 (by omega)
  have p6 := g_pair xs ys T3 (by omega) (by omega) xp
  refine ⟨T3, ?_⟩
  have hn : n ≤ 1000000 := by omega
  have sq : ∀ (f g : FS) env S, sSeq f g env S = match f env S with
    | some (.nx env1 S1) => g env1 S1
    | r => r := fun _ _ _ _ => rfl
  simp only [F_law, fs_law]
  simp [-sIf_e, hp, d1, hT, c1, hn, hY, d7, r1, forM']
  simp [p1, p2, p3, p4, p5, p6, a1, a2, a3, forM']
end FCL

set_option Elab.async false
set_option linter.all false
set_option maxRecDepth 100000
set_option maxHeartbeats 4000000
namespace FCL
open PySem PySem.Spec L2 FC
open PySem.SupX (SupTxt)
/-! ### the text -/
def topS (i : Nat) : Stmt := PySem.Challenge.pw_fewchairs_k00_crowd_sums.main.body.getD i (.Pass ⟨0, 0, 0, 0⟩)
abbrev s_size : Stmt := topS 5
abbrev N_size : List Str := ["crowd"]
theorem sc_size : FnScope N_size ["crowd"] (defScope s_size) := ⟨rfl, rfl, rfl, by decide +kernel, rfl, by decide +kernel, by decide +kernel⟩
abbrev s_plus : Stmt := topS 6
abbrev N_plus : List Str := ["first", "second", "count", "more"]
theorem sc_plus : FnScope N_plus ["first", "second"] (defScope s_plus) := ⟨rfl, rfl, rfl, by decide +kernel, rfl, by decide +kernel, by decide +kernel⟩
abbrev s_within : Stmt := topS 8
abbrev N_within : List Str := ["first", "second", "count", "bound"]
theorem sc_within : FnScope N_within ["first", "second"] (defScope s_within) := ⟨rfl, rfl, rfl, by decide +kernel, rfl, by decide +kernel, by decide +kernel⟩
abbrev s_minus : Stmt := topS 7
abbrev N_minus : List Str := ["first", "second", "count", "less"]
theorem sc_minus : FnScope N_minus ["first", "second"] (defScope s_minus) := ⟨rfl, rfl, rfl, by decide +kernel, rfl, by decide +kernel, by decide +kernel⟩
abbrev s_lesser : Stmt := topS 9
abbrev N_lesser : List Str := ["first", "second", "count", "other"]
theorem sc_lesser : FnScope N_lesser ["first", "second"] (defScope s_lesser) := ⟨rfl, rfl, rfl, by decide +kernel, rfl, by decide +kernel, by decide +kernel⟩
abbrev s_greater : Stmt := topS 10
abbrev N_greater : List Str := ["first", "second", "count", "other"]
theorem sc_greater : FnScope N_greater ["first", "second"] (defScope s_greater) := ⟨rfl, rfl, rfl, by decide +kernel, rfl, by decide +kernel, by decide +kernel⟩
abbrev s_kinds_in : Stmt := topS 11
abbrev N_kinds_in : List Str := ["crowd", "kind", "count"]
theorem sc_kinds_in : FnScope N_kinds_in ["crowd"] (defScope s_kinds_in) := ⟨rfl, rfl, rfl, by decide +kernel, rfl, by decide +kernel, by decide +kernel⟩
abbrev s__law_pool : Stmt := topS 13
abbrev N__law_pool : List Str := ["script", "at", "cell"]
theorem sc__law_pool : FnScope N__law_pool ["script", "at"] (defScope s__law_pool) := ⟨rfl, rfl, rfl, by decide +kernel, rfl, by decide +kernel, by decide +kernel⟩
abbrev s__law_draw : Stmt := topS 14
abbrev N__law_draw : List Str := ["pool", "many", "got", "first", "second", "third"]
theorem sc__law_draw : FnScope N__law_draw ["pool", "many"] (defScope s__law_draw) := ⟨rfl, rfl, rfl, by decide +kernel, rfl, by decide +kernel, by decide +kernel⟩
abbrev s__law_more : Stmt := topS 15
abbrev N__law_more : List Str := ["crowd", "kind"]
theorem sc__law_more : FnScope N__law_more ["crowd", "kind"] (defScope s__law_more) := ⟨rfl, rfl, rfl, by decide +kernel, rfl, by decide +kernel, by decide +kernel⟩
abbrev s__law_same : Stmt := topS 16
abbrev N__law_same : List Str := ["got", "due", "k"]
theorem sc__law_same : FnScope N__law_same ["got", "due"] (defScope s__law_same) := ⟨rfl, rfl, rfl, by decide +kernel, rfl, by decide +kernel, by decide +kernel⟩
abbrev s__law_count : Stmt := topS 17
abbrev N__law_count : List Str := ["pool", "high", "middle", "low"]
theorem sc__law_count : FnScope N__law_count ["pool"] (defScope s__law_count) := ⟨rfl, rfl, rfl, by decide +kernel, rfl, by decide +kernel, by decide +kernel⟩
abbrev s__law_refused : Stmt := topS 18
abbrev N__law_refused : List Str := ["first", "second", "e"]
theorem sc__law_refused : FnScope N__law_refused ["first", "second"] (defScope s__law_refused) := ⟨rfl, rfl, rfl, by decide +kernel, rfl, by decide +kernel, by decide +kernel⟩
abbrev s__law_pair_holds : Stmt := topS 19
abbrev N__law_pair_holds : List Str := ["first", "second", "places", "total", "beyond", "x"]
theorem sc__law_pair_holds : FnScope N__law_pair_holds ["first", "second"] (defScope s__law_pair_holds) := ⟨rfl, rfl, rfl, by decide +kernel, rfl, by decide +kernel, by decide +kernel⟩
abbrev s__law_alone_holds : Stmt := topS 20
abbrev N__law_alone_holds : List Str := ["crowd", "inside", "told", "x"]
theorem sc__law_alone_holds : FnScope N__law_alone_holds ["crowd"] (defScope s__law_alone_holds) := ⟨rfl, rfl, rfl, by decide +kernel, rfl, by decide +kernel, by decide +kernel⟩
abbrev s_law : Stmt := topS 21
abbrev N_law : List Str := ["script", "pool", "kinds", "first", "second", "third", "one", "other", "crowd", "x", "count"]
theorem sc_law : FnScope N_law ["script"] (defScope s_law) := ⟨rfl, rfl, rfl, by decide +kernel, rfl, by decide +kernel, by decide +kernel⟩
/-- what the top leaves -/
structure Txt (P : Program) (K : PySem.W.Frag) (mg : Str → Option Value) where
  m_ValueError : mg "ValueError" = none
  m_abs : mg "abs" = none
  m_all : mg "all" = none
  m_bool : mg "bool" = none
  m_enumerate : mg "enumerate" = none
  m_int : mg "int" = none
  m_isinstance : mg "isinstance" = none
  m_len : mg "len" = none
  m_list : mg "list" = none
  m_max : mg "max" = none
  m_min : mg "min" = none
  m_range : mg "range" = none
  m_str : mg "str" = none
  m_sum : mg "sum" = none
  m_tuple : mg "tuple" = none
  m_zip : mg "zip" = none
  f_size : Addr
  d_size : FuncData
  F_size : Fun K "size" "size" s_size f_size d_size
  g_size : mg "size" = some (.ref f_size)
  B_size : Binds K d_size ["crowd"] []
  f_plus : Addr
  d_plus : FuncData
  F_plus : Fun K "plus" "plus" s_plus f_plus d_plus
  g_plus : mg "plus" = some (.ref f_plus)
  B_plus : Binds K d_plus ["first", "second"] []
  f_within : Addr
  d_within : FuncData
  F_within : Fun K "within" "within" s_within f_within d_within
  g_within : mg "within" = some (.ref f_within)
  B_within : Binds K d_within ["first", "second"] []
  f_minus : Addr
  d_minus : FuncData
  F_minus : Fun K "minus" "minus" s_minus f_minus d_minus
  g_minus : mg "minus" = some (.ref f_minus)
  B_minus : Binds K d_minus ["first", "second"] []
  f_lesser : Addr
  d_lesser : FuncData
  F_lesser : Fun K "lesser" "lesser" s_lesser f_lesser d_lesser
  g_lesser : mg "lesser" = some (.ref f_lesser)
  B_lesser : Binds K d_lesser ["first", "second"] []
  f_greater : Addr
  d_greater : FuncData
  F_greater : Fun K "greater" "greater" s_greater f_greater d_greater
  g_greater : mg "greater" = some (.ref f_greater)
  B_greater : Binds K d_greater ["first", "second"] []
  f_kinds_in : Addr
  d_kinds_in : FuncData
  F_kinds_in : Fun K "kinds_in" "kinds_in" s_kinds_in f_kinds_in d_kinds_in
  g_kinds_in : mg "kinds_in" = some (.ref f_kinds_in)
  B_kinds_in : Binds K d_kinds_in ["crowd"] []
  f__law_pool : Addr
  d__law_pool : FuncData
  F__law_pool : Fun K "_law_pool" "_law_pool" s__law_pool f__law_pool d__law_pool
  g__law_pool : mg "_law_pool" = some (.ref f__law_pool)
  B__law_pool : Binds K d__law_pool ["script", "at"] []
  f__law_draw : Addr
  d__law_draw : FuncData
  F__law_draw : Fun K "_law_draw" "_law_draw" s__law_draw f__law_draw d__law_draw
  g__law_draw : mg "_law_draw" = some (.ref f__law_draw)
  B__law_draw : Binds K d__law_draw ["pool", "many"] []
  f__law_more : Addr
  d__law_more : FuncData
  F__law_more : Fun K "_law_more" "_law_more" s__law_more f__law_more d__law_more
  g__law_more : mg "_law_more" = some (.ref f__law_more)
  B__law_more : Binds K d__law_more ["crowd", "kind"] []
  f__law_same : Addr
  d__law_same : FuncData
  F__law_same : Fun K "_law_same" "_law_same" s__law_same f__law_same d__law_same
  g__law_same : mg "_law_same" = some (.ref f__law_same)
  B__law_same : Binds K d__law_same ["got", "due"] []
  f__law_count : Addr
  d__law_count : FuncData
  F__law_count : Fun K "_law_count" "_law_count" s__law_count f__law_count d__law_count
  g__law_count : mg "_law_count" = some (.ref f__law_count)
  B__law_count : Binds K d__law_count ["pool"] []
  f__law_refused : Addr
  d__law_refused : FuncData
  F__law_refused : Fun K "_law_refused" "_law_refused" s__law_refused f__law_refused d__law_refused
  g__law_refused : mg "_law_refused" = some (.ref f__law_refused)
  B__law_refused : Binds K d__law_refused ["first", "second"] []
  f__law_pair_holds : Addr
  d__law_pair_holds : FuncData
  F__law_pair_holds : Fun K "_law_pair_holds" "_law_pair_holds" s__law_pair_holds f__law_pair_holds d__law_pair_holds
  g__law_pair_holds : mg "_law_pair_holds" = some (.ref f__law_pair_holds)
  B__law_pair_holds : Binds K d__law_pair_holds ["first", "second"] []
  f__law_alone_holds : Addr
  d__law_alone_holds : FuncData
  F__law_alone_holds : Fun K "_law_alone_holds" "_law_alone_holds" s__law_alone_holds f__law_alone_holds d__law_alone_holds
  g__law_alone_holds : mg "_law_alone_holds" = some (.ref f__law_alone_holds)
  B__law_alone_holds : Binds K d__law_alone_holds ["crowd"] []
  C_HallError : Addr
  g_HallError : mg "HallError" = some (.ref C_HallError)
  C_BadCrowd : Addr
  I_BadCrowd : Addr
  g_BadCrowd : mg "BadCrowd" = some (.ref C_BadCrowd)
  T_BadCrowd : SupTxt P K mg "BadCrowd" "crowd" C_BadCrowd I_BadCrowd
  C_BadKind : Addr
  I_BadKind : Addr
  g_BadKind : mg "BadKind" = some (.ref C_BadKind)
  T_BadKind : SupTxt P K mg "BadKind" "kind" C_BadKind I_BadKind
  xf_BadCrowd : XfC K (cOf mg "BadCrowd")
  xn_BadCrowd : PySem.W.findIn K (.ref (cOf mg "BadCrowd")) "crowd" = some none
  ec_BadCrowd : ExcC K (cOf mg "BadCrowd")
  exm_BadCrowd_BadCrowd : PySem.W.exmOne K (.ref (cOf mg "BadCrowd")) (.ref C_BadCrowd) = some true
  kit_BadCrowd_BadKind : PySem.W.kitOne K (.ref (cOf mg "BadCrowd")) (.ref C_BadKind) = some false
  kit_BadCrowd_HallError : PySem.W.kitOne K (.ref (cOf mg "BadCrowd")) (.ref C_HallError) = some true
  kit_BadCrowd_ValueError : PySem.W.kitOne K (.ref (cOf mg "BadCrowd")) (.type "ValueError") = some true
section
variable {P : Program} {w : World} {K : PySem.W.Frag} {mg : Str → Option Value} {base : Heap}
theorem ok_size (T : Txt P K mg) : FnOk P w K mg base (L2.CX P w) 1 T.f_size T.d_size ["crowd"] (spD K mg 1 F_size) :=
  fn_ok T.F_size sc_size (fun cdv A outer s H E hr => (ss_one (s_ret (d_callB (FC.CallR.or (cr_sum rfl) (cr_sumT rfl)) cd_sum T.m_sum (by decide +kernel) (a_cons (d_var 0) a_nil)))))
theorem ok_plus (T : Txt P K mg) : FnOk P w K mg base (L2.CX P w) 1 T.f_plus T.d_plus ["first", "second"] (spD K mg 2 F_plus) :=
  fn_ok T.F_plus sc_plus (fun cdv A outer s H E hr => (ss_one (s_ret (d_callTy call_tuple_of cd_tuple T.m_tuple (by decide +kernel) (a_cons (d_lcV false rfl sc_plus.nd (i_zip T.m_zip (a_cons (d_var 0) (a_cons (d_var 1) a_nil))) (blkOk_by (own := [("count", 2), ("more", 3)]) (N := N_plus) (sc := defScope s_plus) (by decide +kernel)) (fun _ _ _ _ _ => (g_tup rfl (gs_cons (g_name (i := 2) sc_plus.nd) (gs_cons (g_name (i := 3) sc_plus.nd) gs_nil)))) (fun _ _ _ _ _ => ts_nil) (fun _ _ _ _ _ => (d_add (d_var 2) (d_var 3)))) a_nil)))))
theorem ok_within (T : Txt P K mg) : FnOk P w K mg base (L2.CX P w) 1 T.f_within T.d_within ["first", "second"] (spD K mg 2 F_within) :=
  fn_ok T.F_within sc_within (fun cdv A outer s H E hr => (ss_one (s_ret (d_callB (cr_all rfl) cd_all T.m_all (by decide +kernel) (a_cons (d_lcV false rfl sc_within.nd (i_zip T.m_zip (a_cons (d_var 0) (a_cons (d_var 1) a_nil))) (blkOk_by (own := [("count", 2), ("bound", 3)]) (N := N_within) (sc := defScope s_within) (by decide +kernel)) (fun _ _ _ _ _ => (g_tup rfl (gs_cons (g_name (i := 2) sc_within.nd) (gs_cons (g_name (i := 3) sc_within.nd) gs_nil)))) (fun _ _ _ _ _ => ts_nil) (fun _ _ _ _ _ => (d_le (d_var 2) (d_var 3)))) a_nil)))))
theorem ok_minus (T : Txt P K mg) : FnOk P w K mg base (L2.CX P w) 2 T.f_minus T.d_minus ["first", "second"] (spD K mg 2 F_minus) :=
  fn_ok T.F_minus sc_minus (fun cdv A outer s H E hr => (ss_cons (s_if (t_not (t_tru (d_callF (n := 2) (ok_within T) rfl hr T.g_within T.F_within.kp T.B_within (takes_of rfl rfl rfl rfl) (a_cons (d_var 1) (a_cons (d_var 0) a_nil))))) (ss_one (s_raise1 rfl T.T_BadCrowd hr (takes_of rfl rfl rfl rfl) (a_cons (d_var 1) a_nil))) ss_nil)
      (ss_one (s_ret (d_callTy call_tuple_of cd_tuple T.m_tuple (by decide +kernel) (a_cons (d_lcV false rfl sc_minus.nd (i_zip T.m_zip (a_cons (d_var 0) (a_cons (d_var 1) a_nil))) (blkOk_by (own := [("count", 2), ("less", 3)]) (N := N_minus) (sc := defScope s_minus) (by decide +kernel)) (fun _ _ _ _ _ => (g_tup rfl (gs_cons (g_name (i := 2) sc_minus.nd) (gs_cons (g_name (i := 3) sc_minus.nd) gs_nil)))) (fun _ _ _ _ _ => ts_nil) (fun _ _ _ _ _ => (d_sub (d_var 2) (d_var 3)))) a_nil))))))
theorem ok_lesser (T : Txt P K mg) : FnOk P w K mg base (L2.CX P w) 1 T.f_lesser T.d_lesser ["first", "second"] (spD K mg 2 F_lesser) :=
  fn_ok T.F_lesser sc_lesser (fun cdv A outer s H E hr => (ss_one (s_ret (d_callTy call_tuple_of cd_tuple T.m_tuple (by decide +kernel) (a_cons (d_lcV false rfl sc_lesser.nd (i_zip T.m_zip (a_cons (d_var 0) (a_cons (d_var 1) a_nil))) (blkOk_by (own := [("count", 2), ("other", 3)]) (N := N_lesser) (sc := defScope s_lesser) (by decide +kernel)) (fun _ _ _ _ _ => (g_tup rfl (gs_cons (g_name (i := 2) sc_lesser.nd) (gs_cons (g_name (i := 3) sc_lesser.nd) gs_nil)))) (fun _ _ _ _ _ => ts_nil) (fun _ _ _ _ _ => (d_callB (call_min2 rfl) cd_min2 T.m_min (by decide +kernel) (a_cons (d_var 2) (a_cons (d_var 3) a_nil))))) a_nil)))))
theorem ok_greater (T : Txt P K mg) : FnOk P w K mg base (L2.CX P w) 1 T.f_greater T.d_greater ["first", "second"] (spD K mg 2 F_greater) :=
  fn_ok T.F_greater sc_greater (fun cdv A outer s H E hr => (ss_one (s_ret (d_callTy call_tuple_of cd_tuple T.m_tuple (by decide +kernel) (a_cons (d_lcV false rfl sc_greater.nd (i_zip T.m_zip (a_cons (d_var 0) (a_cons (d_var 1) a_nil))) (blkOk_by (own := [("count", 2), ("other", 3)]) (N := N_greater) (sc := defScope s_greater) (by decide +kernel)) (fun _ _ _ _ _ => (g_tup rfl (gs_cons (g_name (i := 2) sc_greater.nd) (gs_cons (g_name (i := 3) sc_greater.nd) gs_nil)))) (fun _ _ _ _ _ => ts_nil) (fun _ _ _ _ _ => (d_callB (call_max2 rfl) cd_max2 T.m_max (by decide +kernel) (a_cons (d_var 2) (a_cons (d_var 3) a_nil))))) a_nil)))))
theorem ok_kinds_in (T : Txt P K mg) : FnOk P w K mg base (L2.CX P w) 1 T.f_kinds_in T.d_kinds_in ["crowd"] (spD K mg 1 F_kinds_in) :=
  fn_ok T.F_kinds_in sc_kinds_in (fun cdv A outer s H E hr => (ss_one (s_ret (d_lcV true rfl sc_kinds_in.nd (i_enum T.m_enumerate (a_cons (d_var 0) a_nil)) (blkOk_by (own := [("kind", 1), ("count", 2)]) (N := N_kinds_in) (sc := defScope s_kinds_in) (by decide +kernel)) (fun _ _ _ _ _ => (g_tup rfl (gs_cons (g_name (i := 1) sc_kinds_in.nd) (gs_cons (g_name (i := 2) sc_kinds_in.nd) gs_nil)))) (fun _ _ _ _ _ => (ts_one (t_gt (d_var 2) d_int))) (fun _ _ _ _ _ => (d_var 1))))))
theorem ok__law_pool (T : Txt P K mg) : FnOk P w K mg base (L2.CX P w) 1 T.f__law_pool T.d__law_pool ["script", "at"] (spD K mg 2 F__law_pool) :=
  fn_ok T.F__law_pool sc__law_pool (fun cdv A outer s H E hr => (ss_cons (s_set (i := 2) sc__law_pool.nd d_int)
      (ss_cons (s_if (t_lt (d_var 1) (d_callB call_len_seq cd_len T.m_len PySem.boot_len (a_cons (d_var 0) a_nil))) (ss_one (s_set (i := 2) sc__law_pool.nd (d_callB call_abs cd_abs T.m_abs (by decide +kernel) (a_cons (d_callTy call_int1 cd_int1 T.m_int (by decide +kernel) (a_cons (d_ix (d_var 0) (d_var 1)) a_nil)) a_nil)))) ss_nil)
      (ss_cons (s_if (t_ge (d_var 2) (d_pow d_int d_int)) (ss_one (s_ret (d_lst true (a_cons (d_sub (d_var 2) (d_pow d_int d_int)) (a_cons d_int (a_cons (d_mod (d_callTy call_int1 cd_int1 T.m_int (by decide +kernel) (a_cons (d_var 2) a_nil)) d_int) a_nil)))))) ss_nil)
      (ss_one (s_ret (d_lst true (a_cons d_int (a_cons d_int (a_cons (d_mod (d_callTy call_int1 cd_int1 T.m_int (by decide +kernel) (a_cons (d_var 2) a_nil)) d_int) a_nil))))))))))
theorem ok__law_draw (T : Txt P K mg) : FnOk P w K mg base (L2.CX P w) 1 T.f__law_draw T.d__law_draw ["pool", "many"] (spD K mg 2 F__law_draw) :=
  fn_ok T.F__law_draw sc__law_draw (fun cdv A outer s H E hr => (ss_cons (s_setIx (d_add (d_ix (d_var 0) d_int) d_int) (d_var 0) d_int)
      (ss_cons (s_if (t_gt (d_ix (d_var 0) d_int) d_int) (ss_cons (s_set (i := 2) sc__law_draw.nd (d_mod (d_callTy call_int1 cd_int1 T.m_int (by decide +kernel) (a_cons (d_ix (d_var 0) d_int) a_nil)) (d_var 1)))
      (ss_cons (s_setIx (d_div (d_ix (d_var 0) d_int) (d_var 1)) (d_var 0) d_int)
      (ss_one (s_ret (d_var 2))))) ss_nil)
      (ss_cons (s_set (i := 3) sc__law_draw.nd (d_mod (d_callTy call_int1 cd_int1 T.m_int (by decide +kernel) (a_cons (d_add (d_add (d_mul (d_ix (d_var 0) d_int) d_int) (d_mul (d_ix (d_var 0) d_int) d_int)) d_int) a_nil)) d_int))
      (ss_cons (s_set (i := 4) sc__law_draw.nd (d_mod (d_callTy call_int1 cd_int1 T.m_int (by decide +kernel) (a_cons (d_add (d_add (d_add (d_mul (d_var 3) (d_var 3)) (d_mul (d_ix (d_var 0) d_int) d_int)) (d_div (d_ix (d_var 0) d_int) d_int)) d_int) a_nil)) d_int))
      (ss_cons (s_set (i := 5) sc__law_draw.nd (d_mod (d_callTy call_int1 cd_int1 T.m_int (by decide +kernel) (a_cons (d_add (d_add (d_mul (d_var 4) d_int) (d_div (d_var 4) d_int)) (d_mul (d_ix (d_var 0) d_int) (d_ix (d_var 0) d_int))) a_nil)) d_int))
      (ss_one (s_ret (d_mod (d_callTy call_int1 cd_int1 T.m_int (by decide +kernel) (a_cons (d_div (d_var 5) d_int) a_nil)) (d_var 1))))))))))
theorem ok__law_more (T : Txt P K mg) : FnOk P w K mg base (L2.CX P w) 1 T.f__law_more T.d__law_more ["crowd", "kind"] (spD K mg 2 F__law_more) :=
  fn_ok T.F__law_more sc__law_more (fun cdv A outer s H E hr => (ss_one (s_ret (d_add (d_add (d_slice false (d_var 0) o_none (o_some (d_var 1))) (d_tup (a_cons (d_add (d_ix (d_var 0) (d_var 1)) d_int) a_nil))) (d_slice false (d_var 0) (o_some (d_add (d_var 1) d_int)) o_none)))))
theorem okr__law_same (T : Txt P K mg) {k : Nat} {F : DFn} (hk : 0 ≤ k) (hF : FnOk P w K mg base (L2.CX P w) k T.f__law_same T.d__law_same ["got", "due"] (spD K mg 2 F)) : FnOk P w K mg base (L2.CX P w) (k + 1) T.f__law_same T.d__law_same ["got", "due"] (spD K mg 2 (bodyF 3 (fs__law_same F))) :=
  fn_ok T.F__law_same sc__law_same (fun cdv A outer s H E hr => (ss_cons (s_if (t_is (d_var 1) d_non) (ss_one (s_ret (d_is (d_var 0) d_non))) ss_nil)
      (ss_cons (s_if (t_tru (d_isi (b := "bool") (d_var 1) T.m_isinstance (by decide +kernel) T.m_bool (by decide +kernel) (by decide))) (ss_one (s_ret (d_and (d_isi (b := "bool") (d_var 0) T.m_isinstance (by decide +kernel) T.m_bool (by decide +kernel) (by decide)) (d_one (d_eq hr.units (d_var 0) (d_var 1)))))) ss_nil)
      (ss_cons (s_if (t_tru (d_isi (b := "int") (d_var 1) T.m_isinstance (by decide +kernel) T.m_int (by decide +kernel) (by decide))) (ss_one (s_ret (d_and (d_isi (b := "int") (d_var 0) T.m_isinstance (by decide +kernel) T.m_int (by decide +kernel) (by decide)) (d_and (d_not (d_isi (b := "bool") (d_var 0) T.m_isinstance (by decide +kernel) T.m_bool (by decide +kernel) (by decide))) (d_one (d_eq hr.units (d_var 0) (d_var 1))))))) ss_nil)
      (ss_cons (s_if (t_tru (d_isi (b := "str") (d_var 1) T.m_isinstance (by decide +kernel) T.m_str (by decide +kernel) (by decide))) (ss_one (s_ret (d_and (d_isi (b := "str") (d_var 0) T.m_isinstance (by decide +kernel) T.m_str (by decide +kernel) (by decide)) (d_one (d_eq hr.units (d_var 0) (d_var 1)))))) ss_nil)
      (ss_cons (s_if (t_tru (d_isi (b := "tuple") (d_var 1) T.m_isinstance (by decide +kernel) T.m_tuple (by decide +kernel) (by decide))) (ss_one (s_if (t_of (w_or (t_not (t_tru (d_isi (b := "tuple") (d_var 0) T.m_isinstance (by decide +kernel) T.m_tuple (by decide +kernel) (by decide)))) (w_or1 (t_ne hr.units (d_callB call_len_seq cd_len T.m_len PySem.boot_len (a_cons (d_var 0) a_nil)) (d_callB call_len_seq cd_len T.m_len PySem.boot_len (a_cons (d_var 1) a_nil)))))) (ss_one (s_ret d_bl)) ss_nil)) (ss_one (s_if (t_of (w_or (t_not (t_tru (d_isi (b := "list") (d_var 0) T.m_isinstance (by decide +kernel) T.m_list (by decide +kernel) (by decide)))) (w_or1 (t_ne hr.units (d_callB call_len_seq cd_len T.m_len PySem.boot_len (a_cons (d_var 0) a_nil)) (d_callB call_len_seq cd_len T.m_len PySem.boot_len (a_cons (d_var 1) a_nil)))))) (ss_one (s_ret d_bl)) ss_nil)))
      (ss_cons (s_for (passes_of rfl) rfl (i_rng1 T.m_range (a_cons (d_callB call_len_seq cd_len T.m_len PySem.boot_len (a_cons (d_var 1) a_nil)) a_nil)) (g_name (i := 2) sc__law_same.nd) (ss_one (s_if (t_not (t_tru (d_callF (n := 2) hF rfl hr T.g__law_same T.F__law_same.kp T.B__law_same (takes_of rfl rfl rfl rfl) (a_cons (d_ix (d_var 0) (d_var 2)) (a_cons (d_ix (d_var 1) (d_var 2)) a_nil))))) (ss_one (s_ret d_bl)) ss_nil)))
      (ss_one (s_ret d_bl)))))))))
theorem okn__law_same (T : Txt P K mg) : ∀ n : Nat, FnOk P w K mg base (L2.CX P w) (0 + n) T.f__law_same T.d__law_same ["got", "due"] (spD K mg 2 (it__law_same n))
  | 0 => fn_none rfl
  | n + 1 => okr__law_same T (by omega) (okn__law_same T n)
theorem ok__law_same (T : Txt P K mg) : FnOk P w K mg base (L2.CX P w) 5 T.f__law_same T.d__law_same ["got", "due"] (spD K mg 2 F__law_same) := okn__law_same T 5
theorem ok__law_count (T : Txt P K mg) : FnOk P w K mg base (L2.CX P w) 2 T.f__law_count T.d__law_count ["pool"] (spD K mg 1 F__law_count) :=
  fn_ok T.F__law_count sc__law_count (fun cdv A outer s H E hr => (ss_cons (s_if (t_gt (d_callF (n := 2) (ok__law_draw T) rfl hr T.g__law_draw T.F__law_draw.kp T.B__law_draw (takes_of rfl rfl rfl rfl) (a_cons (d_var 0) (a_cons d_int a_nil))) d_int) (ss_one (s_ret (d_callF (n := 2) (ok__law_draw T) rfl hr T.g__law_draw T.F__law_draw.kp T.B__law_draw (takes_of rfl rfl rfl rfl) (a_cons (d_var 0) (a_cons d_int a_nil))))) ss_nil)
      (ss_cons (s_set (i := 1) sc__law_count.nd (d_callF (n := 2) (ok__law_draw T) rfl hr T.g__law_draw T.F__law_draw.kp T.B__law_draw (takes_of rfl rfl rfl rfl) (a_cons (d_var 0) (a_cons (d_pow d_int d_int) a_nil))))
      (ss_cons (s_set (i := 2) sc__law_count.nd (d_callF (n := 2) (ok__law_draw T) rfl hr T.g__law_draw T.F__law_draw.kp T.B__law_draw (takes_of rfl rfl rfl rfl) (a_cons (d_var 0) (a_cons (d_pow d_int d_int) a_nil))))
      (ss_cons (s_set (i := 3) sc__law_count.nd (d_callF (n := 2) (ok__law_draw T) rfl hr T.g__law_draw T.F__law_draw.kp T.B__law_draw (takes_of rfl rfl rfl rfl) (a_cons (d_var 0) (a_cons (d_pow d_int d_int) a_nil))))
      (ss_one (s_ret (d_add (d_mul (d_add (d_mul (d_var 1) (d_pow d_int d_int)) (d_var 2)) (d_pow d_int d_int)) (d_var 3)))))))))
theorem ok__law_refused (T : Txt P K mg) : FnOk P w K mg base (L2.CX P w) 3 T.f__law_refused T.d__law_refused ["first", "second"] (spD K mg 2 F__law_refused) :=
  fn_ok T.F__law_refused sc__law_refused (fun cdv A outer s H E hr => (ss_cons (s_try_as (i := 2) (cn := cnL [("BadCrowd", true)]) sc__law_refused.nd ⟨rfl, by decide, .inl T.T_BadCrowd.gC⟩ (takes_of rfl rfl rfl rfl) (fun W1 pn1 xe1 tk1 po1 => (ss_one (s_expr (d_callF (n := 2) (ok_minus T) rfl hr T.g_minus T.F_minus.kp T.B_minus tk1 (a_cons (d_var 0) (a_cons (d_var 1) a_nil)))))) (cnL_ok (by intro p hp; simp only [List.mem_cons, List.not_mem_nil, or_false] at hp; subst hp; exact T.exm_BadCrowd_BadCrowd)) (fun a oe dd c1 flds pn hc1 hz hf => by have ec : c1 = "BadCrowd" := cnL_one hc1; subst ec; exact (ss_one (s_ret (d_tup (a_cons (d_xf (i := 2) (c := "BadCrowd") T.xf_BadCrowd T.xn_BadCrowd hz hf) (a_cons (d_isE (i := 2) (c := "BadCrowd") T.ec_BadCrowd hz hf T.m_isinstance (pe_glob (v := .ref T.C_HallError) rfl T.g_HallError rfl) (fun _ h => h) T.kit_BadCrowd_HallError (by decide +kernel)) (a_cons (d_isE (i := 2) (c := "BadCrowd") T.ec_BadCrowd hz hf T.m_isinstance (pe_bltn (v := .ty "ValueError") rfl T.m_ValueError (by decide +kernel) rfl) (fun _ h => h) T.kit_BadCrowd_ValueError (by decide +kernel)) (a_cons (d_isE (i := 2) (c := "BadCrowd") T.ec_BadCrowd hz hf T.m_isinstance (pe_glob (v := .ref T.C_BadKind) rfl T.g_BadKind rfl) (fun _ h => h) T.kit_BadCrowd_BadKind (by decide +kernel)) a_nil)))))))))
      (ss_one (s_ret d_non))))
theorem ok__law_pair_holds (T : Txt P K mg) : FnOk P w K mg base (L2.CX P w) 6 T.f__law_pair_holds T.d__law_pair_holds ["first", "second"] (spD K mg 2 F__law_pair_holds) :=
  fn_ok T.F__law_pair_holds sc__law_pair_holds (fun cdv A outer s H E hr => (ss_cons (s_set (i := 2) sc__law_pair_holds.nd (d_listRg1 false rfl T.m_list T.m_range (d_callB call_len_seq cd_len T.m_len PySem.boot_len (a_cons (d_var 0) a_nil))))
      (ss_cons (s_set (i := 3) sc__law_pair_holds.nd (d_callTy call_tuple_of cd_tuple T.m_tuple (by decide +kernel) (a_cons (d_lcV false rfl sc__law_pair_holds.nd (i_seq (d_var 2)) (blkOk_by (own := [("x", 5)]) (N := N__law_pair_holds) (sc := defScope s__law_pair_holds) (by decide +kernel)) (fun _ _ _ _ _ => (g_name (i := 5) sc__law_pair_holds.nd)) (fun _ _ _ _ _ => ts_nil) (fun _ _ _ _ _ => (d_add (d_ix (d_var 0) (d_var 5)) (d_ix (d_var 1) (d_var 5))))) a_nil)))
      (ss_cons (s_if (t_not (t_tru (d_callF (n := 2) (ok__law_same T) rfl hr T.g__law_same T.F__law_same.kp T.B__law_same (takes_of rfl rfl rfl rfl) (a_cons (d_callF (n := 2) (ok_plus T) rfl (hr.mono (by decide)) T.g_plus T.F_plus.kp T.B_plus (takes_of rfl rfl rfl rfl) (a_cons (d_var 0) (a_cons (d_var 1) a_nil))) (a_cons (d_var 3) a_nil))))) (ss_one (s_ret d_bl)) ss_nil)
      (ss_cons (s_if (t_not (t_tru (d_callF (n := 2) (ok__law_same T) rfl hr T.g__law_same T.F__law_same.kp T.B__law_same (takes_of rfl rfl rfl rfl) (a_cons (d_callF (n := 2) (ok_lesser T) rfl (hr.mono (by decide)) T.g_lesser T.F_lesser.kp T.B_lesser (takes_of rfl rfl rfl rfl) (a_cons (d_var 0) (a_cons (d_var 1) a_nil))) (a_cons (d_callTy call_tuple_of cd_tuple T.m_tuple (by decide +kernel) (a_cons (d_lcV false rfl sc__law_pair_holds.nd (i_seq (d_var 2)) (blkOk_by (own := [("x", 5)]) (N := N__law_pair_holds) (sc := defScope s__law_pair_holds) (by decide +kernel)) (fun _ _ _ _ _ => (g_name (i := 5) sc__law_pair_holds.nd)) (fun _ _ _ _ _ => ts_nil) (fun _ _ _ _ _ => (d_callB (call_min2 rfl) cd_min2 T.m_min (by decide +kernel) (a_cons (d_ix (d_var 0) (d_var 5)) (a_cons (d_ix (d_var 1) (d_var 5)) a_nil))))) a_nil)) a_nil))))) (ss_one (s_ret d_bl)) ss_nil)
      (ss_cons (s_if (t_not (t_tru (d_callF (n := 2) (ok__law_same T) rfl hr T.g__law_same T.F__law_same.kp T.B__law_same (takes_of rfl rfl rfl rfl) (a_cons (d_callF (n := 2) (ok_greater T) rfl (hr.mono (by decide)) T.g_greater T.F_greater.kp T.B_greater (takes_of rfl rfl rfl rfl) (a_cons (d_var 0) (a_cons (d_var 1) a_nil))) (a_cons (d_callTy call_tuple_of cd_tuple T.m_tuple (by decide +kernel) (a_cons (d_lcV false rfl sc__law_pair_holds.nd (i_seq (d_var 2)) (blkOk_by (own := [("x", 5)]) (N := N__law_pair_holds) (sc := defScope s__law_pair_holds) (by decide +kernel)) (fun _ _ _ _ _ => (g_name (i := 5) sc__law_pair_holds.nd)) (fun _ _ _ _ _ => ts_nil) (fun _ _ _ _ _ => (d_callB (call_max2 rfl) cd_max2 T.m_max (by decide +kernel) (a_cons (d_ix (d_var 0) (d_var 5)) (a_cons (d_ix (d_var 1) (d_var 5)) a_nil))))) a_nil)) a_nil))))) (ss_one (s_ret d_bl)) ss_nil)
      (ss_cons (s_setLcV (i := 4) false rfl sc__law_pair_holds.nd (sw_true rfl rfl rfl (by decide +kernel)) (i_seq (d_var 2)) (blkOk_by (own := [("x", 5)]) (N := N__law_pair_holds) (sc := defScope s__law_pair_holds) (by decide +kernel)) (fun _ _ _ _ _ => (g_name (i := 5) sc__law_pair_holds.nd)) (fun _ _ _ _ _ => (ts_one (t_gt (d_ix (d_var 1) (d_var 5)) (d_ix (d_var 0) (d_var 5))))) (fun _ _ _ _ _ => (d_var 5)))
      (ss_cons (s_if (t_not (t_tru (d_callF (n := 2) (ok__law_same T) rfl hr T.g__law_same T.F__law_same.kp T.B__law_same (takes_of rfl rfl rfl rfl) (a_cons (d_callF (n := 2) (ok_within T) rfl (hr.mono (by decide)) T.g_within T.F_within.kp T.B_within (takes_of rfl rfl rfl rfl) (a_cons (d_var 1) (a_cons (d_var 0) a_nil))) (a_cons (d_eq hr.units (d_callB call_len_seq cd_len T.m_len PySem.boot_len (a_cons (d_var 4) a_nil)) d_int) a_nil))))) (ss_one (s_ret d_bl)) ss_nil)
      (ss_cons (s_if (t_gt (d_callB call_len_seq cd_len T.m_len PySem.boot_len (a_cons (d_var 4) a_nil)) d_int) (ss_one (s_if (t_not (t_tru (d_callF (n := 2) (ok__law_same T) rfl hr T.g__law_same T.F__law_same.kp T.B__law_same (takes_of rfl rfl rfl rfl) (a_cons (d_callF (n := 2) (ok__law_refused T) rfl (hr.mono (by decide)) T.g__law_refused T.F__law_refused.kp T.B__law_refused (takes_of rfl rfl rfl rfl) (a_cons (d_var 0) (a_cons (d_var 1) a_nil))) (a_cons (d_tup (a_cons (d_var 1) (a_cons d_bl (a_cons d_bl (a_cons d_bl a_nil))))) a_nil))))) (ss_one (s_ret d_bl)) ss_nil)) (ss_one (s_if (t_not (t_tru (d_callF (n := 2) (ok__law_same T) rfl hr T.g__law_same T.F__law_same.kp T.B__law_same (takes_of rfl rfl rfl rfl) (a_cons (d_callF (n := 2) (ok_minus T) rfl (hr.mono (by decide)) T.g_minus T.F_minus.kp T.B_minus (takes_of rfl rfl rfl rfl) (a_cons (d_var 0) (a_cons (d_var 1) a_nil))) (a_cons (d_callTy call_tuple_of cd_tuple T.m_tuple (by decide +kernel) (a_cons (d_lcV false rfl sc__law_pair_holds.nd (i_seq (d_var 2)) (blkOk_by (own := [("x", 5)]) (N := N__law_pair_holds) (sc := defScope s__law_pair_holds) (by decide +kernel)) (fun _ _ _ _ _ => (g_name (i := 5) sc__law_pair_holds.nd)) (fun _ _ _ _ _ => ts_nil) (fun _ _ _ _ _ => (d_sub (d_ix (d_var 0) (d_var 5)) (d_ix (d_var 1) (d_var 5))))) a_nil)) a_nil))))) (ss_one (s_ret d_bl)) ss_nil)))
      (ss_cons (s_if (t_not (t_tru (d_callF (n := 2) (ok__law_same T) rfl hr T.g__law_same T.F__law_same.kp T.B__law_same (takes_of rfl rfl rfl rfl) (a_cons (d_callF (n := 2) (ok_minus T) rfl (hr.mono (by decide)) T.g_minus T.F_minus.kp T.B_minus (takes_of rfl rfl rfl rfl) (a_cons (d_var 3) (a_cons (d_var 1) a_nil))) (a_cons (d_var 0) a_nil))))) (ss_one (s_ret d_bl)) ss_nil)
      (ss_one (s_ret (d_callF (n := 2) (ok__law_same T) rfl hr T.g__law_same T.F__law_same.kp T.B__law_same (takes_of rfl rfl rfl rfl) (a_cons (d_callF (n := 1) (ok_size T) rfl (hr.mono (by decide)) T.g_size T.F_size.kp T.B_size (takes_of rfl rfl rfl rfl) (a_cons (d_var 3) a_nil)) (a_cons (d_add (d_callB (FC.CallR.or (cr_sum rfl) (cr_sumT rfl)) cd_sum T.m_sum (by decide +kernel) (a_cons (d_var 0) a_nil)) (d_callB (FC.CallR.or (cr_sum rfl) (cr_sumT rfl)) cd_sum T.m_sum (by decide +kernel) (a_cons (d_var 1) a_nil))) a_nil)))))))))))))))
theorem ok__law_alone_holds (T : Txt P K mg) : FnOk P w K mg base (L2.CX P w) 6 T.f__law_alone_holds T.d__law_alone_holds ["crowd"] (spD K mg 1 F__law_alone_holds) :=
  fn_ok T.F__law_alone_holds sc__law_alone_holds (fun cdv A outer s H E hr => (ss_cons (s_setLcV (i := 1) false rfl sc__law_alone_holds.nd (sw_true rfl rfl rfl (by decide +kernel)) (i_rng1 T.m_range (a_cons (d_callB call_len_seq cd_len T.m_len PySem.boot_len (a_cons (d_var 0) a_nil)) a_nil)) (blkOk_by (own := [("x", 3)]) (N := N__law_alone_holds) (sc := defScope s__law_alone_holds) (by decide +kernel)) (fun _ _ _ _ _ => (g_name (i := 3) sc__law_alone_holds.nd)) (fun _ _ _ _ _ => (ts_one (t_gt (d_ix (d_var 0) (d_var 3)) d_int))) (fun _ _ _ _ _ => (d_var 3)))
      (ss_cons (s_set (i := 2) sc__law_alone_holds.nd (d_callF (n := 1) (ok_kinds_in T) rfl (hr.mono (by decide)) T.g_kinds_in T.F_kinds_in.kp T.B_kinds_in (takes_of rfl rfl rfl rfl) (a_cons (d_var 0) a_nil)))
      (ss_cons (s_if (t_not (t_tru (d_callF (n := 2) (ok__law_same T) rfl hr T.g__law_same T.F__law_same.kp T.B__law_same (takes_of rfl rfl rfl rfl) (a_cons (d_var 2) (a_cons (d_var 1) a_nil))))) (ss_one (s_ret d_bl)) ss_nil)
      (ss_cons (s_expr (d_append (d_var 2) (a_cons d_int a_nil)))
      (ss_cons (s_setIx d_int (d_var 2) d_int)
      (ss_one (s_ret (d_and (d_callF (n := 2) (ok__law_same T) rfl hr T.g__law_same T.F__law_same.kp T.B__law_same (takes_of rfl rfl rfl rfl) (a_cons (d_callF (n := 1) (ok_kinds_in T) rfl (hr.mono (by decide)) T.g_kinds_in T.F_kinds_in.kp T.B_kinds_in (takes_of rfl rfl rfl rfl) (a_cons (d_var 0) a_nil)) (a_cons (d_var 1) a_nil))) (d_one (d_callF (n := 2) (ok__law_same T) rfl hr T.g__law_same T.F__law_same.kp T.B__law_same (takes_of rfl rfl rfl rfl) (a_cons (d_callF (n := 1) (ok_size T) rfl (hr.mono (by decide)) T.g_size T.F_size.kp T.B_size (takes_of rfl rfl rfl rfl) (a_cons (d_var 0) a_nil)) (a_cons (d_callB (FC.CallR.or (cr_sum rfl) (cr_sumT rfl)) cd_sum T.m_sum (by decide +kernel) (a_cons (d_var 0) a_nil)) a_nil)))))))))))))
theorem ok_law (T : Txt P K mg) {f : Addr} {fd : FuncData} (FL : Fun K "law" "law" s_law f fd) : FnOk P w K mg base (L2.CX P w) 7 f fd ["script"] (spD K mg 1 F_law) :=
  fn_ok FL sc_law (fun cdv A outer s H E hr => (ss_cons (s_set (i := 1) sc_law.nd (d_callF (n := 2) (ok__law_pool T) rfl (hr.mono (by decide)) T.g__law_pool T.F__law_pool.kp T.B__law_pool (takes_of rfl rfl rfl rfl) (a_cons (d_var 0) (a_cons d_int a_nil))))
      (ss_cons (s_set (i := 2) sc_law.nd (d_add d_int (d_callF (n := 2) (ok__law_draw T) rfl (hr.mono (by decide)) T.g__law_draw T.F__law_draw.kp T.B__law_draw (takes_of rfl rfl rfl rfl) (a_cons (d_var 1) (a_cons d_int a_nil)))))
      (ss_cons (s_if (t_eq hr.units (d_callF (n := 2) (ok__law_draw T) rfl (hr.mono (by decide)) T.g__law_draw T.F__law_draw.kp T.B__law_draw (takes_of rfl rfl rfl rfl) (a_cons (d_var 1) (a_cons d_int a_nil))) d_int) (ss_one (s_set (i := 2) sc_law.nd (d_add d_int (d_callF (n := 2) (ok__law_draw T) rfl (hr.mono (by decide)) T.g__law_draw T.F__law_draw.kp T.B__law_draw (takes_of rfl rfl rfl rfl) (a_cons (d_var 1) (a_cons d_int a_nil)))))) ss_nil)
      (ss_cons (s_set (i := 3) sc_law.nd (d_callTy call_tuple_of cd_tuple T.m_tuple (by decide +kernel) (a_cons (d_lcV false rfl sc_law.nd (i_rng1 T.m_range (a_cons (d_var 2) a_nil)) (blkOk_by (own := [("x", 9)]) (N := N_law) (sc := defScope s_law) (by decide +kernel)) (fun _ _ _ _ _ => (g_name (i := 9) sc_law.nd)) (fun _ _ _ _ _ => ts_nil) (fun _ _ _ _ _ => (d_callF (n := 1) (ok__law_count T) rfl (hr.mono (by decide)) T.g__law_count T.F__law_count.kp T.B__law_count takes0 (a_cons (d_var 1) a_nil)))) a_nil)))
      (ss_cons (s_if (t_eq hr.units (d_callF (n := 2) (ok__law_draw T) rfl (hr.mono (by decide)) T.g__law_draw T.F__law_draw.kp T.B__law_draw (takes_of rfl rfl rfl rfl) (a_cons (d_var 1) (a_cons d_int a_nil))) d_int) (ss_one (s_set (i := 4) sc_law.nd (d_callTy call_tuple_of cd_tuple T.m_tuple (by decide +kernel) (a_cons (d_lcV false rfl sc_law.nd (i_seq (d_var 3)) (blkOk_by (own := [("count", 10)]) (N := N_law) (sc := defScope s_law) (by decide +kernel)) (fun _ _ _ _ _ => (g_name (i := 10) sc_law.nd)) (fun _ _ _ _ _ => ts_nil) (fun _ _ _ _ _ => (d_callF (n := 2) (ok__law_draw T) rfl (hr.mono (by decide)) T.g__law_draw T.F__law_draw.kp T.B__law_draw takes0 (a_cons (d_var 1) (a_cons (d_add (d_var 10) d_int) a_nil))))) a_nil)))) (ss_one (s_set (i := 4) sc_law.nd (d_callTy call_tuple_of cd_tuple T.m_tuple (by decide +kernel) (a_cons (d_lcV false rfl sc_law.nd (i_rng1 T.m_range (a_cons (d_var 2) a_nil)) (blkOk_by (own := [("x", 9)]) (N := N_law) (sc := defScope s_law) (by decide +kernel)) (fun _ _ _ _ _ => (g_name (i := 9) sc_law.nd)) (fun _ _ _ _ _ => ts_nil) (fun _ _ _ _ _ => (d_callF (n := 1) (ok__law_count T) rfl (hr.mono (by decide)) T.g__law_count T.F__law_count.kp T.B__law_count takes0 (a_cons (d_var 1) a_nil)))) a_nil)))))
      (ss_cons (s_set (i := 5) sc_law.nd (d_callF (n := 2) (ok__law_more T) rfl (hr.mono (by decide)) T.g__law_more T.F__law_more.kp T.B__law_more (takes_of rfl rfl rfl rfl) (a_cons (d_var 3) (a_cons (d_callF (n := 2) (ok__law_draw T) rfl (hr.mono (by decide)) T.g__law_draw T.F__law_draw.kp T.B__law_draw (takes_of rfl rfl rfl rfl) (a_cons (d_var 1) (a_cons (d_var 2) a_nil))) a_nil))))
      (ss_cons (s_for (passes_of rfl) rfl (i_seq (d_lst false (a_cons (d_tup (a_cons (d_var 3) (a_cons (d_var 4) a_nil))) (a_cons (d_tup (a_cons (d_var 4) (a_cons (d_var 3) a_nil))) (a_cons (d_tup (a_cons (d_var 3) (a_cons (d_var 5) a_nil))) (a_cons (d_tup (a_cons (d_var 5) (a_cons (d_var 3) a_nil))) (a_cons (d_tup (a_cons (d_var 3) (a_cons (d_var 3) a_nil))) a_nil))))))) (g_tup rfl (gs_cons (g_name (i := 6) sc_law.nd) (gs_cons (g_name (i := 7) sc_law.nd) gs_nil))) (ss_one (s_if (t_not (t_tru (d_callF (n := 2) (ok__law_pair_holds T) rfl hr T.g__law_pair_holds T.F__law_pair_holds.kp T.B__law_pair_holds (takes_of rfl rfl rfl rfl) (a_cons (d_var 6) (a_cons (d_var 7) a_nil))))) (ss_one (s_ret d_bl)) ss_nil)))
      (ss_cons (s_for (passes_of rfl) rfl (i_seq (d_lst false (a_cons (d_var 3) (a_cons (d_var 4) (a_cons (d_var 5) a_nil))))) (g_name (i := 8) sc_law.nd) (ss_one (s_if (t_not (t_tru (d_callF (n := 1) (ok__law_alone_holds T) rfl hr T.g__law_alone_holds T.F__law_alone_holds.kp T.B__law_alone_holds (takes_of rfl rfl rfl rfl) (a_cons (d_var 8) a_nil)))) (ss_one (s_ret d_bl)) ss_nil)))
      (ss_one (s_ret (d_callF (n := 2) (ok__law_pair_holds T) rfl hr T.g__law_pair_holds T.F__law_pair_holds.kp T.B__law_pair_holds (takes_of rfl rfl rfl rfl) (a_cons (d_var 3) (a_cons (d_var 4) a_nil))))))))))))))
end
theorem all_mk {l : PySem.W.OpenLaw} {w : World} {K : PySem.W.Frag} {h : Heap} {mg : Str → Option Value} {fa : Addr} (hl : l.prog = PySem.Challenge.pw_fewchairs_k00_crowd_sums) (X : K.In h) (G : h.Ns mainGlobals mg) (hfa : mg "law" = some (.ref fa))
    {f_size : Addr} {od_size an_size : Option Addr} {sl_size : Array (Option Value)} {oc_size kV_size dc_size pm_size cd_size ct_size : Value}
    {f_plus : Addr} {od_plus an_plus : Option Addr} {sl_plus : Array (Option Value)} {oc_plus kV_plus dc_plus pm_plus cd_plus ct_plus : Value}
    {f_within : Addr} {od_within an_within : Option Addr} {sl_within : Array (Option Value)} {oc_within kV_within dc_within pm_within cd_within ct_within : Value}
    {f_minus : Addr} {od_minus an_minus : Option Addr} {sl_minus : Array (Option Value)} {oc_minus kV_minus dc_minus pm_minus cd_minus ct_minus : Value}
    {f_lesser : Addr} {od_lesser an_lesser : Option Addr} {sl_lesser : Array (Option Value)} {oc_lesser kV_lesser dc_lesser pm_lesser cd_lesser ct_lesser : Value}
    {f_greater : Addr} {od_greater an_greater : Option Addr} {sl_greater : Array (Option Value)} {oc_greater kV_greater dc_greater pm_greater cd_greater ct_greater : Value}
    {f_kinds_in : Addr} {od_kinds_in an_kinds_in : Option Addr} {sl_kinds_in : Array (Option Value)} {oc_kinds_in kV_kinds_in dc_kinds_in pm_kinds_in cd_kinds_in ct_kinds_in : Value}
    {f__law_pool : Addr} {od__law_pool an__law_pool : Option Addr} {sl__law_pool : Array (Option Value)} {oc__law_pool kV__law_pool dc__law_pool pm__law_pool cd__law_pool ct__law_pool : Value}
    {f__law_draw : Addr} {od__law_draw an__law_draw : Option Addr} {sl__law_draw : Array (Option Value)} {oc__law_draw kV__law_draw dc__law_draw pm__law_draw cd__law_draw ct__law_draw : Value}
    {f__law_more : Addr} {od__law_more an__law_more : Option Addr} {sl__law_more : Array (Option Value)} {oc__law_more kV__law_more dc__law_more pm__law_more cd__law_more ct__law_more : Value}
    {f__law_same : Addr} {od__law_same an__law_same : Option Addr} {sl__law_same : Array (Option Value)} {oc__law_same kV__law_same dc__law_same pm__law_same cd__law_same ct__law_same : Value}
    {f__law_count : Addr} {od__law_count an__law_count : Option Addr} {sl__law_count : Array (Option Value)} {oc__law_count kV__law_count dc__law_count pm__law_count cd__law_count ct__law_count : Value}
    {f__law_refused : Addr} {od__law_refused an__law_refused : Option Addr} {sl__law_refused : Array (Option Value)} {oc__law_refused kV__law_refused dc__law_refused pm__law_refused cd__law_refused ct__law_refused : Value}
    {f__law_pair_holds : Addr} {od__law_pair_holds an__law_pair_holds : Option Addr} {sl__law_pair_holds : Array (Option Value)} {oc__law_pair_holds kV__law_pair_holds dc__law_pair_holds pm__law_pair_holds cd__law_pair_holds ct__law_pair_holds : Value}
    {f__law_alone_holds : Addr} {od__law_alone_holds an__law_alone_holds : Option Addr} {sl__law_alone_holds : Array (Option Value)} {oc__law_alone_holds kV__law_alone_holds dc__law_alone_holds pm__law_alone_holds cd__law_alone_holds ct__law_alone_holds : Value}
    {f_law : Addr} {od_law an_law : Option Addr} {sl_law : Array (Option Value)} {oc_law kV_law dc_law pm_law cd_law ct_law : Value}
    (a_size : PySem.W.nsIn K mainGlobals "size" = some (some (.ref f_size))) (l_size : K.lookup f_size = some ⟨oc_size, od_size, .func (PySem.W.fnOf "size" "size" (defArgs s_size) (defBody s_size) (defScope s_size) .none kV_size dc_size pm_size an_size cd_size ct_size), sl_size⟩) (c_size : PySem.W.codeIn K cd_size "size" = true) (k_size : PySem.W.keepIn K (.ref f_size) = true)
    (a_plus : PySem.W.nsIn K mainGlobals "plus" = some (some (.ref f_plus))) (l_plus : K.lookup f_plus = some ⟨oc_plus, od_plus, .func (PySem.W.fnOf "plus" "plus" (defArgs s_plus) (defBody s_plus) (defScope s_plus) .none kV_plus dc_plus pm_plus an_plus cd_plus ct_plus), sl_plus⟩) (c_plus : PySem.W.codeIn K cd_plus "plus" = true) (k_plus : PySem.W.keepIn K (.ref f_plus) = true)
    (a_within : PySem.W.nsIn K mainGlobals "within" = some (some (.ref f_within))) (l_within : K.lookup f_within = some ⟨oc_within, od_within, .func (PySem.W.fnOf "within" "within" (defArgs s_within) (defBody s_within) (defScope s_within) .none kV_within dc_within pm_within an_within cd_within ct_within), sl_within⟩) (c_within : PySem.W.codeIn K cd_within "within" = true) (k_within : PySem.W.keepIn K (.ref f_within) = true)
    (a_minus : PySem.W.nsIn K mainGlobals "minus" = some (some (.ref f_minus))) (l_minus : K.lookup f_minus = some ⟨oc_minus, od_minus, .func (PySem.W.fnOf "minus" "minus" (defArgs s_minus) (defBody s_minus) (defScope s_minus) .none kV_minus dc_minus pm_minus an_minus cd_minus ct_minus), sl_minus⟩) (c_minus : PySem.W.codeIn K cd_minus "minus" = true) (k_minus : PySem.W.keepIn K (.ref f_minus) = true)
    (a_lesser : PySem.W.nsIn K mainGlobals "lesser" = some (some (.ref f_lesser))) (l_lesser : K.lookup f_lesser = some ⟨oc_lesser, od_lesser, .func (PySem.W.fnOf "lesser" "lesser" (defArgs s_lesser) (defBody s_lesser) (defScope s_lesser) .none kV_lesser dc_lesser pm_lesser an_lesser cd_lesser ct_lesser), sl_lesser⟩) (c_lesser : PySem.W.codeIn K cd_lesser "lesser" = true) (k_lesser : PySem.W.keepIn K (.ref f_lesser) = true)
    (a_greater : PySem.W.nsIn K mainGlobals "greater" = some (some (.ref f_greater))) (l_greater : K.lookup f_greater = some ⟨oc_greater, od_greater, .func (PySem.W.fnOf "greater" "greater" (defArgs s_greater) (defBody s_greater) (defScope s_greater) .none kV_greater dc_greater pm_greater an_greater cd_greater ct_greater), sl_greater⟩) (c_greater : PySem.W.codeIn K cd_greater "greater" = true) (k_greater : PySem.W.keepIn K (.ref f_greater) = true)
    (a_kinds_in : PySem.W.nsIn K mainGlobals "kinds_in" = some (some (.ref f_kinds_in))) (l_kinds_in : K.lookup f_kinds_in = some ⟨oc_kinds_in, od_kinds_in, .func (PySem.W.fnOf "kinds_in" "kinds_in" (defArgs s_kinds_in) (defBody s_kinds_in) (defScope s_kinds_in) .none kV_kinds_in dc_kinds_in pm_kinds_in an_kinds_in cd_kinds_in ct_kinds_in), sl_kinds_in⟩) (c_kinds_in : PySem.W.codeIn K cd_kinds_in "kinds_in" = true) (k_kinds_in : PySem.W.keepIn K (.ref f_kinds_in) = true)
    (a__law_pool : PySem.W.nsIn K mainGlobals "_law_pool" = some (some (.ref f__law_pool))) (l__law_pool : K.lookup f__law_pool = some ⟨oc__law_pool, od__law_pool, .func (PySem.W.fnOf "_law_pool" "_law_pool" (defArgs s__law_pool) (defBody s__law_pool) (defScope s__law_pool) .none kV__law_pool dc__law_pool pm__law_pool an__law_pool cd__law_pool ct__law_pool), sl__law_pool⟩) (c__law_pool : PySem.W.codeIn K cd__law_pool "_law_pool" = true) (k__law_pool : PySem.W.keepIn K (.ref f__law_pool) = true)
    (a__law_draw : PySem.W.nsIn K mainGlobals "_law_draw" = some (some (.ref f__law_draw))) (l__law_draw : K.lookup f__law_draw = some ⟨oc__law_draw, od__law_draw, .func (PySem.W.fnOf "_law_draw" "_law_draw" (defArgs s__law_draw) (defBody s__law_draw) (defScope s__law_draw) .none kV__law_draw dc__law_draw pm__law_draw an__law_draw cd__law_draw ct__law_draw), sl__law_draw⟩) (c__law_draw : PySem.W.codeIn K cd__law_draw "_law_draw" = true) (k__law_draw : PySem.W.keepIn K (.ref f__law_draw) = true)
    (a__law_more : PySem.W.nsIn K mainGlobals "_law_more" = some (some (.ref f__law_more))) (l__law_more : K.lookup f__law_more = some ⟨oc__law_more, od__law_more, .func (PySem.W.fnOf "_law_more" "_law_more" (defArgs s__law_more) (defBody s__law_more) (defScope s__law_more) .none kV__law_more dc__law_more pm__law_more an__law_more cd__law_more ct__law_more), sl__law_more⟩) (c__law_more : PySem.W.codeIn K cd__law_more "_law_more" = true) (k__law_more : PySem.W.keepIn K (.ref f__law_more) = true)
    (a__law_same : PySem.W.nsIn K mainGlobals "_law_same" = some (some (.ref f__law_same))) (l__law_same : K.lookup f__law_same = some ⟨oc__law_same, od__law_same, .func (PySem.W.fnOf "_law_same" "_law_same" (defArgs s__law_same) (defBody s__law_same) (defScope s__law_same) .none kV__law_same dc__law_same pm__law_same an__law_same cd__law_same ct__law_same), sl__law_same⟩) (c__law_same : PySem.W.codeIn K cd__law_same "_law_same" = true) (k__law_same : PySem.W.keepIn K (.ref f__law_same) = true)
    (a__law_count : PySem.W.nsIn K mainGlobals "_law_count" = some (some (.ref f__law_count))) (l__law_count : K.lookup f__law_count = some ⟨oc__law_count, od__law_count, .func (PySem.W.fnOf "_law_count" "_law_count" (defArgs s__law_count) (defBody s__law_count) (defScope s__law_count) .none kV__law_count dc__law_count pm__law_count an__law_count cd__law_count ct__law_count), sl__law_count⟩) (c__law_count : PySem.W.codeIn K cd__law_count "_law_count" = true) (k__law_count : PySem.W.keepIn K (.ref f__law_count) = true)
    (a__law_refused : PySem.W.nsIn K mainGlobals "_law_refused" = some (some (.ref f__law_refused))) (l__law_refused : K.lookup f__law_refused = some ⟨oc__law_refused, od__law_refused, .func (PySem.W.fnOf "_law_refused" "_law_refused" (defArgs s__law_refused) (defBody s__law_refused) (defScope s__law_refused) .none kV__law_refused dc__law_refused pm__law_refused an__law_refused cd__law_refused ct__law_refused), sl__law_refused⟩) (c__law_refused : PySem.W.codeIn K cd__law_refused "_law_refused" = true) (k__law_refused : PySem.W.keepIn K (.ref f__law_refused) = true)
    (a__law_pair_holds : PySem.W.nsIn K mainGlobals "_law_pair_holds" = some (some (.ref f__law_pair_holds))) (l__law_pair_holds : K.lookup f__law_pair_holds = some ⟨oc__law_pair_holds, od__law_pair_holds, .func (PySem.W.fnOf "_law_pair_holds" "_law_pair_holds" (defArgs s__law_pair_holds) (defBody s__law_pair_holds) (defScope s__law_pair_holds) .none kV__law_pair_holds dc__law_pair_holds pm__law_pair_holds an__law_pair_holds cd__law_pair_holds ct__law_pair_holds), sl__law_pair_holds⟩) (c__law_pair_holds : PySem.W.codeIn K cd__law_pair_holds "_law_pair_holds" = true) (k__law_pair_holds : PySem.W.keepIn K (.ref f__law_pair_holds) = true)
    (a__law_alone_holds : PySem.W.nsIn K mainGlobals "_law_alone_holds" = some (some (.ref f__law_alone_holds))) (l__law_alone_holds : K.lookup f__law_alone_holds = some ⟨oc__law_alone_holds, od__law_alone_holds, .func (PySem.W.fnOf "_law_alone_holds" "_law_alone_holds" (defArgs s__law_alone_holds) (defBody s__law_alone_holds) (defScope s__law_alone_holds) .none kV__law_alone_holds dc__law_alone_holds pm__law_alone_holds an__law_alone_holds cd__law_alone_holds ct__law_alone_holds), sl__law_alone_holds⟩) (c__law_alone_holds : PySem.W.codeIn K cd__law_alone_holds "_law_alone_holds" = true) (k__law_alone_holds : PySem.W.keepIn K (.ref f__law_alone_holds) = true)
    (a_law : PySem.W.nsIn K mainGlobals "law" = some (some (.ref f_law))) (l_law : K.lookup f_law = some ⟨oc_law, od_law, .func (PySem.W.fnOf "law" "law" (defArgs s_law) (defBody s_law) (defScope s_law) .none kV_law dc_law pm_law an_law cd_law ct_law), sl_law⟩) (c_law : PySem.W.codeIn K cd_law "law" = true) (k_law : PySem.W.keepIn K (.ref f_law) = true)
    (z_ValueError : PySem.W.nsIn K mainGlobals "ValueError" = some none)
    (z_abs : PySem.W.nsIn K mainGlobals "abs" = some none)
    (z_all : PySem.W.nsIn K mainGlobals "all" = some none)
    (z_bool : PySem.W.nsIn K mainGlobals "bool" = some none)
    (z_enumerate : PySem.W.nsIn K mainGlobals "enumerate" = some none)
    (z_int : PySem.W.nsIn K mainGlobals "int" = some none)
    (z_isinstance : PySem.W.nsIn K mainGlobals "isinstance" = some none)
    (z_len : PySem.W.nsIn K mainGlobals "len" = some none)
    (z_list : PySem.W.nsIn K mainGlobals "list" = some none)
    (z_max : PySem.W.nsIn K mainGlobals "max" = some none)
    (z_min : PySem.W.nsIn K mainGlobals "min" = some none)
    (z_range : PySem.W.nsIn K mainGlobals "range" = some none)
    (z_str : PySem.W.nsIn K mainGlobals "str" = some none)
    (z_sum : PySem.W.nsIn K mainGlobals "sum" = some none)
    (z_tuple : PySem.W.nsIn K mainGlobals "tuple" = some none)
    (z_zip : PySem.W.nsIn K mainGlobals "zip" = some none)
    (z_super : PySem.W.nsIn K mainGlobals "super" = some none)
    {C_HallError : Addr} (a_HallError : PySem.W.nsIn K mainGlobals "HallError" = some (some (.ref C_HallError)))
    {C_BadCrowd I_BadCrowd cc_BadCrowd cda_BadCrowd : Addr} {nm_BadCrowd q_BadCrowd : Str} {NN_BadCrowd : Addr} {bs_BadCrowd bm_BadCrowd : List Value} {sn_BadCrowd : List Str} {sub_BadCrowd : List Value} {ab_BadCrowd : Bool} {col_BadCrowd : Option Bool} {dd_BadCrowd : Option Addr} {m0_BadCrowd m1_BadCrowd m2_BadCrowd m3_BadCrowd m5_BadCrowd : Option Value}
    {od_BadCrowd an_BadCrowd cdd_BadCrowd cld_BadCrowd : Option Addr} {sl_BadCrowd ccs_BadCrowd csl_BadCrowd : Array (Option Value)} {oc_BadCrowd dc_BadCrowd pm_BadCrowd ct_BadCrowd ccl_BadCrowd cl_BadCrowd : Value} {vs_BadCrowd : Array Value} {file_BadCrowd : Str} {tf_BadCrowd : Tok}
    (a_BadCrowd : PySem.W.nsIn K mainGlobals "BadCrowd" = some (some (.ref C_BadCrowd)))
    (x_BadCrowd : K.lookup C_BadCrowd = some (excClassObj nm_BadCrowd q_BadCrowd C_BadCrowd NN_BadCrowd bs_BadCrowd bm_BadCrowd true sn_BadCrowd sub_BadCrowd ab_BadCrowd col_BadCrowd dd_BadCrowd m0_BadCrowd m1_BadCrowd m2_BadCrowd m3_BadCrowd m5_BadCrowd "ValueError.__new__")) (bm_ok_BadCrowd : PySem.HandSPX.refsVE bm_BadCrowd = true)
    (sa_BadCrowd : PySem.W.findIn K (.ref C_BadCrowd) "__setattr__" = some (some (.builtin "object.__setattr__")))
    (ga_BadCrowd : PySem.W.findIn K (.ref C_BadCrowd) "__getattribute__" = some (some (.builtin "BaseException.__getattribute__")))
    (gg_BadCrowd : PySem.W.findIn K (.ref C_BadCrowd) "__getattr__" = some none)
    (nn_BadCrowd : PySem.W.findIn K (.ref C_BadCrowd) "crowd" = some none)
    (i_BadCrowd : PySem.W.findIn K (.ref C_BadCrowd) "__init__" = some (some (.ref I_BadCrowd))) (t_BadCrowd : PySem.W.typeIn K (.ref I_BadCrowd) = some (.type "function")) (kc_BadCrowd : PySem.W.keepIn K (.ref C_BadCrowd) = true) (ec_BadCrowd : PySem.W.subIn K (.ref C_BadCrowd) (.type "BaseException") = some true) (vc_BadCrowd : PySem.W.subIn K (.ref C_BadCrowd) (.type "ValueError") = some true) (ty_BadCrowd : PySem.W.typeIn K (.ref C_BadCrowd) = some (.type "type")) (hd_BadCrowd : PySem.W.hasDictIn K C_BadCrowd = true) (sp_BadCrowd : PySem.W.ks_superIn K C_BadCrowd C_BadCrowd "__init__" = some (some (.builtin "ValueError.__init__")))
    (l_BadCrowd : K.lookup I_BadCrowd = some ⟨oc_BadCrowd, od_BadCrowd, .func (PySem.W.ksFn "__init__" "BadCrowd.__init__" (PySem.SupX.sArgs "crowd" ⟨6, 17, 6, 21⟩ ⟨6, 23, 6, 28⟩) (PySem.SupX.sBody "crowd" "this is not a crowd that is wanted here" ⟨7, 8, 7, 13⟩ ⟨7, 8, 7, 15⟩ ⟨7, 8, 7, 24⟩ ⟨7, 25, 7, 66⟩ ⟨7, 8, 7, 67⟩ ⟨7, 8, 7, 67⟩ ⟨8, 8, 8, 12⟩ ⟨8, 8, 8, 18⟩ ⟨8, 21, 8, 26⟩ ⟨8, 8, 8, 26⟩) (PySem.SupX.sScope "crowd") .none .none dc_BadCrowd pm_BadCrowd an_BadCrowd (.ref cda_BadCrowd) ct_BadCrowd cc_BadCrowd), sl_BadCrowd⟩) (c_BadCrowd : PySem.W.codeIn K (.ref cda_BadCrowd) "BadCrowd.__init__" = true)
    (cd_BadCrowd : K.lookup cda_BadCrowd = some ⟨ccl_BadCrowd, cdd_BadCrowd, .fields vs_BadCrowd, ccs_BadCrowd⟩) (vs2_BadCrowd : vs_BadCrowd[2]? = some (.str file_BadCrowd tf_BadCrowd)) (fi_BadCrowd : ((PySem.Challenge.pw_fewchairs_k00_crowd_sums.main.file : Str) == file_BadCrowd) = true) (ce_BadCrowd : K.lookup cc_BadCrowd = some ⟨cl_BadCrowd, cld_BadCrowd, .cell (some (.ref C_BadCrowd)), csl_BadCrowd⟩)
    {C_BadKind I_BadKind cc_BadKind cda_BadKind : Addr} {nm_BadKind q_BadKind : Str} {NN_BadKind : Addr} {bs_BadKind bm_BadKind : List Value} {sn_BadKind : List Str} {sub_BadKind : List Value} {ab_BadKind : Bool} {col_BadKind : Option Bool} {dd_BadKind : Option Addr} {m0_BadKind m1_BadKind m2_BadKind m3_BadKind m5_BadKind : Option Value}
    {od_BadKind an_BadKind cdd_BadKind cld_BadKind : Option Addr} {sl_BadKind ccs_BadKind csl_BadKind : Array (Option Value)} {oc_BadKind dc_BadKind pm_BadKind ct_BadKind ccl_BadKind cl_BadKind : Value} {vs_BadKind : Array Value} {file_BadKind : Str} {tf_BadKind : Tok}
    (a_BadKind : PySem.W.nsIn K mainGlobals "BadKind" = some (some (.ref C_BadKind)))
    (x_BadKind : K.lookup C_BadKind = some (excClassObj nm_BadKind q_BadKind C_BadKind NN_BadKind bs_BadKind bm_BadKind true sn_BadKind sub_BadKind ab_BadKind col_BadKind dd_BadKind m0_BadKind m1_BadKind m2_BadKind m3_BadKind m5_BadKind "ValueError.__new__")) (bm_ok_BadKind : PySem.HandSPX.refsVE bm_BadKind = true)
    (sa_BadKind : PySem.W.findIn K (.ref C_BadKind) "__setattr__" = some (some (.builtin "object.__setattr__")))
    (ga_BadKind : PySem.W.findIn K (.ref C_BadKind) "__getattribute__" = some (some (.builtin "BaseException.__getattribute__")))
    (gg_BadKind : PySem.W.findIn K (.ref C_BadKind) "__getattr__" = some none)
    (nn_BadKind : PySem.W.findIn K (.ref C_BadKind) "kind" = some none)
    (i_BadKind : PySem.W.findIn K (.ref C_BadKind) "__init__" = some (some (.ref I_BadKind))) (t_BadKind : PySem.W.typeIn K (.ref I_BadKind) = some (.type "function")) (kc_BadKind : PySem.W.keepIn K (.ref C_BadKind) = true) (ec_BadKind : PySem.W.subIn K (.ref C_BadKind) (.type "BaseException") = some true) (vc_BadKind : PySem.W.subIn K (.ref C_BadKind) (.type "ValueError") = some true) (ty_BadKind : PySem.W.typeIn K (.ref C_BadKind) = some (.type "type")) (hd_BadKind : PySem.W.hasDictIn K C_BadKind = true) (sp_BadKind : PySem.W.ks_superIn K C_BadKind C_BadKind "__init__" = some (some (.builtin "ValueError.__init__")))
    (l_BadKind : K.lookup I_BadKind = some ⟨oc_BadKind, od_BadKind, .func (PySem.W.ksFn "__init__" "BadKind.__init__" (PySem.SupX.sArgs "kind" ⟨11, 17, 11, 21⟩ ⟨11, 23, 11, 27⟩) (PySem.SupX.sBody "kind" "this is not a kind that is wanted here" ⟨12, 8, 12, 13⟩ ⟨12, 8, 12, 15⟩ ⟨12, 8, 12, 24⟩ ⟨12, 25, 12, 65⟩ ⟨12, 8, 12, 66⟩ ⟨12, 8, 12, 66⟩ ⟨13, 8, 13, 12⟩ ⟨13, 8, 13, 17⟩ ⟨13, 20, 13, 24⟩ ⟨13, 8, 13, 24⟩) (PySem.SupX.sScope "kind") .none .none dc_BadKind pm_BadKind an_BadKind (.ref cda_BadKind) ct_BadKind cc_BadKind), sl_BadKind⟩) (c_BadKind : PySem.W.codeIn K (.ref cda_BadKind) "BadKind.__init__" = true)
    (cd_BadKind : K.lookup cda_BadKind = some ⟨ccl_BadKind, cdd_BadKind, .fields vs_BadKind, ccs_BadKind⟩) (vs2_BadKind : vs_BadKind[2]? = some (.str file_BadKind tf_BadKind)) (fi_BadKind : ((PySem.Challenge.pw_fewchairs_k00_crowd_sums.main.file : Str) == file_BadKind) = true) (ce_BadKind : K.lookup cc_BadKind = some ⟨cl_BadKind, cld_BadKind, .cell (some (.ref C_BadKind)), csl_BadKind⟩)
    (opq : PySem.W.nsIn K PySem.cStatics "thirdparty.any" = some none)
    (cls_BadCrowd : PySem.W.findIn K (.ref C_BadCrowd) "__class__" = some (some (.builtin "object.__class__"))) (mo_BadCrowd : PySem.W.mroIn K C_BadCrowd (.type "object") = some true) (isc_BadCrowd : PySem.W.isClsIn K C_BadCrowd = true) (ss_BadCrowd : PySem.W.subIn K (.ref C_BadCrowd) (.ref C_BadCrowd) = some true)
    (spg : PySem.W.specialIn K (.builtin "object.__class__") "__get__" = some (some (.builtin "getset_descriptor.__get__"))) (tko : PySem.W.takesIn K (.builtin "object.__class__") = some true)
    (kit_BadCrowd_BadKind : PySem.W.kitOne K (.ref C_BadCrowd) (.ref C_BadKind) = some false)
    (kit_BadCrowd_HallError : PySem.W.kitOne K (.ref C_BadCrowd) (.ref C_HallError) = some true)
    (kit_BadCrowd_ValueError : PySem.W.kitOne K (.ref C_BadCrowd) (.type "ValueError") = some true)
    (goodS : ∀ ns : List Int, ns.length ≤ 63 → ∃ S', F_law [.lst (ns.map Dv.int)] [] = some (.ok (.bl true) S')) :
    ∃ fd : FuncData, (∀ (s : Shared) (v : Value), BindsTo s fd ⟨[v], []⟩ [("script", v)]) ∧ ∀ base : Heap, K.In base → base.Ns mainGlobals mg → FnOk l.prog w K mg base (L2.CX l.prog w) 7 fa fd ["script"] (spLaw 63 K) := by
  have e := hfa.symm.trans (PySem.W.mg_of X G a_law)
  cases e
  rw [hl]
  have Fsize := fun_mk (st := s_size) l_size c_size k_size
  have Fplus := fun_mk (st := s_plus) l_plus c_plus k_plus
  have Fwithin := fun_mk (st := s_within) l_within c_within k_within
  have Fminus := fun_mk (st := s_minus) l_minus c_minus k_minus
  have Flesser := fun_mk (st := s_lesser) l_lesser c_lesser k_lesser
  have Fgreater := fun_mk (st := s_greater) l_greater c_greater k_greater
  have Fkinds_in := fun_mk (st := s_kinds_in) l_kinds_in c_kinds_in k_kinds_in
  have F_law_pool := fun_mk (st := s__law_pool) l__law_pool c__law_pool k__law_pool
  have F_law_draw := fun_mk (st := s__law_draw) l__law_draw c__law_draw k__law_draw
  have F_law_more := fun_mk (st := s__law_more) l__law_more c__law_more k__law_more
  have F_law_same := fun_mk (st := s__law_same) l__law_same c__law_same k__law_same
  have F_law_count := fun_mk (st := s__law_count) l__law_count c__law_count k__law_count
  have F_law_refused := fun_mk (st := s__law_refused) l__law_refused c__law_refused k__law_refused
  have F_law_pair_holds := fun_mk (st := s__law_pair_holds) l__law_pair_holds c__law_pair_holds k__law_pair_holds
  have F_law_alone_holds := fun_mk (st := s__law_alone_holds) l__law_alone_holds c__law_alone_holds k__law_alone_holds
  have Flaw := fun_mk (st := s_law) l_law c_law k_law
  have Bsize := Fsize.binds (ps := ["crowd"]) fun _ _ _ _ _ _ us hl => match us, hl with | [_], _ => rfl
  have Bplus := Fplus.binds (ps := ["first", "second"]) fun _ _ _ _ _ _ us hl => match us, hl with | [_, _], _ => rfl
  have Bwithin := Fwithin.binds (ps := ["first", "second"]) fun _ _ _ _ _ _ us hl => match us, hl with | [_, _], _ => rfl
  have Bminus := Fminus.binds (ps := ["first", "second"]) fun _ _ _ _ _ _ us hl => match us, hl with | [_, _], _ => rfl
  have Blesser := Flesser.binds (ps := ["first", "second"]) fun _ _ _ _ _ _ us hl => match us, hl with | [_, _], _ => rfl
  have Bgreater := Fgreater.binds (ps := ["first", "second"]) fun _ _ _ _ _ _ us hl => match us, hl with | [_, _], _ => rfl
  have Bkinds_in := Fkinds_in.binds (ps := ["crowd"]) fun _ _ _ _ _ _ us hl => match us, hl with | [_], _ => rfl
  have B_law_pool := F_law_pool.binds (ps := ["script", "at"]) fun _ _ _ _ _ _ us hl => match us, hl with | [_, _], _ => rfl
  have B_law_draw := F_law_draw.binds (ps := ["pool", "many"]) fun _ _ _ _ _ _ us hl => match us, hl with | [_, _], _ => rfl
  have B_law_more := F_law_more.binds (ps := ["crowd", "kind"]) fun _ _ _ _ _ _ us hl => match us, hl with | [_, _], _ => rfl
  have B_law_same := F_law_same.binds (ps := ["got", "due"]) fun _ _ _ _ _ _ us hl => match us, hl with | [_, _], _ => rfl
  have B_law_count := F_law_count.binds (ps := ["pool"]) fun _ _ _ _ _ _ us hl => match us, hl with | [_], _ => rfl
  have B_law_refused := F_law_refused.binds (ps := ["first", "second"]) fun _ _ _ _ _ _ us hl => match us, hl with | [_, _], _ => rfl
  have B_law_pair_holds := F_law_pair_holds.binds (ps := ["first", "second"]) fun _ _ _ _ _ _ us hl => match us, hl with | [_, _], _ => rfl
  have B_law_alone_holds := F_law_alone_holds.binds (ps := ["crowd"]) fun _ _ _ _ _ _ us hl => match us, hl with | [_], _ => rfl
  have gHallError := PySem.W.mg_of X G a_HallError
  have coHallError : cOf mg "HallError" = C_HallError := cOf_of gHallError
  have gBadCrowd := PySem.W.mg_of X G a_BadCrowd
  have coBadCrowd : cOf mg "BadCrowd" = C_BadCrowd := cOf_of gBadCrowd
  have gBadKind := PySem.W.mg_of X G a_BadKind
  have coBadKind : cOf mg "BadKind" = C_BadKind := cOf_of gBadKind
  have TBadCrowd : SupTxt PySem.Challenge.pw_fewchairs_k00_crowd_sums K mg "BadCrowd" "crowd" C_BadCrowd I_BadCrowd := { gC := gBadCrowd, cls := ⟨_, _, _, _, _, _, _, _, _, _, _, _, _, _, _, x_BadCrowd, bm_ok_BadCrowd⟩, sa := sa_BadCrowd, ga := ga_BadCrowd, gg := gg_BadCrowd, noN := nn_BadCrowd, iC := i_BadCrowd, tC := t_BadCrowd, kC := kc_BadCrowd, exC := ec_BadCrowd, vC := vc_BadCrowd, tyC := ty_BadCrowd, hdC := hd_BadCrowd, opq := opq, spI := sp_BadCrowd, spN := PySem.W.mg_none_of X G z_super, top := (by decide +kernel), l1 := rfl, l2 := rfl, l3 := rfl, l4 := (by decide), l5 := (by decide), fn := ⟨"BadCrowd.__init__", _, _, _, _, _, _, cda_BadCrowd, cc_BadCrowd, _, _, _, _, _, _, _, _, _, _, _, _, _, _, _, _, _, _, _, _, _, _, _, l_BadCrowd, c_BadCrowd, cd_BadCrowd, vs2_BadCrowd, fi_BadCrowd, ce_BadCrowd, fun _ _ => rfl, _, fun _ => rfl⟩ }
  have TBadKind : SupTxt PySem.Challenge.pw_fewchairs_k00_crowd_sums K mg "BadKind" "kind" C_BadKind I_BadKind := { gC := gBadKind, cls := ⟨_, _, _, _, _, _, _, _, _, _, _, _, _, _, _, x_BadKind, bm_ok_BadKind⟩, sa := sa_BadKind, ga := ga_BadKind, gg := gg_BadKind, noN := nn_BadKind, iC := i_BadKind, tC := t_BadKind, kC := kc_BadKind, exC := ec_BadKind, vC := vc_BadKind, tyC := ty_BadKind, hdC := hd_BadKind, opq := opq, spI := sp_BadKind, spN := PySem.W.mg_none_of X G z_super, top := (by decide +kernel), l1 := rfl, l2 := rfl, l3 := rfl, l4 := (by decide), l5 := (by decide), fn := ⟨"BadKind.__init__", _, _, _, _, _, _, cda_BadKind, cc_BadKind, _, _, _, _, _, _, _, _, _, _, _, _, _, _, _, _, _, _, _, _, _, _, _, l_BadKind, c_BadKind, cd_BadKind, vs2_BadKind, fi_BadKind, ce_BadKind, fun _ _ => rfl, _, fun _ => rfl⟩ }
  let T : Txt PySem.Challenge.pw_fewchairs_k00_crowd_sums K mg := { m_ValueError := PySem.W.mg_none_of X G z_ValueError, m_abs := PySem.W.mg_none_of X G z_abs, m_all := PySem.W.mg_none_of X G z_all, m_bool := PySem.W.mg_none_of X G z_bool, m_enumerate := PySem.W.mg_none_of X G z_enumerate, m_int := PySem.W.mg_none_of X G z_int, m_isinstance := PySem.W.mg_none_of X G z_isinstance, m_len := PySem.W.mg_none_of X G z_len, m_list := PySem.W.mg_none_of X G z_list, m_max := PySem.W.mg_none_of X G z_max, m_min := PySem.W.mg_none_of X G z_min, m_range := PySem.W.mg_none_of X G z_range, m_str := PySem.W.mg_none_of X G z_str, m_sum := PySem.W.mg_none_of X G z_sum, m_tuple := PySem.W.mg_none_of X G z_tuple, m_zip := PySem.W.mg_none_of X G z_zip, f_size := f_size, d_size := _, F_size := Fsize, g_size := PySem.W.mg_of X G a_size, B_size := Bsize, f_plus := f_plus, d_plus := _, F_plus := Fplus, g_plus := PySem.W.mg_of X G a_plus, B_plus := Bplus, f_within := f_within, d_within := _, F_within := Fwithin, g_within := PySem.W.mg_of X G a_within, B_within := Bwithin, f_minus := f_minus, d_minus := _, F_minus := Fminus, g_minus := PySem.W.mg_of X G a_minus, B_minus := Bminus, f_lesser := f_lesser, d_lesser := _, F_lesser := Flesser, g_lesser := PySem.W.mg_of X G a_lesser, B_lesser := Blesser, f_greater := f_greater, d_greater := _, F_greater := Fgreater, g_greater := PySem.W.mg_of X G a_greater, B_greater := Bgreater, f_kinds_in := f_kinds_in, d_kinds_in := _, F_kinds_in := Fkinds_in, g_kinds_in := PySem.W.mg_of X G a_kinds_in, B_kinds_in := Bkinds_in, f__law_pool := f__law_pool, d__law_pool := _, F__law_pool := F_law_pool, g__law_pool := PySem.W.mg_of X G a__law_pool, B__law_pool := B_law_pool, f__law_draw := f__law_draw, d__law_draw := _, F__law_draw := F_law_draw, g__law_draw := PySem.W.mg_of X G a__law_draw, B__law_draw := B_law_draw, f__law_more := f__law_more, d__law_more := _, F__law_more := F_law_more, g__law_more := PySem.W.mg_of X G a__law_more, B__law_more := B_law_more, f__law_same := f__law_same, d__law_same := _, F__law_same := F_law_same, g__law_same := PySem.W.mg_of X G a__law_same, B__law_same := B_law_same, f__law_count := f__law_count, d__law_count := _, F__law_count := F_law_count, g__law_count := PySem.W.mg_of X G a__law_count, B__law_count := B_law_count, f__law_refused := f__law_refused, d__law_refused := _, F__law_refused := F_law_refused, g__law_refused := PySem.W.mg_of X G a__law_refused, B__law_refused := B_law_refused, f__law_pair_holds := f__law_pair_holds, d__law_pair_holds := _, F__law_pair_holds := F_law_pair_holds, g__law_pair_holds := PySem.W.mg_of X G a__law_pair_holds, B__law_pair_holds := B_law_pair_holds, f__law_alone_holds := f__law_alone_holds, d__law_alone_holds := _, F__law_alone_holds := F_law_alone_holds, g__law_alone_holds := PySem.W.mg_of X G a__law_alone_holds, B__law_alone_holds := B_law_alone_holds, C_HallError := C_HallError, g_HallError := gHallError, C_BadCrowd := C_BadCrowd, I_BadCrowd := I_BadCrowd, g_BadCrowd := gBadCrowd, T_BadCrowd := TBadCrowd, C_BadKind := C_BadKind, I_BadKind := I_BadKind, g_BadKind := gBadKind, T_BadKind := TBadKind, xf_BadCrowd := by rw [coBadCrowd]; exact ⟨ga_BadCrowd, gg_BadCrowd, ec_BadCrowd, hd_BadCrowd⟩, xn_BadCrowd := by rw [coBadCrowd]; exact nn_BadCrowd, ec_BadCrowd := by rw [coBadCrowd]; exact ⟨ga_BadCrowd, gg_BadCrowd, ec_BadCrowd, hd_BadCrowd, cls_BadCrowd, spg, tko, mo_BadCrowd⟩, exm_BadCrowd_BadCrowd := by rw [coBadCrowd]; exact PySem.W.exm_ref ec_BadCrowd hd_BadCrowd ty_BadCrowd ss_BadCrowd, kit_BadCrowd_BadKind := by rw [coBadCrowd]; exact kit_BadCrowd_BadKind, kit_BadCrowd_HallError := by rw [coBadCrowd]; exact kit_BadCrowd_HallError, kit_BadCrowd_ValueError := by rw [coBadCrowd]; exact kit_BadCrowd_ValueError }
  exact ⟨PySem.W.fnOf "law" "law" (defArgs s_law) (defBody s_law) (defScope s_law) .none kV_law dc_law pm_law an_law cd_law ct_law, fun s v => .of_eq rfl, fun base _ _ => fn_law (ok_law T Flaw) goodS⟩
end FCL
open PySem PySem.W PyProof.Rows
set_option maxHeartbeats 0 in
theorem PySem.Challenge.cw_fewchairs_k00_crowd_sums_holds : PySem.Challenge.rw_fewchairs_k00_crowd_sums.Holds := by
  w_on; o_law; k_head; (case hw => w_witness2)
  k_fill
  refine L2.walk_of (l := PySem.Challenge.rw_fewchairs_k00_crowd_sums) (n := 63) (k := 7) (x := "script") (CX := fun w => L2.CX PySem.Challenge.rw_fewchairs_k00_crowd_sums.prog w) (sp := fun w => FC.spLaw 63 _) rfl (by decide) rfl ⟨rfl, by decide, by decide⟩ (fun w h Y => PySem.W.kIn_of Y) ?F (fun _ _ a ns hl _ hS => ⟨a, ns, rfl, hS, hl, fun _ => rfl⟩) (fun _ _ _ _ _ h => by obtain ⟨_, _, _, _, _, _, _, _, _, _, _, _, z⟩ := h; exact z.elim)
  case F =>
    intro w mg fa h KX G hmg
    refine' FCL.all_mk rfl KX G hmg ?a_size ?l_size ?c_size ?k_size ?a_plus ?l_plus ?c_plus ?k_plus ?a_within ?l_within ?c_within ?k_within ?a_minus ?l_minus ?c_minus ?k_minus ?a_lesser ?l_lesser ?c_lesser ?k_lesser ?a_greater ?l_greater ?c_greater ?k_greater ?a_kinds_in ?l_kinds_in ?c_kinds_in ?k_kinds_in ?a__law_pool ?l__law_pool ?c__law_pool ?k__law_pool ?a__law_draw ?l__law_draw ?c__law_draw ?k__law_draw ?a__law_more ?l__law_more ?c__law_more ?k__law_more ?a__law_same ?l__law_same ?c__law_same ?k__law_same ?a__law_count ?l__law_count ?c__law_count ?k__law_count ?a__law_refused ?l__law_refused ?c__law_refused ?k__law_refused ?a__law_pair_holds ?l__law_pair_holds ?c__law_pair_holds ?k__law_pair_holds ?a__law_alone_holds ?l__law_alone_holds ?c__law_alone_holds ?k__law_alone_holds ?a_law ?l_law ?c_law ?k_law ?z_ValueError ?z_abs ?z_all ?z_bool ?z_enumerate ?z_int ?z_isinstance ?z_len ?z_list ?z_max ?z_min ?z_range ?z_str ?z_sum ?z_tuple ?z_zip ?z_super ?a_HallError ?a_BadCrowd ?x_BadCrowd ?bm_ok_BadCrowd ?sa_BadCrowd ?ga_BadCrowd ?gg_BadCrowd ?nn_BadCrowd ?i_BadCrowd ?t_BadCrowd ?kc_BadCrowd ?ec_BadCrowd ?vc_BadCrowd ?ty_BadCrowd ?hd_BadCrowd ?sp_BadCrowd ?l_BadCrowd ?c_BadCrowd ?cd_BadCrowd ?vs2_BadCrowd ?fi_BadCrowd ?ce_BadCrowd ?a_BadKind ?x_BadKind ?bm_ok_BadKind ?sa_BadKind ?ga_BadKind ?gg_BadKind ?nn_BadKind ?i_BadKind ?t_BadKind ?kc_BadKind ?ec_BadKind ?vc_BadKind ?ty_BadKind ?hd_BadKind ?sp_BadKind ?l_BadKind ?c_BadKind ?cd_BadKind ?vs2_BadKind ?fi_BadKind ?ce_BadKind ?opq ?cls_BadCrowd ?mo_BadCrowd ?isc_BadCrowd ?ss_BadCrowd ?spg ?tko ?kit_BadCrowd_BadKind ?kit_BadCrowd_HallError ?kit_BadCrowd_ValueError FCL.law_good
    (case a_size => k_is)
    (case l_size => k_is)
    (case c_size => k_is)
    (case k_size => k_is)
    (case a_plus => k_is)
    (case l_plus => k_is)
    (case c_plus => k_is)
    (case k_plus => k_is)
    (case a_within => k_is)
    (case l_within => k_is)
    (case c_within => k_is)
    (case k_within => k_is)
    (case a_minus => k_is)
    (case l_minus => k_is)
    (case c_minus => k_is)
    (case k_minus => k_is)
    (case a_lesser => k_is)
    (case l_lesser => k_is)
    (case c_lesser => k_is)
    (case k_lesser => k_is)
    (case a_greater => k_is)
    (case l_greater => k_is)
    (case c_greater => k_is)
    (case k_greater => k_is)
    (case a_kinds_in => k_is)
    (case l_kinds_in => k_is)
    (case c_kinds_in => k_is)
    (case k_kinds_in => k_is)
    (case a__law_pool => k_is)
    (case l__law_pool => k_is)
    (case c__law_pool => k_is)
    (case k__law_pool => k_is)
    (case a__law_draw => k_is)
    (case l__law_draw => k_is)
    (case c__law_draw => k_is)
    (case k__law_draw => k_is)
    (case a__law_more => k_is)
    (case l__law_more => k_is)
    (case c__law_more => k_is)
    (case k__law_more => k_is)
    (case a__law_same => k_is)
    (case l__law_same => k_is)
    (case c__law_same => k_is)
    (case k__law_same => k_is)
    (case a__law_count => k_is)
    (case l__law_count => k_is)
    (case c__law_count => k_is)
    (case k__law_count => k_is)
    (case a__law_refused => k_is)
    (case l__law_refused => k_is)
    (case c__law_refused => k_is)
    (case k__law_refused => k_is)
    (case a__law_pair_holds => k_is)
    (case l__law_pair_holds => k_is)
    (case c__law_pair_holds => k_is)
    (case k__law_pair_holds => k_is)
    (case a__law_alone_holds => k_is)
    (case l__law_alone_holds => k_is)
    (case c__law_alone_holds => k_is)
    (case k__law_alone_holds => k_is)
    (case a_law => k_is)
    (case l_law => k_is)
    (case c_law => k_is)
    (case k_law => k_is)
    (case z_ValueError => k_is)
    (case z_abs => k_is)
    (case z_all => k_is)
    (case z_bool => k_is)
    (case z_enumerate => k_is)
    (case z_int => k_is)
    (case z_isinstance => k_is)
    (case z_len => k_is)
    (case z_list => k_is)
    (case z_max => k_is)
    (case z_min => k_is)
    (case z_range => k_is)
    (case z_str => k_is)
    (case z_sum => k_is)
    (case z_tuple => k_is)
    (case z_zip => k_is)
    (case z_super => k_is)
    (case a_HallError => k_is)
    (case a_BadCrowd => k_is)
    (case x_BadCrowd => k_is)
    (case bm_ok_BadCrowd => decide +kernel)
    (case sa_BadCrowd => k_is)
    (case ga_BadCrowd => k_is)
    (case gg_BadCrowd => k_is)
    (case nn_BadCrowd => k_is)
    (case i_BadCrowd => k_is)
    (case t_BadCrowd => k_is)
    (case kc_BadCrowd => k_is)
    (case ec_BadCrowd => k_is)
    (case vc_BadCrowd => k_is)
    (case ty_BadCrowd => k_is)
    (case hd_BadCrowd => k_is)
    (case sp_BadCrowd => first | ks_is | k_is)
    (case l_BadCrowd => k_is)
    (case c_BadCrowd => k_is)
    (case cd_BadCrowd => k_is)
    (case vs2_BadCrowd => rfl)
    (case fi_BadCrowd => decide +kernel)
    (case ce_BadCrowd => k_is)
    (case a_BadKind => k_is)
    (case x_BadKind => k_is)
    (case bm_ok_BadKind => decide +kernel)
    (case sa_BadKind => k_is)
    (case ga_BadKind => k_is)
    (case gg_BadKind => k_is)
    (case nn_BadKind => k_is)
    (case i_BadKind => k_is)
    (case t_BadKind => k_is)
    (case kc_BadKind => k_is)
    (case ec_BadKind => k_is)
    (case vc_BadKind => k_is)
    (case ty_BadKind => k_is)
    (case hd_BadKind => k_is)
    (case sp_BadKind => first | ks_is | k_is)
    (case l_BadKind => k_is)
    (case c_BadKind => k_is)
    (case cd_BadKind => k_is)
    (case vs2_BadKind => rfl)
    (case fi_BadKind => decide +kernel)
    (case ce_BadKind => k_is)
    (case opq => k_is)
    (case cls_BadCrowd => k_is)
    (case mo_BadCrowd => k_is)
    (case isc_BadCrowd => k_is)
    (case ss_BadCrowd => first | rfl | k_is)
    (case spg => k_is)
    (case tko => k_is)
    (case kit_BadCrowd_BadKind => first | kit_is | k_is | rfl)
    (case kit_BadCrowd_HallError => first | kit_is | k_is | rfl)
    (case kit_BadCrowd_ValueError => first | kit_is | k_is | rfl)

