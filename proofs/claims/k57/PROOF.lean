import PyProof.Rows.All
import HandS.ForMost
import HandS.ForExc
import HandS.TupAny
import HandS.Zip
import HandS.IsInst
import HandS.Deep
import KE.KNestM
import HandS.GenList
import HandS.Lambda
import HandS.More
import HandS.RaiseMore
import HandS.SortInts
import HandS.Style
import HandS.TryOnly
import PyProof.ExcBaseAll.ValueError
import HandS.Ends
import HandS.HeadHook1
import PyProof.ReprRoads
import PyProof.TupleOfGen
import HandS.EndTab
import HandS.SortRule
import HandS.TupMul
import HandS.ExcIs
import PyProof.P3Eq
import HandS.Dict
import HandS.Conv
import KE.KSortTupG
import KE.DataMinMax
import KE.KTupSum
import HandS.NoneIn
import HandS.SortKw
import KE.GoesEnum
import HandS.Zip0
import KE.KDictZip
import KE.GoesMore
import HandS.Star
import KE.DataCmp
import PySem.Challenge.RW_foldandbound_k57_whole_lines_of_words
set_option Elab.async false
set_option linter.all false
set_option maxRecDepth 100000
/-! data as values over the hand layer: what an expression gives, as a plain function of the slots' data -/
namespace DL
open PySem PySem.Spec PyProof.Rows L2
/-- the code objects whose tables may grow, with these: told behind the written part -/
def rootOb (P : Addr) : Obj := { cls := .bool true, data := .fields #[.ref P] }
def rootsOf (K : PySem.W.Frag) : List (Addr × Addr) := K.filterMap fun p => match p.2 with
  | ⟨.bool true, _, .fields vs, _⟩ => (match (vs[0]? : Option Value) with
    | some (.ref P) => some (p.1, P)
    | _ => none)
  | _ => none

/-- the keys of a dict: ints and texts, or tuples of them -/
inductive DK where
  | K (ks : List Key) | T (ks : List (List Key))
def DK.len : DK → Nat
  | .K ks => ks.length
  | .T ks => ks.length
/-- the dict as an object -/
def hoD : DK → List V → HO
  | .K ks, vs => .dK (ks.zip vs)
  | .T ks, vs => .dT (ks.zip vs)
/-- a dict at a; l: it is locked, a walk is under way -/
def HD (H : Hp) (a : Addr) : Bool → DK → List V → Prop
  | false, t, xs => H a = some (hoD t xs)
  | true, t, xs => ∃ o, H a = some (.frz o (hoD t xs))
theorem hoD_tbl (t : DK) (vs : List V) : ∀ ps, hoD t vs ≠ .tbl ps := fun ps z => by cases t <;> cases z
theorem HD.imp {H H' : Hp} {a : Addr} {l : Bool} {t : DK} {xs : List V} (h : HD H a l t xs) (k : ∀ o, H a = some o → (∀ ps, o ≠ .tbl ps) → H' a = some o) : HD H' a l t xs := by
  cases l with
  | false => exact k _ h (hoD_tbl t xs)
  | true => obtain ⟨o, h⟩ := h; exact ⟨o, k _ h fun _ z => nomatch z⟩
theorem HD.ex {H : Hp} {a : Addr} {l : Bool} {t : DK} {xs : List V} (h : HD H a l t xs) : ∃ o, H a = some o := by
  cases l with
  | false => exact ⟨_, h⟩
  | true => obtain ⟨o, h⟩ := h; exact ⟨_, h⟩
theorem HD.rd {H : Hp} {a : Addr} {l : Bool} {t : DK} {xs : List V} (h : HD H a l t xs) : Rd H a (hoD t xs) := by
  cases l with
  | false => exact .inl h
  | true => exact .inr h
/-- a value with all that hangs on it; ptr: a list that is written to, by its number in the store -/
inductive D where
  | non | bl (b : Bool) | int (i : Int) | str (x : Str) | ty (n : String)
  | tup (ds : List D) | ctup (ds : List D) | lst (ds : List D) | dct (t : DK) (ds : List D) | flst (ds : List D) | ptr (n : Nat) | obj (a : Nat)
inductive Cell where
  | lst (ds : List D)
  | dct (l : Bool) (t : DK) (ds : List D)
abbrev Env := List (Option D)
abbrev Sto := List Cell
structure Exn where
  name : Str
  fields : List (Str × D)
inductive Out (α : Type) where
  | ok (a : α) (S : Sto)
  | ex (e : Exn) (S : Sto)
  | bad
abbrev M (α : Type) := Sto → Out α
def Out.then {α β : Type} (x : Out α) (g : α → M β) : Out β := match x with
  | .ok a S => g a S
  | .ex e S => .ex e S
  | .bad => .bad
@[simp] def mret {α : Type} (a : α) : M α := fun S => .ok a S
@[simp] def mbad {α : Type} : M α := fun _ => .bad
@[simp] def mbind {α β : Type} (f : M α) (g : α → M β) : M β := fun S => (f S).then g
def mopt {α : Type} (o : Option α) : M α := fun S => match o with
  | some a => .ok a S
  | none => .bad
abbrev DE := Env → M D

/-- a list that nobody may write to: known as an object, or the module's own -/
def SqF (K : PySem.W.Frag) (H : Hp) (a : Addr) (xs : List V) : Prop :=
  (∃ o, H a = some (.frz o (.lst xs))) ∨
    ∃ (o : Obj) (its : Array Value) (n : Nat), K.lookup a = some o ∧ o.cls = .type "list" ∧ o.dict = none ∧ o.data = .seq its n ∧ its.size ≤ sizeLine ∧ Vals xs its.toList
theorem SqF.l {K : PySem.W.Frag} {H : Hp} {a : Addr} {xs : List V} (h : SqF K H a xs) : SqL K H a xs := by
  rcases h with ⟨o, h⟩ | h
  · exact .inl (.inr ⟨o, h⟩)
  · exact .inr h
theorem SqL.f {K : PySem.W.Frag} {H : Hp} {a : Addr} {xs : List V} (h : SqL K H a xs) (n : ∀ o, H a = some (.lst o) → False) : SqF K H a xs := by
  rcases h with (h | ⟨o, h⟩) | h
  · exact (n _ h).elim
  · exact .inl ⟨o, h⟩
  · exact .inr h
mutual
inductive Rep (K : PySem.W.Frag) (b m : List Addr) (H : Hp) : V → D → Prop
  | non : Rep K b m H .non .non
  | bl (x : Bool) : Rep K b m H (.bl x) (.bl x)
  | int (i : Int) : Rep K b m H (.int i) (.int i)
  | str (x : Str) : Rep K b m H (.str x) (.str x)
  | ty (n : String) : Rep K b m H (.ty n) (.ty n)
  | tup {a : Addr} {xs : List V} {ds : List D} : H a = some (.tup xs) → Reps K b m H xs ds → Rep K b m H (.ref a) (.tup ds)
  | ctup {a : Addr} {xs : List V} {ds : List D} : SqT K H a xs → Reps K b m H xs ds → Rep K b m H (.ref a) (.ctup ds)
  | lst {a : Addr} {xs : List V} {ds : List D} : H a = some (.lst xs) → a ∉ m → a ∉ b → Reps K b m H xs ds → Rep K b m H (.ref a) (.lst ds)
  | dct {a : Addr} {l : Bool} {t : DK} {xs : List V} {ds : List D} : HD H a l t xs → t.len = xs.length → a ∉ m → a ∉ b → Reps K b m H xs ds → Rep K b m H (.ref a) (.dct t ds)
  | flst {a : Addr} {xs : List V} {ds : List D} : SqF K H a xs → Reps K b m H xs ds → Rep K b m H (.ref a) (.flst ds)
  | ptr {n : Nat} {a : Addr} : m[n]? = some a → Rep K b m H (.ref a) (.ptr n)
  | obj (a : Addr) : Rep K b m H (.ref a) (.obj a)
inductive Reps (K : PySem.W.Frag) (b m : List Addr) (H : Hp) : List V → List D → Prop
  | nil : Reps K b m H [] []
  | cons {v : V} {vs : List V} {d : D} {ds : List D} : Rep K b m H v d → Reps K b m H vs ds → Reps K b m H (v :: vs) (d :: ds)
end

/-! ### code objects that were made, their tables -/
def isCd : HO → Bool
  | .frz _ (.own _) => true
  | _ => false
/-- nothing that stood has changed, nothing new is a code object -/
structure Same (H H' : Hp) : Prop where
  old : L2.Same H H'
  new : ∀ a o, H a = none → H' a = some o → isCd o = false
theorem Same.refl (H : Hp) : Same H H := ⟨L2.Same.refl H, fun a o h1 h2 => by rw [h1] at h2; cases h2⟩
/-- an object that is a code object with its table at P -/
def CodeOb (oc : Obj) (P : Addr) : Prop :=
  ∃ (vs : Array Value) (file : Str) (tf : Tok) (flags : Int) (tg : Tok) (inF : Bool) (text : Int) (tt : Tok), oc.cls = .type "code" ∧ oc.data = .fields vs ∧ vs[11]? = some (.ref P) ∧ vs.getD 11 .none = .ref P ∧ vs.getD 18 .none = .str file tf ∧
    vs.getD 7 .none = .int flags tg ∧ vs.getD 9 .none = .bool inF ∧ vs.getD 10 .none = .int text tt
theorem CodeOb.hd {h : Heap} {c P : Addr} {oc : Obj} (x : CodeOb oc P) (e : h.get? c = some oc) (n : c ≠ P) : PySem.W.CodeHd h c P :=
  let ⟨vs, file, tf, flags, tg, inF, text, tt, r1, r2, r3, r4, r5, r6, r7, r8⟩ := x; ⟨oc, vs, file, tf, flags, tg, inF, text, tt, e, r1, r2, r3, r4, r5, r6, r7, r8, n⟩
theorem CodeOb.of {h : Heap} {c P : Addr} (x : PySem.W.CodeHd h c P) : ∃ oc, h.get? c = some oc ∧ CodeOb oc P ∧ c ≠ P :=
  let ⟨oc, vs, file, tf, flags, tg, inF, text, tt, e, r1, r2, r3, r4, r5, r6, r7, r8, n⟩ := x; ⟨oc, e, ⟨vs, file, tf, flags, tg, inF, text, tt, r1, r2, r3, r4, r5, r6, r7, r8⟩, n⟩
/-- a code object that was made while this ran -/
def MadeAt (H : Hp) (c P : Addr) : Prop := ∃ oc, H c = some (.frz oc (.own c)) ∧ CodeOb oc P ∧ c ≠ P
/-- the code object c has its table at P: one of the module's, or one that was made -/
def CodeAt (K : PySem.W.Frag) (H : Hp) (c P : Addr) : Prop := ((c, P) ∈ rootsOf K ∧ PySem.W.codeHdIn K c P = true) ∨ MadeAt H c P
/-- a table: what stands in it was made -/
def TabG (H : Hp) (P : Addr) : Prop := ∃ ps : Array Value, H P = some (.tbl ps) ∧ TriplesOk ps.toList ∧ ∀ pos cv, codeAmong pos ps.toList = some cv → ∃ c P', cv = .ref c ∧ MadeAt H c P'
def TabsOk (K : PySem.W.Frag) (H : Hp) : Prop := ∀ c P, CodeAt K H c P → TabG H P
theorem TabsOk.step {K : PySem.W.Frag} {H H' : Hp} (x : TabsOk K H) (k1 : ∀ a ps, H a = some (.tbl ps) → H' a = some (.tbl ps)) (k2 : ∀ a o, H a = some o → isCd o = true → H' a = some o) (k3 : ∀ a o, H' a = some o → isCd o = true → H a = some o) : TabsOk K H' := by
  intro c P h
  have h0 : CodeAt K H c P := by
    rcases h with h | ⟨oc, h1, h2⟩
    · exact .inl h
    · exact .inr ⟨oc, k3 _ _ h1 rfl, h2⟩
  obtain ⟨ps, e1, e2, e3⟩ := x c P h0
  refine ⟨ps, k1 _ _ e1, e2, fun pos cv e => ?_⟩
  obtain ⟨c', P', r1, oc, r2, r3⟩ := e3 pos cv e
  exact ⟨c', P', r1, oc, k2 _ _ r2 rfl, r3⟩
theorem TabsOk.same {K : PySem.W.Frag} {H H' : Hp} (s : Same H H') (x : TabsOk K H) : TabsOk K H' :=
  x.step (fun a ps h => s.old _ _ h) (fun a o h _ => s.old _ _ h) fun a o h hc => by
    cases e : H a with
    | none => rw [s.new a o e h] at hc; cases hc
    | some u =>
      have := s.old _ _ e
      rw [h] at this
      cases this
      rfl
/-- an object that is no code object, no table is written -/
theorem TabsOk.upd {K : PySem.W.Frag} {H : Hp} {p : Addr} {o : HO} (x : TabsOk K H) (h : ∀ u, H p = some u → isCd u = false ∧ ∀ ps, u ≠ .tbl ps) (ho : isCd o = false := by rfl) : TabsOk K (upd H p o) :=
  x.step (fun a ps e => by
    by_cases z : a = p
    · subst z; exact absurd rfl ((h _ e).2 ps)
    · rw [upd_ne z]; exact e) (fun a u e hc => by
    by_cases z : a = p
    · subst z; rw [(h _ e).1] at hc; cases hc
    · rw [upd_ne z]; exact e) fun a u e hc => by
    by_cases z : a = p
    · subst z; rw [upd_same] at e; cases e; rw [ho] at hc; cases hc
    · rw [upd_ne z] at e; exact e

/-- the heap has grown, the store's lists may have changed -/
structure Tr (m : List Addr) (H : Hp) (m' : List Addr) (H' : Hp) : Prop where
  ext : ∃ l, m' = m ++ l
  fresh : ∀ a ∈ m', a ∉ m → H a = none
  kept : ∀ a o, H a = some o → a ∉ m → (∀ ps, o ≠ .tbl ps) → H' a = some o
  there : ∀ a o, H a = some o → a ∉ m → ∃ o', H' a = some o'
  tups : ∀ a xs, Rd H a (.tup xs) → Rd H' a (.tup xs)
  frzs : ∀ a o u, H a = some (.frz o u) → H' a = some (.frz o u)
  tupH : ∀ a xs, H a = some (.tup xs) → H' a = some (.tup xs)
theorem Tr.refl {m : List Addr} {H : Hp} : Tr m H m H := ⟨⟨[], by simp⟩, fun _ h h' => absurd h h', fun _ _ h _ _ => h, fun _ o h _ => ⟨o, h⟩, fun _ _ h => h, fun _ _ _ h => h, fun _ _ h => h⟩
theorem Tr.keptL {m m' : List Addr} {H H' : Hp} (t : Tr m H m' H') {a : Addr} {xs : List V} (h : H a = some (.lst xs)) (n : a ∉ m) : H' a = some (.lst xs) := t.kept _ _ h n fun _ z => nomatch z
theorem Tr.trans {m m1 m2 : List Addr} {H H1 H2 : Hp} (x : Tr m H m1 H1) (y : Tr m1 H1 m2 H2) : Tr m H m2 H2 where
  ext := by
    obtain ⟨l, e⟩ := x.ext
    obtain ⟨l', e'⟩ := y.ext
    exact ⟨l ++ l', by rw [e', e, List.append_assoc]⟩
  fresh := fun a h n => by
    by_cases h1 : a ∈ m1
    · exact x.fresh a h1 n
    · cases e : H a with
      | none => rfl
      | some o =>
        obtain ⟨o', this⟩ := x.there a o e n
        rw [y.fresh a h h1] at this
        cases this
  kept := fun a o h n nt => by
    refine y.kept a o (x.kept a o h n nt) (fun h1 => ?_) nt
    have := x.fresh a h1 n
    rw [h] at this
    cases this
  there := fun a o h n => by
    obtain ⟨o', h'⟩ := x.there a o h n
    refine y.there a o' h' fun h1 => ?_
    have := x.fresh a h1 n
    rw [h] at this
    cases this
  tups := fun a xs h => y.tups a xs (x.tups a xs h)
  frzs := fun a o u h => y.frzs a o u (x.frzs a o u h)
  tupH := fun a xs h => y.tupH a xs (x.tupH a xs h)
theorem Tr.sub {m m' : List Addr} {H H' : Hp} (x : Tr m H m' H') : ∀ {a : Addr} {n : Nat}, m[n]? = some a → m'[n]? = some a := fun {a n} h => by
  obtain ⟨l, e⟩ := x.ext
  rw [e]
  obtain ⟨hn, _⟩ := List.getElem?_eq_some_iff.mp h
  rw [List.getElem?_append_left hn]
  exact h
theorem Tr.mem {m m' : List Addr} {H H' : Hp} (x : Tr m H m' H') {a : Addr} (h : a ∈ m) : a ∈ m' := by
  obtain ⟨l, e⟩ := x.ext
  rw [e]
  exact List.mem_append_left _ h
theorem Tr.nmem {m m' : List Addr} {H H' : Hp} (x : Tr m H m' H') {a : Addr} {o : HO} (e : H a = some o) (h : a ∉ m) : a ∉ m' := fun h' => by
  have := x.fresh a h' h
  rw [e] at this
  cases this
section
variable {K : PySem.W.Frag} {b m m' : List Addr} {H H' : Hp}
theorem SqT.tr (t : Tr m H m' H') {a : Addr} {xs : List V} (h : SqT K H a xs) : SqT K H' a xs := by
  rcases h with h | h
  · exact .inl (t.tups a xs h)
  · exact .inr h
theorem SqF.tr (t : Tr m H m' H') {a : Addr} {xs : List V} (h : SqF K H a xs) : SqF K H' a xs := by
  rcases h with ⟨o, h⟩ | h
  · exact .inl ⟨o, t.frzs a o _ h⟩
  · exact .inr h
/-- more may be set apart: what was there before, or what is new -/
def Bn (b : List Addr) (H : Hp) (b' : List Addr) : Prop := ∀ a ∈ b', a ∈ b ∨ H a = none
theorem Bn.refl {b : List Addr} {H : Hp} : Bn b H b := fun _ h => .inl h
theorem Bn.cons {b : List Addr} {H : Hp} {p : Addr} (h : H p = none) : Bn b H (p :: b) := fun a ha => by
  rcases List.mem_cons.mp ha with e | ha
  · rw [e]; exact .inr h
  · exact .inl ha
theorem Bn.trans {b b1 b2 : List Addr} {m m1 : List Addr} {H H1 : Hp} (t : Tr m H m1 H1) (hb : ∀ a ∈ b1, a ∉ m1) (x : Bn b H b1) (y : Bn b1 H1 b2) : ∀ a ∈ b2, a ∈ b ∨ H a = none ∨ a ∈ m := fun a ha => by
  rcases y a ha with h | h
  · rcases x a h with h | h
    · exact .inl h
    · exact .inr (.inl h)
  · by_cases hm : a ∈ m
    · exact .inr (.inr hm)
    · cases e : H a with
      | none => exact .inr (.inl rfl)
      | some o => obtain ⟨o', h'⟩ := t.there a o e hm; rw [h'] at h; cases h
mutual
theorem Rep.trb {b' : List Addr} (t : Tr m H m' H') (hb : Bn b H b') : ∀ {d : D} {v : V}, Rep K b m H v d → Rep K b' m' H' v d
  | _, _, .non => .non
  | _, _, .bl x => .bl x
  | _, _, .int i => .int i
  | _, _, .str x => .str x
  | _, _, .ty n => .ty n
  | _, _, .tup h r => .tup (t.tupH _ _ h) (Reps.trb t hb r)
  | _, _, .ctup h r => .ctup (SqT.tr t h) (Reps.trb t hb r)
  | _, _, .lst h n nb r => .lst (t.keptL h n) (t.nmem h n) (fun z => by
      rcases hb _ z with z | z
      · exact nb z
      · rw [z] at h; cases h) (Reps.trb t hb r)
  | _, _, .dct h hl n nb r => .dct (h.imp fun o z nt => t.kept _ _ z n nt) hl (let ⟨_, z⟩ := h.ex; t.nmem z n) (fun z => by
      rcases hb _ z with z | z
      · exact nb z
      · obtain ⟨_, y⟩ := h.ex; rw [z] at y; cases y) (Reps.trb t hb r)
  | _, _, .flst h r => .flst (SqF.tr t h) (Reps.trb t hb r)
  | _, _, .ptr h => .ptr (t.sub h)
  | _, _, .obj a => .obj a
theorem Reps.trb {b' : List Addr} (t : Tr m H m' H') (hb : Bn b H b') : ∀ {ds : List D} {vs : List V}, Reps K b m H vs ds → Reps K b' m' H' vs ds
  | _, _, .nil => .nil
  | _, _, .cons r rs => .cons (Rep.trb t hb r) (Reps.trb t hb rs)
end
theorem Rep.tr (t : Tr m H m' H') {d : D} {v : V} (r : Rep K b m H v d) : Rep K b m' H' v d := Rep.trb t Bn.refl r
theorem Reps.tr (t : Tr m H m' H') {ds : List D} {vs : List V} (r : Reps K b m H vs ds) : Reps K b m' H' vs ds := Reps.trb t Bn.refl r
end
section
variable {K : PySem.W.Frag} {b m m' : List Addr} {H H' : Hp}
theorem Reps.length : ∀ {ds : List D} {vs : List V}, Reps K b m H vs ds → vs.length = ds.length
  | _, _, .nil => rfl
  | _, _, .cons _ r => by simp [Reps.length r]
theorem Reps.get : ∀ {ds : List D} {vs : List V} {i : Nat} {d : D}, Reps K b m H vs ds → ds[i]? = some d → ∃ v, vs[i]? = some v ∧ Rep K b m H v d
  | _, _, _, _, .nil, h => by simp at h
  | _, _, 0, _, .cons r _, h => by simp at h; subst h; exact ⟨_, rfl, r⟩
  | _, _, i + 1, _, .cons _ r, h => by
    obtain ⟨v, h1, h2⟩ := Reps.get (i := i) r (by simpa using h)
    exact ⟨v, by simpa using h1, h2⟩
theorem Reps.append : ∀ {ds es : List D} {vs ws : List V}, Reps K b m H vs ds → Reps K b m H ws es → Reps K b m H (vs ++ ws) (ds ++ es)
  | _, _, _, _, .nil, s => s
  | _, _, _, _, .cons r t, s => .cons r (Reps.append t s)
theorem Reps.set : ∀ {ds : List D} {vs : List V} {v : V} {d : D} (i : Nat), Reps K b m H vs ds → Rep K b m H v d → Reps K b m H (vs.set i v) (ds.set i d)
  | _, _, _, _, _, .nil, _ => .nil
  | _, _, _, _, 0, .cons _ t, r => .cons r t
  | _, _, _, _, i + 1, .cons q t, r => .cons q (Reps.set i t r)
theorem Reps.take : ∀ {ds : List D} {vs : List V} (n : Nat), Reps K b m H vs ds → Reps K b m H (vs.take n) (ds.take n)
  | _, _, 0, _ => .nil
  | _, _, _ + 1, .nil => .nil
  | _, _, n + 1, .cons r t => .cons r (Reps.take n t)
theorem Reps.drop : ∀ {ds : List D} {vs : List V} (n : Nat), Reps K b m H vs ds → Reps K b m H (vs.drop n) (ds.drop n)
  | _, _, 0, r => r
  | _, _, _ + 1, .nil => .nil
  | _, _, n + 1, .cons _ t => Reps.drop n t
theorem Reps.reverse {ds : List D} {vs : List V} (h : Reps K b m H vs ds) : Reps K b m H vs.reverse ds.reverse := by
  induction ds generalizing vs with
  | nil => cases h; exact .nil
  | cons d ds ih =>
    cases h with
    | cons r rs =>
      rw [List.reverse_cons, List.reverse_cons]
      exact (ih rs).append (.cons r .nil)

/-- the store's lists -/
def CellR (K : PySem.W.Frag) (b m : List Addr) (H : Hp) (a : Addr) : Cell → Prop
  | .lst ds => ∃ xs, H a = some (.lst xs) ∧ Reps K b m H xs ds
  | .dct l t ds => ∃ xs, HD H a l t xs ∧ t.len = xs.length ∧ Reps K b m H xs ds
structure StoR (K : PySem.W.Frag) (b m : List Addr) (H : Hp) (S : Sto) : Prop where
  len : m.length = S.length
  nd : m.Nodup
  cell : ∀ (n : Nat) (a : Addr) (c : Cell), m[n]? = some a → S[n]? = some c → CellR K b m H a c
  ban : ∀ a ∈ b, a ∉ m ∧ ∃ o, H a = some o
  tabs : TabsOk K H
def EnvR (K : PySem.W.Frag) (b m : List Addr) (H : Hp) (σ : L2.St) (ρ : Env) : Prop :=
  σ.length = ρ.length ∧ ∀ (i : Nat) (d : D), ρ[i]? = some (some d) → ∃ v, σ[i]? = some (some v) ∧ Rep K b m H v d
theorem EnvR.tr {σ : L2.St} {ρ : Env} (e : EnvR K b m H σ ρ) (t : Tr m H m' H') : EnvR K b m' H' σ ρ :=
  ⟨e.1, fun i d h => let ⟨v, h1, h2⟩ := e.2 i d h; ⟨v, h1, h2.tr t⟩⟩
theorem EnvR.set {σ : L2.St} {ρ : Env} {v : V} {d : D} (i : Nat) (e : EnvR K b m H σ ρ) (r : Rep K b m H v d) : EnvR K b m H (σ.set i (some v)) (ρ.set i (some d)) := by
  refine ⟨by simp [e.1], fun j d' h => ?_⟩
  by_cases hj : j = i
  · subst hj
    by_cases hl : j < ρ.length
    · rw [List.getElem?_set_self hl] at h
      cases h
      exact ⟨v, List.getElem?_set_self (by rw [e.1]; exact hl), r⟩
    · rw [List.getElem?_eq_none (by simp; omega)] at h
      cases h
  · rw [List.getElem?_set_ne (Ne.symm hj)] at h
    obtain ⟨w, h1, h2⟩ := e.2 j d' h
    exact ⟨w, by rw [List.getElem?_set_ne (Ne.symm hj)]; exact h1, h2⟩

/-- new objects only -/
theorem Same.tr {H H' : Hp} (s : Same H H') : Tr m H m H' where
  ext := ⟨[], by simp⟩
  fresh := fun _ h h' => absurd h h'
  kept := fun a o h _ _ => s.old a o h
  there := fun a o h _ => ⟨o, s.old a o h⟩
  tups := fun a xs h => by
    rcases h with h | ⟨o, h⟩
    · exact .inl (s.old _ _ h)
    · exact .inr ⟨o, s.old _ _ h⟩
  frzs := fun a o u h => s.old _ _ h
  tupH := fun a xs h => s.old _ _ h
theorem Same.upd {H : Hp} {p : Addr} {o : HO} (h : H p = none) (ho : isCd o = false := by rfl) : Same H (L2.upd H p o) := ⟨fun c x e => by
  rw [upd_ne (ne_of_none e h)]
  exact e, fun a u h1 h2 => by
  by_cases z : a = p
  · subst z; rw [upd_same] at h2; cases h2; exact ho
  · rw [upd_ne z, h1] at h2; cases h2⟩
theorem StoR.same {S : Sto} (s : Same H H') (h : StoR K b m H S) : StoR K b m H' S := by
  refine ⟨h.len, h.nd, fun n a c e1 e2 => ?_, fun a ha => ?_, h.tabs.same s⟩
  · have := h.cell n a c e1 e2
    cases c with
    | lst ds =>
      obtain ⟨xs, h1, h2⟩ := this
      exact ⟨xs, s.old _ _ h1, h2.tr (Same.tr s)⟩
    | dct l u ds =>
      obtain ⟨xs, h1, hl, h2⟩ := this
      exact ⟨xs, h1.imp fun o z _ => s.old _ _ z, hl, h2.tr (Same.tr s)⟩
  · obtain ⟨h1, o, h2⟩ := h.ban a ha
    exact ⟨h1, o, s.old _ _ h2⟩
/-- a new list of the store's -/
theorem Tr.new {p : Addr} {xs : List V} (hp : H p = none) : Tr m H (m ++ [p]) (upd H p (.lst xs)) where
  ext := ⟨[p], rfl⟩
  fresh := fun a h h' => by
    rcases List.mem_append.mp h with h | h
    · exact absurd h h'
    · rw [List.mem_singleton.mp h]; exact hp
  kept := fun a o h _ _ => (Same.upd hp).old a o h
  there := fun a o h _ => ⟨o, (Same.upd hp).old a o h⟩
  tups := fun a xs h => (Same.tr (m := m) (Same.upd hp)).tups a xs h
  frzs := fun a o u h => (Same.upd hp).old a _ h
  tupH := fun a xs h => (Same.upd hp).old a _ h
theorem StoR.nmem {S : Sto} (h : StoR K b m H S) {p : Addr} (hp : H p = none) : p ∉ m := fun hm => by
  obtain ⟨n, hn, e⟩ := List.getElem_of_mem hm
  have hn' : n < S.length := by rw [← h.len]; exact hn
  have := h.cell n p S[n] (by rw [List.getElem?_eq_getElem hn, e]) (List.getElem?_eq_getElem hn')
  cases hc : S[n] with
  | lst ds =>
    rw [hc] at this
    obtain ⟨xs, h1, _⟩ := this
    rw [hp] at h1
    cases h1
  | dct l u ds =>
    rw [hc] at this
    obtain ⟨xs, h1, _⟩ := this
    obtain ⟨_, y⟩ := h1.ex
    rw [hp] at y
    cases y
theorem StoR.new {S : Sto} {p : Addr} {xs : List V} {ds : List D} (h : StoR K b m H S) (hp : H p = none) (r : Reps K b m H xs ds) : StoR K b (m ++ [p]) (upd H p (.lst xs)) (S ++ [.lst ds]) := by
  have t : Tr m H (m ++ [p]) (upd H p (.lst xs)) := Tr.new hp
  refine ⟨by simp [h.len], ?_, fun n a c e1 e2 => ?_, fun a ha => ?_, h.tabs.same (Same.upd hp)⟩
  rotate_left 2
  · obtain ⟨h1, o, h2⟩ := h.ban a ha
    refine ⟨fun z => ?_, o, (Same.upd hp).old _ _ h2⟩
    rcases List.mem_append.mp z with z | z
    · exact h1 z
    · rw [List.mem_singleton.mp z, hp] at h2; cases h2
  · refine List.nodup_append.mpr ⟨h.nd, by simp, fun a ha c hc e => ?_⟩
    rw [List.mem_singleton.mp hc] at e
    exact h.nmem hp (e ▸ ha)
  · by_cases hn : n < m.length
    · rw [List.getElem?_append_left hn] at e1
      rw [List.getElem?_append_left (by rw [← h.len]; exact hn)] at e2
      have := h.cell n a c e1 e2
      cases c with
      | lst es =>
        obtain ⟨ys, h1, h2⟩ := this
        exact ⟨ys, (Same.upd hp).old _ _ h1, h2.tr t⟩
      | dct l u es =>
        obtain ⟨ys, h1, hl, h2⟩ := this
        exact ⟨ys, h1.imp fun o z _ => (Same.upd hp).old _ _ z, hl, h2.tr t⟩
    · have hn' : n = m.length := by
        have := (List.getElem?_eq_some_iff.mp e1).1
        simp at this
        omega
      subst hn'
      rw [List.getElem?_append_right (by omega)] at e1
      rw [h.len, List.getElem?_append_right (by omega)] at e2
      simp at e1 e2
      subst e1 e2
      exact ⟨xs, upd_same, r.tr t⟩
/-- a list of the store's is written -/
theorem StoR.at {S : Sto} (h : StoR K b m H S) {n : Nat} {ds : List D} (e : S[n]? = some (.lst ds)) : ∃ a xs, m[n]? = some a ∧ H a = some (.lst xs) ∧ Reps K b m H xs ds := by
  have hn : n < S.length := (List.getElem?_eq_some_iff.mp e).1
  have hm : n < m.length := by rw [h.len]; exact hn
  obtain ⟨xs, h1, h2⟩ := h.cell n _ _ (List.getElem?_eq_getElem hm) e
  exact ⟨_, xs, List.getElem?_eq_getElem hm, h1, h2⟩
theorem Tr.write {a : Addr} {xs ys : List V} (ha : a ∈ m) (e : H a = some (.lst xs)) : Tr m H m (upd H a (.lst ys)) where
  ext := ⟨[], by simp⟩
  fresh := fun _ h h' => absurd h h'
  kept := fun c o h n _ => by rw [upd_ne (fun z : c = a => n (by rw [z]; exact ha))]; exact h
  there := fun c o h n => ⟨o, by rw [upd_ne (fun z : c = a => n (by rw [z]; exact ha))]; exact h⟩
  tups := fun c zs h => by
    have hc : c ≠ a := fun z => by
      subst z
      rcases h with h | ⟨o, h⟩ <;> rw [e] at h <;> cases h
    rcases h with h | ⟨o, h⟩
    · exact .inl (by rw [upd_ne hc]; exact h)
    · exact .inr ⟨o, by rw [upd_ne hc]; exact h⟩
  frzs := fun c o u h => by
    have hc : c ≠ a := fun z => by subst z; rw [e] at h; cases h
    rw [upd_ne hc]; exact h
  tupH := fun c zs h => by
    have hc : c ≠ a := fun z => by subst z; rw [e] at h; cases h
    rw [upd_ne hc]; exact h
theorem StoR.write {S : Sto} {n : Nat} {a : Addr} {xs ys : List V} {es : List D} (h : StoR K b m H S) (hm : m[n]? = some a) (e : H a = some (.lst xs)) (r : Reps K b m H ys es) :
    StoR K b m (upd H a (.lst ys)) (S.set n (.lst es)) := by
  have t : Tr m H m (upd H a (.lst ys)) := Tr.write (List.mem_of_getElem? hm) e
  refine ⟨by simp [h.len], h.nd, fun k c cl e1 e2 => ?_, fun c hc => ?_, h.tabs.upd fun u z => by rw [e] at z; cases z; exact ⟨rfl, fun _ z => nomatch z⟩⟩
  rotate_left
  · obtain ⟨h1, o, h2⟩ := h.ban c hc
    exact ⟨h1, o, by rw [upd_ne (fun z => h1 (by rw [z]; exact List.mem_of_getElem? hm))]; exact h2⟩
  by_cases hk : k = n
  · subst hk
    rw [hm] at e1
    cases e1
    have hl : k < S.length := by
      have := (List.getElem?_eq_some_iff.mp hm).1
      rw [← h.len]; exact this
    rw [List.getElem?_set_self hl] at e2
    cases e2
    exact ⟨ys, upd_same, r.tr t⟩
  · rw [List.getElem?_set_ne (Ne.symm hk)] at e2
    have hc : c ≠ a := fun z => by
      subst z
      obtain ⟨h1, e1'⟩ := List.getElem?_eq_some_iff.mp e1
      obtain ⟨h2, e2'⟩ := List.getElem?_eq_some_iff.mp hm
      exact hk ((List.getElem_inj h.nd).mp (e1'.trans e2'.symm))
    have := h.cell k c cl e1 e2
    cases cl with
    | lst ds =>
      obtain ⟨zs, h1, h2⟩ := this
      exact ⟨zs, by rw [upd_ne hc]; exact h1, h2.tr t⟩
    | dct l u ds =>
      obtain ⟨zs, h1, hl, h2⟩ := this
      exact ⟨zs, h1.imp fun o z _ => by rw [upd_ne hc]; exact z, hl, h2.tr t⟩

/-- an exception as it lies -/
def ExnR (K : PySem.W.Frag) (mg : Str → Option Value) (b m : List Addr) (H : Hp) (e : Exn) (cls : Value) (dx : Option Addr) : Prop :=
  ∃ C : Addr, mg e.name = some (.ref C) ∧ cls = .ref C ∧ ((e.fields = [] ∧ dx = none) ∨ ∃ (d : Addr) (fs : List (Str × V)), dx = some d ∧ e.fields ≠ [] ∧ H d = some (.xd fs) ∧
    fs.map (·.1) = e.fields.map (·.1) ∧ Reps K b m H (fs.map (·.2)) (e.fields.map (·.2)))
/-- what is asked of an outcome -/
def Post (K : PySem.W.Frag) (mg : Str → Option Value) (W : WX) (b m : List Addr) (H : Hp) (σ : L2.St) {α β : Type} (R : List Addr → List Addr → Hp → β → α → Prop) (x : Out α) (Q : β → Hp → Prop) : Prop :=
  match x with
  | .ok a S' => ∀ m' H' y, Tr m H m' H' → StoR K b m' H' S' → R b m' H' y a → Q y H'
  | .ex e S' => ∀ m' H' cls dx, Tr m H m' H' → StoR K b m' H' S' → ExnR K mg b m' H' e cls dx → W cls dx σ H'
  | .bad => False
variable {mg : Str → Option Value} {W : WX} {σ : L2.St}
theorem Post.tr {α β : Type} {R : List Addr → List Addr → Hp → β → α → Prop} {x : Out α} {Q : β → Hp → Prop} (t : Tr m H m' H') (h : Post K mg W b m H σ R x Q) : Post K mg W b m' H' σ R x Q := by
  cases x with
  | ok a S => exact fun m2 H2 y t2 s2 r2 => h m2 H2 y (t.trans t2) s2 r2
  | ex e S => exact fun m2 H2 c d t2 s2 r2 => h m2 H2 c d (t.trans t2) s2 r2
  | bad => exact h
theorem Post.then {α β γ δ : Type} {R1 : List Addr → List Addr → Hp → β → α → Prop} {R2 : List Addr → List Addr → Hp → δ → γ → Prop} {x : Out α} {g : α → M γ} {Q1 : β → Hp → Prop} {Q2 : δ → Hp → Prop}
    (h : Post K mg W b m H σ R2 (x.then g) Q2) (k : ∀ a S1 m1 H1 y, x = .ok a S1 → Tr m H m1 H1 → StoR K b m1 H1 S1 → R1 b m1 H1 y a → Post K mg W b m1 H1 σ R2 (g a S1) Q2 → Q1 y H1) : Post K mg W b m H σ R1 x Q1 := by
  cases x with
  | ok a S1 => exact fun m1 H1 y t1 s1 r1 => k a S1 m1 H1 y rfl t1 s1 r1 (Post.tr t1 h)
  | ex e S => exact h
  | bad => exact h
theorem Post.imp {α β : Type} {R : List Addr → List Addr → Hp → β → α → Prop} {x : Out α} {Q Q' : β → Hp → Prop} (h : Post K mg W b m H σ R x Q) (k : ∀ y H', Q y H' → Q' y H') : Post K mg W b m H σ R x Q' := by
  cases x with
  | ok a S => exact fun m2 H2 y t2 s2 r2 => k _ _ (h m2 H2 y t2 s2 r2)
  | ex e S => exact h
  | bad => exact h
/-- the reading of a function of the slots' data -/
def tG (K : PySem.W.Frag) (mg : Str → Option Value) (W : WX) {α β : Type} (R : List Addr → List Addr → Hp → β → α → Prop) (f : Env → M α) : L2.St → Hp → (β → Hp → Prop) → Prop := fun σ H Q =>
  ∃ b m ρ S, EnvR K b m H σ ρ ∧ StoR K b m H S ∧ Post K mg W b m H σ R (f ρ S) Q
end
abbrev ReqB : List Addr → List Addr → Hp → Bool → Bool → Prop := fun _ _ _ x y => x = y
abbrev RO : List Addr → List Addr → Hp → Option Int → Option Int → Prop := fun _ _ _ x y => x = y
abbrev RV (K : PySem.W.Frag) : List Addr → List Addr → Hp → V → D → Prop := fun b m H => Rep K b m H
abbrev RVs (K : PySem.W.Frag) : List Addr → List Addr → Hp → List V → List D → Prop := fun b m H => Reps K b m H
/-! ### the judgements -/
def PD (X : Cx) (W : WX) (e : Expr) (f : Env → M D) : Prop := PE X e (tG X.K X.mg W (RV X.K) f)
def TD (X : Cx) (W : WX) (e : Expr) (f : Env → M Bool) : Prop := PT X e (tG X.K X.mg W ReqB f)
def WD (X : Cx) (W : WX) (e : Expr) (f : Env → M Bool) : Prop := PW X e (tG X.K X.mg W ReqB f)
def AD (X : Cx) (W : WX) (es : List Expr) (f : Env → M (List D)) : Prop := PA X es (tG X.K X.mg W (RVs X.K) f)
def OD (X : Cx) (W : WX) (e : Option Expr) (f : Env → M (Option Int)) : Prop := PO X e (tG X.K X.mg W RO f)
theorem PE.imp {X : Cx} {e : Expr} {t t' : TE} (h : PE X e t) (k : ∀ σ H Q, t' σ H Q → t σ H Q) : PE X e t' := ⟨fun p s σ H Q I q => h.run p s σ H Q I (k _ _ _ q)⟩
theorem PT.imp {X : Cx} {e : Expr} {t t' : TT} (h : PT X e t) (k : ∀ σ H Q, t' σ H Q → t σ H Q) : PT X e t' := ⟨fun p s σ H Q I q => h.run p s σ H Q I (k _ _ _ q)⟩
theorem PW.imp {X : Cx} {e : Expr} {t t' : TT} (h : PW X e t) (k : ∀ σ H Q, t' σ H Q → t σ H Q) : PW X e t' := ⟨fun w p s σ H Q I q => h.run w p s σ H Q I (k _ _ _ q)⟩
theorem PA.imp {X : Cx} {e : List Expr} {t t' : TA} (h : PA X e t) (k : ∀ σ H Q, t' σ H Q → t σ H Q) : PA X e t' := ⟨fun pos p s σ H Q I q => h.run pos p s σ H Q I (k _ _ _ q)⟩
theorem PO.imp {X : Cx} {e : Option Expr} {t t' : TO} (h : PO X e t) (k : ∀ σ H Q, t' σ H Q → t σ H Q) : PO X e t' := ⟨fun p s σ H Q I q => h.run p s σ H Q I (k _ _ _ q)⟩
end DL
set_option Elab.async false
set_option linter.all false
set_option maxRecDepth 100000
namespace DL
open PySem PySem.Spec PyProof.Rows L2

/-! ### reading the store -/
def ofPtr (S : Sto) (n : Nat) : Option (List D) := match S[n]? with
  | some (.lst ds) => some ds
  | _ => none
def seqM (S : Sto) : D → Option (List D)
  | .lst ds => some ds
  | .ptr n => ofPtr S n
  | _ => none
def seqL (S : Sto) : D → Option (List D)
  | .flst ds => some ds
  | .lst ds => some ds
  | .ptr n => ofPtr S n
  | _ => none
def seqT : D → Option (List D)
  | .tup ds => some ds
  | .ctup ds => some ds
  | _ => none
def seqA (S : Sto) : D → Option (List D)
  | .tup ds => some ds
  | .ctup ds => some ds
  | .flst ds => some ds
  | .lst ds => some ds
  | .ptr n => ofPtr S n
  | _ => none
section
variable {K : PySem.W.Frag} {b m : List Addr} {H : Hp} {S : Sto} {v : V} {d : D} {ds : List D}
theorem ofPtr_rep {n : Nat} {a : Addr} (hs : StoR K b m H S) (r : m[n]? = some a) (e : ofPtr S n = some ds) : ∃ xs, H a = some (.lst xs) ∧ Reps K b m H xs ds := by
  unfold ofPtr at e
  split at e
  · rename_i es h2
    cases e
    obtain ⟨a', xs, h3, h4, h5⟩ := hs.at h2
    rw [r] at h3
    cases h3
    exact ⟨xs, h4, h5⟩
  · cases e
theorem seqM_rep (hs : StoR K b m H S) (r : Rep K b m H v d) (e : seqM S d = some ds) : ∃ a xs, v = .ref a ∧ H a = some (.lst xs) ∧ Reps K b m H xs ds := by
  cases r with
  | lst h1 h2 h3 h4 => cases e; exact ⟨_, _, rfl, h1, h4⟩
  | ptr h =>
    obtain ⟨xs, h1, h2⟩ := ofPtr_rep hs h e
    exact ⟨_, xs, rfl, h1, h2⟩
  | _ => cases e
theorem seqL_rep (hs : StoR K b m H S) (r : Rep K b m H v d) (e : seqL S d = some ds) : ∃ a xs, v = .ref a ∧ SqL K H a xs ∧ Reps K b m H xs ds := by
  cases r with
  | flst h1 h2 => cases e; exact ⟨_, _, rfl, h1.l, h2⟩
  | lst h1 h2 h3 h4 => cases e; exact ⟨_, _, rfl, SqL.of h1, h4⟩
  | ptr h =>
    obtain ⟨xs, h1, h2⟩ := ofPtr_rep hs h e
    exact ⟨_, xs, rfl, SqL.of h1, h2⟩
  | _ => cases e
theorem seqT_rep (r : Rep K b m H v d) (e : seqT d = some ds) : ∃ a xs, v = .ref a ∧ SqT K H a xs ∧ Reps K b m H xs ds := by
  cases r with
  | tup h1 h2 => cases e; exact ⟨_, _, rfl, .inl (.inl h1), h2⟩
  | ctup h1 h2 => cases e; exact ⟨_, _, rfl, h1, h2⟩
  | _ => cases e
theorem seqA_rep (hs : StoR K b m H S) (r : Rep K b m H v d) (e : seqA S d = some ds) : ∃ a xs, v = .ref a ∧ (SqL K H a xs ∨ SqT K H a xs) ∧ Reps K b m H xs ds := by
  cases r with
  | tup h1 h2 => cases e; exact ⟨_, _, rfl, .inr (.inl (.inl h1)), h2⟩
  | ctup h1 h2 => cases e; exact ⟨_, _, rfl, .inr h1, h2⟩
  | flst h1 h2 => cases e; exact ⟨_, _, rfl, .inl h1.l, h2⟩
  | lst h1 h2 h3 h4 => cases e; exact ⟨_, _, rfl, .inl (SqL.of h1), h4⟩
  | ptr h =>
    obtain ⟨xs, h1, h2⟩ := ofPtr_rep hs h e
    exact ⟨_, xs, rfl, .inl (SqL.of h1), h2⟩
  | _ => cases e
/-- a new tuple, a new list -/
theorem Rep.newTup {p : Addr} {xs : List V} (hp : H p = none) (r : Reps K b m H xs ds) : Rep K b m (upd H p (.tup xs)) (.ref p) (.tup ds) :=
  .tup upd_same (r.tr (Same.tr (Same.upd hp)))
theorem Rep.newLst {p : Addr} {xs : List V} (hs : StoR K b m H S) (hp : H p = none) (r : Reps K b m H xs ds) : Rep K b m (upd H p (.lst xs)) (.ref p) (.lst ds) :=
  .lst upd_same (hs.nmem hp) (fun h => by obtain ⟨_, o, e⟩ := hs.ban p h; rw [hp] at e; cases e) (r.tr (Same.tr (Same.upd hp)))
end

/-! ### names, constants -/
def dVar (i : Nat) : Env → M D := fun ρ => match ρ[i]? with
  | some (some d) => mret d
  | _ => mbad
@[simp] def dC (d : D) : Env → M D := fun _ => mret d
section
variable {X : Cx} {W : WX}
theorem pd_var (i : Nat) {x : Str} {pos : Pos} (hN : X.N[i]? = some x := by rfl) (hv : Vis X.env.scope x := by first | exact Or.inl rfl | exact Or.inr (Or.inl rfl) | exact Or.inr (Or.inr rfl)) (hd : (x == ("__debug__" : Str)) = false := by decide)
    (hcd : (x == ("__classdict__" : Str)) = false := by decide) : PD X W (.Name x pos) (dVar i) := PE.imp (pe_var hN hv hd hcd) fun σ H Q ⟨b, m, ρ, S, he, hs, h⟩ => by
  have h' : Post X.K X.mg W b m H σ (RV X.K) ((match ρ[i]? with | some (some d) => mret d | _ => mbad : M D) S) Q := h
  cases e : ρ[i]? with
  | none => rw [e] at h'; exact h'.elim
  | some o =>
    cases o with
    | none => rw [e] at h'; exact h'.elim
    | some d =>
      rw [e] at h'
      obtain ⟨v, h1, h2⟩ := he.2 i d e
      exact ⟨v, h1, h' _ _ _ Tr.refl hs h2⟩
theorem pd_int {i j pos} : PD X W (.Constant (.int i) j pos) (dC (.int i)) := PE.imp pe_int fun σ H Q ⟨b, m, ρ, S, he, hs, h⟩ => h _ _ _ Tr.refl hs (.int i)
theorem pd_bl {i j pos} : PD X W (.Constant (.bool i) j pos) (dC (.bl i)) := PE.imp pe_bl fun σ H Q ⟨b, m, ρ, S, he, hs, h⟩ => h _ _ _ Tr.refl hs (.bl i)
theorem pd_non {j pos} : PD X W (.Constant .none j pos) (dC .non) := PE.imp pe_non fun σ H Q ⟨b, m, ρ, S, he, hs, h⟩ => h _ _ _ Tr.refl hs .non
theorem pd_str {x j pos} : PD X W (.Constant (.str x) j pos) (dC (.str x)) := PE.imp pe_str fun σ H Q ⟨b, m, ρ, S, he, hs, h⟩ => h _ _ _ Tr.refl hs (.str x)
/-- a built-in type's name -/
theorem pd_ty {x : Str} {n : String} {pos : Pos} (hg : Gl X x) (hm : X.mg x = none) (hv : bootBuiltins x = some (.type n)) (hn : x ≠ "__name__" := by decide) (hd : (x == ("__debug__" : Str)) = false := by decide) : PD X W (.Name x pos) (dC (.ty n)) :=
  PE.imp (pe_bltn (v := .ty n) hg hm hv rfl hn hd) fun σ H Q ⟨b, m, ρ, S, he, hs, h⟩ => h _ _ _ Tr.refl hs (.ty n)
/-- a module's plain constant -/
theorem pd_glob {x : Str} {v : V} {d : D} {u : Value} {pos : Pos} (hg : Gl X x) (hm : X.mg x = some u) (r : RelV v u) (hr : ∀ b m H, Rep X.K b m H v d) (hd : (x == ("__debug__" : Str)) = false := by decide) : PD X W (.Name x pos) (dC d) :=
  PE.imp (pe_glob hg hm r hd) fun σ H Q ⟨b, m, ρ, S, he, hs, h⟩ => h _ _ _ Tr.refl hs (hr _ _ _)

/-! ### operations of two values -/
abbrev G2 := Sto → D → D → Option D
@[simp] def dOp2 (g : G2) (f1 f2 : Env → M D) : Env → M D := fun ρ => mbind (f1 ρ) fun x => mbind (f2 ρ) fun y S => (mopt (g S x y) : M D) S
def OpDen (K : PySem.W.Frag) (r : R2) (g : G2) : Prop := ∀ (b m : List Addr) (H : Hp) (S : Sto) (x y : V) (dx dy d : D) (Q : VK), StoR K b m H S → Rep K b m H x dx → Rep K b m H y dy → g S dx dy = some d →
  (∀ H' v, Same H H' → Rep K b m H' v d → Q v H') → r x y H Q
theorem tOp_den {K : PySem.W.Frag} {mg : Str → Option Value} {r : R2} {g : G2} {f1 f2 : Env → M D} {σ : L2.St} {H : Hp} {Q : VK} (hd : OpDen K r g) (h : tG K mg W (RV K) (dOp2 g f1 f2) σ H Q) : tOp r (tG K mg W (RV K) f1) (tG K mg W (RV K) f2) σ H Q := by
  obtain ⟨b, m, ρ, S, he, hs, h⟩ := h
  refine ⟨b, m, ρ, S, he, hs, Post.then h fun dx S1 m1 H1 x e1 t1 s1 r1 h1 => ?_⟩
  refine ⟨b, m1, ρ, S1, he.tr t1, s1, Post.then h1 fun dy S2 m2 H2 y e2 t2 s2 r2 h2 => ?_⟩
  have r1' := r1.tr t2
  unfold mopt at h2
  split at h2
  · rename_i d hg
    exact hd b m2 H2 S2 x y dx dy d Q s2 r1' r2 hg fun H' v sm rv => h2 _ _ _ (Same.tr sm) (s2.same sm) rv
  · exact h2.elim
variable {a c : Expr} {pos : Pos} {fa fc : Env → M D} {r : R2} {g : G2}
theorem pd_bin {op : Operator} (ho : OpR X (binaryOp op) r) (hd : OpDen X.K r g) (ha : PD X W a fa) (hc : PD X W c fc) : PD X W (.BinOp a op c pos) (dOp2 g fa fc) := PE.imp (pe_op ho ha hc) fun _ _ _ h => tOp_den hd h
theorem pd_cmp {op : CmpOp} (ho : OpR X (compareOp op) r) (hd : OpDen X.K r g) (ha : PD X W a fa) (hc : PD X W c fc) (hm : behindInMarks op c = false) : PD X W (.Compare a [op] [c] pos) (dOp2 g fa fc) := PE.imp (pe_cmpR ho ha hc hm) fun _ _ _ h => tOp_den hd h
theorem pd_ix (ho : IxR X r) (hd : OpDen X.K r g) (ha : PD X W a fa) (hc : PD X W c fc) (hs : PlainIx c) : PD X W (.Subscript a c pos) (dOp2 g fa fc) := PE.imp (pe_ix ho ha hc hs) fun _ _ _ h => tOp_den hd h
/-- a value that is a bool -/
def asB : D → M Bool
  | .bl k => mret k
  | _ => mbad
@[simp] def dTest (f : Env → M D) : Env → M Bool := fun ρ => mbind (f ρ) asB
theorem asB_rep {K : PySem.W.Frag} {mg : Str → Option Value} {b m : List Addr} {H : Hp} {S : Sto} {σ : L2.St} {v : V} {d : D} {Q : Bool → Hp → Prop} (hs : StoR K b m H S) (r : Rep K b m H v d) (h : Post K mg W b m H σ ReqB (asB d S) Q) : ∃ k, v = .bl k ∧ Q k H := by
  cases r with
  | bl k => exact ⟨k, rfl, h _ _ _ Tr.refl hs rfl⟩
  | _ => exact h.elim
theorem tTest_den {K : PySem.W.Frag} {mg : Str → Option Value} {f : Env → M D} {σ : L2.St} {H : Hp} {Q : Bool → Hp → Prop} (h : tG K mg W ReqB (dTest f) σ H Q) : tG K mg W (RV K) f σ H fun x H' => ∃ k, x = .bl k ∧ Q k H' := by
  obtain ⟨b, m, ρ, S, he, hs, h⟩ := h
  exact ⟨b, m, ρ, S, he, hs, Post.then h fun d S1 m1 H1 x e1 t1 s1 r1 h1 => asB_rep s1 r1 h1⟩
theorem tOp_mono {K : PySem.W.Frag} {mg : Str → Option Value} {f1 f2 : Env → M D} {σ : L2.St} {H : Hp} {Q : VK} (hd : OpDen K r g) (h : tG K mg W (RV K) (dOp2 g f1 f2) σ H Q) : tOp r (tG K mg W (RV K) f1) (tG K mg W (RV K) f2) σ H Q := tOp_den hd h
theorem td_cmp {op : CmpOp} (ho : OpR X (compareOp op) r) (hd : OpDen X.K r g) (ha : PD X W a fa) (hc : PD X W c fc) (hm : behindInMarks op c = false) : TD X W (.Compare a [op] [c] pos) (dTest (dOp2 g fa fc)) :=
  PT.imp (pt_cmpR ho ha hc hm) fun σ H Q h => tOp_den (Q := fun x H' => ∃ k, x = .bl k ∧ Q k H') hd (tTest_den h)
/-- a expression's value as a test -/
theorem td_val {e : Expr} {f : Env → M D} (h : PD X W e f) (he : ∀ whole, isTrue e X.env whole = (do let v ← whole; standAt e.pos; holding [v] (truthy v)) := by intro _; rfl) : TD X W e (dTest f) :=
  PT.imp (pt_val h he) fun σ H Q h => tTest_den h
/-- .. by its truth -/
def dTruth (S : Sto) : D → Option Bool
  | .non => some false
  | .bl k => some k
  | .int i => some (i != 0)
  | .str x => if x.length ≤ sizeLine then some ((x.length : Int) != 0) else none
  | d => (seqA S d).map fun ds => !ds.isEmpty
@[simp] def dTrue (f : Env → M D) : Env → M Bool := fun ρ => mbind (f ρ) fun d S => (mopt (dTruth S d) : M Bool) S
theorem Reps.isEmpty {K : PySem.W.Frag} {b m : List Addr} {H : Hp} {vs : List V} {ds : List D} (r : Reps K b m H vs ds) : vs.isEmpty = ds.isEmpty := by cases r <;> rfl
theorem dTruth_rep {K : PySem.W.Frag} {b m : List Addr} {H : Hp} {S : Sto} {v : V} {d : D} {k : Bool} (hs : StoR K b m H S) (r : Rep K b m H v d) (h : dTruth S d = some k) : TruV K v H k := by
  have gen : ∀ (h : (seqA S d).map (fun ds => !ds.isEmpty) = some k), TruV K v H k := fun h => by
    cases e : seqA S d with
    | none => rw [e] at h; cases h
    | some ds =>
      rw [e] at h
      cases h
      obtain ⟨a, xs, q1, q2, q3⟩ := seqA_rep hs r e
      subst q1
      rcases q2 with q2 | q2
      · exact .inl ⟨xs, q2, by rw [q3.isEmpty]⟩
      · exact .inr (.inl ⟨xs, q2, by rw [q3.isEmpty]⟩)
  cases r with
  | non => cases h; rfl
  | bl x => cases h; rfl
  | int i => cases h; rfl
  | str x =>
    have h' : (if x.length ≤ sizeLine then some ((x.length : Int) != 0) else none) = some k := h
    by_cases hz : x.length ≤ sizeLine
    · rw [if_pos hz] at h'
      cases h'
      exact ⟨hz, rfl⟩
    · rw [if_neg hz] at h'; cases h'
  | _ => exact gen h
theorem td_truth {e : Expr} {f : Env → M D} (h : PD X W e f) (he : ∀ whole, isTrue e X.env whole = (do let v ← whole; standAt e.pos; holding [v] (truthy v)) := by intro _; rfl) : TD X W e (dTrue f) :=
  PT.imp (pt_truth h he) fun σ H Q ⟨b, m, ρ, S, hv, hs, h⟩ => ⟨b, m, ρ, S, hv, hs, Post.then h fun d S1 m1 H1 x e1 t1 s1 r1 h1 => by
    unfold mopt at h1
    split at h1
    · rename_i k hk
      exact ⟨k, dTruth_rep s1 r1 hk, h1 _ _ _ Tr.refl s1 rfl⟩
    · exact h1.elim⟩
/-! ### and, or, not, if -/
@[simp] def dAnd (f g : Env → M Bool) : Env → M Bool := fun ρ => mbind (f ρ) fun c => if c then g ρ else mret false
@[simp] def dOr (f g : Env → M Bool) : Env → M Bool := fun ρ => mbind (f ρ) fun c => if c then mret true else g ρ
@[simp] def dNot (f : Env → M Bool) : Env → M Bool := fun ρ => mbind (f ρ) fun c => mret (!c)
variable {f1 f2 : Env → M Bool} {rest : List Expr}
theorem wd_and1 (h : TD X W a f1) : WD X W (.BoolOp .And [a] pos) f1 := pw_and1 h
theorem wd_or1 (h : TD X W a f1) : WD X W (.BoolOp .Or [a] pos) f1 := pw_or1 h
theorem wd_and (h1 : TD X W a f1) (h2 : WD X W (.BoolOp .And (c :: rest) pos) f2) : WD X W (.BoolOp .And (a :: c :: rest) pos) (dAnd f1 f2) :=
  PW.imp (pw_and h1 h2) fun σ H Q ⟨b, m, ρ, S, hv, hs, h⟩ => ⟨b, m, ρ, S, hv, hs, Post.then h fun d S1 m1 H1 x e1 t1 s1 r1 h1 => by
    obtain rfl : x = d := r1
    cases x with
    | true => exact iteT ⟨b, m1, ρ, S1, hv.tr t1, s1, h1⟩
    | false => exact iteF (h1 _ _ _ Tr.refl s1 rfl)⟩
theorem wd_or (h1 : TD X W a f1) (h2 : WD X W (.BoolOp .Or (c :: rest) pos) f2) : WD X W (.BoolOp .Or (a :: c :: rest) pos) (dOr f1 f2) :=
  PW.imp (pw_or h1 h2) fun σ H Q ⟨b, m, ρ, S, hv, hs, h⟩ => ⟨b, m, ρ, S, hv, hs, Post.then h fun d S1 m1 H1 x e1 t1 s1 r1 h1 => by
    obtain rfl : x = d := r1
    cases x with
    | false => exact iteF ⟨b, m1, ρ, S1, hv.tr t1, s1, h1⟩
    | true => exact iteT (h1 _ _ _ Tr.refl s1 rfl)⟩
theorem td_w (h : WD X W a f1) : TD X W a f1 := PW.pt h
theorem td_not (h : TD X W a f1) : TD X W (.UnaryOp .Not a pos) (dNot f1) :=
  PT.imp (pt_not h) fun σ H Q ⟨b, m, ρ, S, hv, hs, h⟩ => ⟨b, m, ρ, S, hv, hs, Post.then h fun d S1 m1 H1 x e1 t1 s1 r1 h1 => by
    obtain rfl : x = d := r1
    exact h1 _ _ _ Tr.refl s1 rfl⟩
@[simp] def dIfE (t : Env → M Bool) (f g : Env → M D) : Env → M D := fun ρ => mbind (t ρ) fun c => if c then f ρ else g ρ
theorem pd_ifExp {t : Expr} (ht : TD X W t f1) (ha : PD X W a fa) (hc : PD X W c fc) : PD X W (.IfExp t a c pos) (dIfE f1 fa fc) :=
  PE.imp (pe_ifExp ht ha hc) fun σ H Q ⟨b, m, ρ, S, hv, hs, h⟩ => ⟨b, m, ρ, S, hv, hs, Post.then h fun d S1 m1 H1 x e1 t1 s1 r1 h1 => by
    obtain rfl : x = d := r1
    cases x with
    | true => exact iteT ⟨b, m1, ρ, S1, hv.tr t1, s1, h1⟩
    | false => exact iteF ⟨b, m1, ρ, S1, hv.tr t1, s1, h1⟩⟩
/-- as values: all but the last True or False -/
@[simp] def dAndV (f g : Env → M D) : Env → M D := fun ρ => mbind (f ρ) fun d => mbind (asB d) fun c => if c then g ρ else mret (.bl false)
@[simp] def dOrV (f g : Env → M D) : Env → M D := fun ρ => mbind (f ρ) fun d => mbind (asB d) fun c => if c then mret (.bl true) else g ρ
theorem pd_one {op} (h : PD X W a fa) : PD X W (.BoolOp op [a] pos) fa := pe_one h
theorem pd_and (ha : PD X W a fa) (hc : PD X W (.BoolOp .And (c :: rest) pos) fc) : PD X W (.BoolOp .And (a :: c :: rest) pos) (dAndV fa fc) :=
  PE.imp (pe_and ha hc) fun σ H Q ⟨b, m, ρ, S, hv, hs, h⟩ => ⟨b, m, ρ, S, hv, hs, Post.then h fun d S1 m1 H1 x e1 t1 s1 r1 h1 => by
    cases r1 with
    | bl k =>
      cases k with
      | true => exact ⟨true, rfl, iteT ⟨b, m1, ρ, S1, hv.tr t1, s1, h1⟩⟩
      | false => exact ⟨false, rfl, iteF (h1 _ _ _ Tr.refl s1 (.bl false))⟩
    | _ => exact h1.elim⟩
theorem pd_or (ha : PD X W a fa) (hc : PD X W (.BoolOp .Or (c :: rest) pos) fc) : PD X W (.BoolOp .Or (a :: c :: rest) pos) (dOrV fa fc) :=
  PE.imp (pe_or ha hc) fun σ H Q ⟨b, m, ρ, S, hv, hs, h⟩ => ⟨b, m, ρ, S, hv, hs, Post.then h fun d S1 m1 H1 x e1 t1 s1 r1 h1 => by
    cases r1 with
    | bl k =>
      cases k with
      | false => exact ⟨false, rfl, iteF ⟨b, m1, ρ, S1, hv.tr t1, s1, h1⟩⟩
      | true => exact ⟨true, rfl, iteT (h1 _ _ _ Tr.refl s1 (.bl true))⟩
    | _ => exact h1.elim⟩
@[simp] def dNotV (f : Env → M D) : Env → M D := fun ρ => mbind (f ρ) fun d => mbind (asB d) fun c => mret (.bl (!c))
theorem pd_not (ha : PD X W a fa) : PD X W (.UnaryOp .Not a pos) (dNotV fa) :=
  PE.imp (pe_not ha) fun σ H Q ⟨b, m, ρ, S, hv, hs, h⟩ => ⟨b, m, ρ, S, hv, hs, Post.then h fun d S1 m1 H1 x e1 t1 s1 r1 h1 => by
    cases r1 with
    | bl k => exact ⟨k, rfl, h1 _ _ _ Tr.refl s1 (.bl _)⟩
    | _ => exact h1.elim⟩
/-! ### arguments, displays -/
@[simp] def aNil : Env → M (List D) := fun _ => mret []
@[simp] def aCons (f : Env → M D) (g : Env → M (List D)) : Env → M (List D) := fun ρ => mbind (f ρ) fun d => mbind (g ρ) fun ds => mret (d :: ds)
theorem ad_nil : AD X W [] aNil := PA.imp pa_nil fun σ H Q ⟨b, m, ρ, S, hv, hs, h⟩ => h _ _ _ Tr.refl hs .nil
variable {es : List Expr} {fs : Env → M (List D)}
theorem ad_cons (ha : PD X W a fa) (hr : AD X W es fs) (hs : starEach (a :: es) X.env = (false, eval a X.env) :: starEach es X.env := by rfl) : AD X W (a :: es) (aCons fa fs) :=
  PA.imp (pa_cons ha hr hs) fun σ H Q ⟨b, m, ρ, S, hv, hs, h⟩ => ⟨b, m, ρ, S, hv, hs, Post.then h fun d S1 m1 H1 x e1 t1 s1 r1 h1 =>
    ⟨b, m1, ρ, S1, hv.tr t1, s1, Post.then h1 fun ds S2 m2 H2 xs e2 t2 s2 r2 h2 => h2 _ _ _ Tr.refl s2 (.cons (r1.tr t2) r2)⟩⟩
@[simp] def dTup (f : Env → M (List D)) : Env → M D := fun ρ => mbind (f ρ) fun ds => if ds.length ≤ sizeLine then mret (.tup ds) else mbad
theorem pd_tup {k} (h : AD X W es fs) : PD X W (.Tuple es k pos) (dTup fs) := PE.imp (pe_tup h) fun σ H Q ⟨b, m, ρ, S, hv, hs, h⟩ => ⟨b, m, ρ, S, hv, hs, Post.then h fun ds S1 m1 H1 xs e1 t1 s1 r1 h1 => by
  split at h1
  · rename_i hz
    exact ⟨by rw [r1.length]; exact hz, fun p hp => h1 _ _ _ (Same.tr (Same.upd hp)) (s1.same (Same.upd hp)) (Rep.newTup hp r1)⟩
  · exact h1.elim⟩
end
end DL
set_option Elab.async false
set_option linter.all false
set_option maxRecDepth 100000
namespace DL
open PySem PySem.Spec PyProof.Rows L2

/-! ### data -/
mutual
def D.py : D → Option PyData
  | .non => some .none
  | .bl b => some (.bool b)
  | .int i => some (.int i)
  | .str x => some (.str x)
  | .tup ds => match D.pys ds with
    | some ps => some (.tuple ps)
    | none => none
  | .ctup ds => match D.pys ds with
    | some ps => some (.tuple ps)
    | none => none
  | .lst ds => match D.pys ds with
    | some ps => some (.list ps)
    | none => none
  | .flst ds => match D.pys ds with
    | some ps => some (.list ps)
    | none => none
  | .ty _ => none
  | .ptr _ => none
  | .obj _ => none
  | .dct _ _ => none
def D.pys : List D → Option (List PyData)
  | [] => some []
  | d :: ds => match D.py d with
    | some p => match D.pys ds with
      | some ps => some (p :: ps)
      | none => none
    | none => none
end
def pyS (S : Sto) : D → Option PyData
  | .ptr n => match ofPtr S n with
    | some ds => match D.pys ds with
      | some ps => some (.list ps)
      | none => none
    | none => none
  | d => d.py
section
variable {K : PySem.W.Frag} {b m : List Addr} {H : Hp} {S : Sto}
mutual
theorem Rep.dp : ∀ {d : D} {v : V} {p : PyData}, Rep K b m H v d → d.py = some p → Dp K H v p
  | _, _, _, .non, e => by cases e; exact .non
  | _, _, _, .bl x, e => by cases e; exact .bl x
  | _, _, _, .int i, e => by cases e; exact .int i
  | _, _, _, .str x, e => by cases e; exact .str x
  | _, _, _, .ty n, e => by cases e
  | _, _, _, .ptr h, e => by cases e
  | _, _, _, .obj a, e => by cases e
  | _, _, _, .dct _ _ _ _ _, e => by cases e
  | _, _, _, .tup (ds := ds) h r, e => by
    unfold D.py at e
    cases q : D.pys ds with
    | none => rw [q] at e; cases e
    | some ps => rw [q] at e; cases e; exact .tup (.inl (.inl h)) (Reps.dp r q)
  | _, _, _, .ctup (ds := ds) h r, e => by
    unfold D.py at e
    cases q : D.pys ds with
    | none => rw [q] at e; cases e
    | some ps => rw [q] at e; cases e; exact .tup h (Reps.dp r q)
  | _, _, _, .lst (ds := ds) h _ _ r, e => by
    unfold D.py at e
    cases q : D.pys ds with
    | none => rw [q] at e; cases e
    | some ps => rw [q] at e; cases e; exact .lst (SqL.of h) (Reps.dp r q)
  | _, _, _, .flst (ds := ds) h r, e => by
    unfold D.py at e
    cases q : D.pys ds with
    | none => rw [q] at e; cases e
    | some ps => rw [q] at e; cases e; exact .lst h.l (Reps.dp r q)
theorem Reps.dp : ∀ {ds : List D} {vs : List V} {ps : List PyData}, Reps K b m H vs ds → D.pys ds = some ps → DpAll K H vs ps
  | _, _, _, .nil, e => by cases e; exact .nil
  | _, _, _, .cons (d := d) (ds := ds) r rs, e => by
    unfold D.pys at e
    cases q : D.py d with
    | none => rw [q] at e; cases e
    | some p =>
      rw [q] at e
      cases q2 : D.pys ds with
      | none => rw [q2] at e; cases e
      | some ps => rw [q2] at e; cases e; exact .cons (Rep.dp r q) (Reps.dp rs q2)
end
theorem pyS_dp {v : V} {d : D} {p : PyData} (hs : StoR K b m H S) (r : Rep K b m H v d) (e : pyS S d = some p) : Dp K H v p := by
  cases r with
  | @ptr n a hn =>
    unfold pyS at e
    cases q : ofPtr S n with
    | none => simp only [q] at e; cases e
    | some ds =>
      simp only [q] at e
      obtain ⟨xs, h1, h2⟩ := ofPtr_rep hs hn q
      cases q2 : D.pys ds with
      | none => simp only [q2] at e; cases e
      | some ps => simp only [q2] at e; cases e; exact .lst (SqL.of h1) (h2.dp q2)
  | non => exact Rep.dp (b := b) (m := m) .non e
  | bl x => exact Rep.dp (b := b) (m := m) (.bl x) e
  | int x => exact Rep.dp (b := b) (m := m) (.int x) e
  | str x => exact Rep.dp (b := b) (m := m) (.str x) e
  | ty x => cases e
  | obj x => cases e
  | dct _ _ _ _ _ => cases e
  | tup h1 h2 => exact Rep.dp (b := b) (m := m) (.tup h1 h2) e
  | ctup h1 h2 => exact Rep.dp (b := b) (m := m) (.ctup h1 h2) e
  | lst h1 h2 h3 h4 => exact Rep.dp (b := b) (m := m) (.lst h1 h2 h3 h4) e
  | flst h1 h2 => exact Rep.dp (b := b) (m := m) (.flst h1 h2) e

/-! ### operators by kinds -/
def gAdd : G2 := fun S x y => match x, y with
  | .int i, .int j => some (.int (i + j))
  | .str i, .str j => if i.length + j.length ≤ sizeLine then some (.str (i ++ j)) else none
  | .tup xs, .tup ys => if xs.length + ys.length ≤ sizeLine then some (.tup (xs ++ ys)) else none
  | x, y => match seqM S x, seqM S y with
    | some xs, some ys => if xs.length + ys.length ≤ sizeLine then some (.lst (xs ++ ys)) else none
    | _, _ => none
def gInt (f : Int → Int → Option Int) : G2 := fun _ x y => match x, y with
  | .int i, .int j => match f i j with
    | some k => some (.int k)
    | none => none
  | _, _ => none
def gSub : G2 := gInt fun i j => some (i - j)
def gMul : G2 := gInt fun i j => if (-(2 ^ 64) < i ∧ i < 2 ^ 64) ∨ (-(2 ^ 64) < j ∧ j < 2 ^ 64) then some (i * j) else none
def gDiv : G2 := gInt fun i j => if 0 < j ∧ j < 1073741824 then some (i / j) else none
def gMod : G2 := gInt fun i j => if 0 < j then some (i % j) else none
def gXor : G2 := gInt fun i j => some (Builtin.bitXor i j)
def gCmp (f : Int → Int → Bool) : G2 := fun _ x y => match x, y with
  | .int i, .int j => some (.bl (f i j))
  | _, _ => none
def gLt : G2 := gCmp fun i j => decide (i < j)
def gLe : G2 := gCmp fun i j => decide (i ≤ j)
def gGt : G2 := gCmp fun i j => decide (j < i)
def gGe : G2 := gCmp fun i j => decide (j ≤ i)
def deqv (S : Sto) (x y : D) : Option Bool := match pyS S x, pyS S y with
  | some p, some q => if SeqAt.shaped p = true ∧ SeqAt.shaped q = true then some (PyData.eqv p q) else none
  | _, _ => none
def gEq : G2 := fun S x y => match deqv S x y with
  | some k => some (.bl k)
  | none => none
def gNe : G2 := fun S x y => match deqv S x y with
  | some k => some (.bl (!k))
  | none => none

theorem den_int {f : Int → Int → Option Int} {C : Int → Int → Prop} {g : Int → Int → Int} (h : ∀ i j k, f i j = some k → C i j ∧ k = g i j) : OpDen K (rI C fun i j => .int (g i j)) (gInt f) := by
  intro b m H S x y dx dy d Q hs rx ry e q
  cases rx <;> cases ry <;> try (cases e; done)
  rename_i i j
  unfold gInt at e
  cases e1 : f i j with
  | none => simp only [e1] at e; cases e
  | some k =>
    simp only [e1] at e
    cases e
    obtain ⟨hc, rfl⟩ := h i j k e1
    exact ⟨i, j, rfl, rfl, hc, q H _ (Same.refl H) (.int _)⟩
theorem den_int0 {f : Int → Int → Option Int} {g : Int → Int → Int} (h : ∀ i j k, f i j = some k → k = g i j) : OpDen K (rI0 fun i j => .int (g i j)) (gInt f) := by
  intro b m H S x y dx dy d Q hs rx ry e q
  cases rx <;> cases ry <;> try (cases e; done)
  rename_i i j
  unfold gInt at e
  cases e1 : f i j with
  | none => simp only [e1] at e; cases e
  | some k =>
    simp only [e1] at e
    cases e
    obtain rfl := h i j k e1
    exact ⟨i, j, rfl, rfl, q H _ (Same.refl H) (.int _)⟩
theorem den_cmp {f : Int → Int → Bool} : OpDen K (rI0 fun i j => .bl (f i j)) (gCmp f) := by
  intro b m H S x y dx dy d Q hs rx ry e q
  cases rx <;> cases ry <;> try (cases e; done)
  cases e
  exact ⟨_, _, rfl, rfl, q H _ (Same.refl H) (.bl _)⟩
theorem den_sub : OpDen K (rI0 fun i j => .int (i - j)) gSub := den_int0 fun i j k e => by cases e; rfl
theorem den_mul : OpDen K (rI CMul fun i j => .int (i * j)) gMul := den_int fun i j k e => by
  split at e
  · rename_i h; cases e; exact ⟨h, rfl⟩
  · cases e
theorem den_div : OpDen K (rI CDiv fun i j => .int (i / j)) gDiv := den_int fun i j k e => by
  split at e
  · rename_i h; cases e; exact ⟨h, rfl⟩
  · cases e
theorem den_mod : OpDen K (rI (fun _ j => 0 < j) fun i j => .int (i % j)) gMod := den_int fun i j k e => by
  split at e
  · rename_i h; cases e; exact ⟨h, rfl⟩
  · cases e
theorem den_xor : OpDen K (rI0 fun i j => .int (Builtin.bitXor i j)) gXor := den_int0 fun i j k e => by cases e; rfl
theorem den_eq : OpDen K (rEqD K) gEq := by
  intro b m H S x y dx dy d Q hs rx ry e q
  unfold gEq deqv at e
  cases e1 : pyS S dx with
  | none => simp only [e1] at e; cases e
  | some p =>
    cases e2 : pyS S dy with
    | none => simp only [e1, e2] at e; cases e
    | some p2 =>
      simp only [e1, e2] at e
      by_cases hc : SeqAt.shaped p = true ∧ SeqAt.shaped p2 = true
      · rw [if_pos hc] at e
        cases e
        exact ⟨p, p2, pyS_dp hs rx e1, pyS_dp hs ry e2, hc.1, hc.2, q H _ (Same.refl H) (.bl _)⟩
      · rw [if_neg hc] at e; cases e
theorem den_ne : OpDen K (rNeD K) gNe := by
  intro b m H S x y dx dy d Q hs rx ry e q
  unfold gNe deqv at e
  cases e1 : pyS S dx with
  | none => simp only [e1] at e; cases e
  | some p =>
    cases e2 : pyS S dy with
    | none => simp only [e1, e2] at e; cases e
    | some p2 =>
      simp only [e1, e2] at e
      by_cases hc : SeqAt.shaped p = true ∧ SeqAt.shaped p2 = true
      · rw [if_pos hc] at e
        cases e
        exact ⟨p, p2, pyS_dp hs rx e1, pyS_dp hs ry e2, hc.1, hc.2, q H _ (Same.refl H) (.bl _)⟩
      · rw [if_neg hc] at e; cases e
/-- + of any kinds -/
def rAddU (K : PySem.W.Frag) : R2 := fun x y H Q => (∃ i j, x = .int i ∧ y = .int j ∧ Q (.int (i + j)) H) ∨ (∃ i j, x = .str i ∧ y = .str j ∧ i.length + j.length ≤ sizeLine ∧ Q (.str (i ++ j)) H) ∨ rCat x y H Q ∨ rCatA K x y H Q
theorem op_addU {X : Cx} : OpR X (binaryOp .Add) (rAddU X.K) := OpR.or op_add (OpR.or op_add_str (OpR.or op_cat op_catA))
theorem Reps.nil_iff {vs : List V} {ds : List D} (r : Reps K b m H vs ds) : vs = [] ↔ ds = [] := by
  cases r with
  | nil => simp
  | cons _ _ => simp
theorem den_add : OpDen K (rAddU K) gAdd := by
  intro b m H S x y dx dy d Q hs rx ry e q
  have lists : (match seqM S dx, seqM S dy with
    | some xs, some ys => if xs.length + ys.length ≤ sizeLine then some (D.lst (xs ++ ys)) else none
    | _, _ => none) = some d → rCat x y H Q := fun e => by
    cases e1 : seqM S dx with
    | none => simp only [e1] at e; cases e
    | some xs =>
      cases e2 : seqM S dy with
      | none => simp only [e1, e2] at e; cases e
      | some ys =>
        simp only [e1, e2] at e
        by_cases hz : xs.length + ys.length ≤ sizeLine
        · rw [if_pos hz] at e
          cases e
          obtain ⟨p1, vs, rfl, h1, h2⟩ := seqM_rep hs rx e1
          obtain ⟨p2, ws, rfl, h3, h4⟩ := seqM_rep hs ry e2
          exact ⟨p1, p2, vs, ws, rfl, rfl, h1, h3, by rw [h2.length, h4.length]; exact hz, fun p hp => q _ _ (Same.upd hp) (Rep.newLst hs hp (h2.append h4))⟩
        · rw [if_neg hz] at e; cases e
  cases dx <;> cases dy <;> first
    | exact .inr (.inr (.inl (lists e)))
    | (cases e; done)
    | skip
  · cases rx; cases ry; cases e
    exact .inl ⟨_, _, rfl, rfl, q H _ (Same.refl H) (.int _)⟩
  · rename_i i j
    cases rx; cases ry
    have e' : (if i.length + j.length ≤ sizeLine then some (D.str (i ++ j)) else none) = some d := e
    by_cases hz : i.length + j.length ≤ sizeLine
    · rw [if_pos hz] at e'
      cases e'
      exact .inr (.inl ⟨_, _, rfl, rfl, hz, q H _ (Same.refl H) (.str _)⟩)
    · rw [if_neg hz] at e'; cases e'
  · rename_i xs ys
    have e' : (if xs.length + ys.length ≤ sizeLine then some (D.tup (xs ++ ys)) else none) = some d := e
    by_cases hz : xs.length + ys.length ≤ sizeLine
    · rw [if_pos hz] at e'
      cases e'
      obtain ⟨p1, vs, rfl, h1, h2⟩ := seqT_rep rx rfl
      obtain ⟨p2, ws, rfl, h3, h4⟩ := seqT_rep ry rfl
      refine .inr (.inr (.inr ⟨p1, p2, vs, ws, rfl, rfl, h1, h3, by rw [h2.length, h4.length]; exact hz, fun z => ?_, fun _ z => ?_, fun _ _ p hp => q _ _ (Same.upd hp) (Rep.newTup hp (h2.append h4))⟩))
      · rw [h2.nil_iff] at z
        subst z
        exact q H _ (Same.refl H) ry
      · rw [h4.nil_iff] at z
        subst z
        exact q H _ (Same.refl H) (by rw [List.append_nil]; exact rx)
    · rw [if_neg hz] at e'; cases e'

/-! ### x[i] -/
def gIx : G2 := fun S x y => match y with
  | .int i => match x with
    | .str z => if z.length ≤ sizeLine then match atI z.cps.toList i with
      | some c => some (.str ⟨#[c]⟩)
      | none => none
      else none
    | x => match seqA S x with
      | some ds => atI ds i
      | none => none
  | _ => none
theorem ixN_lt {n : Nat} {i : Int} {j : Nat} (h : ixN n i = some j) : j < n := (ixN_seq h).2.1
theorem Reps.atI {vs : List V} {ds : List D} {i : Int} {d : D} (r : Reps K b m H vs ds) (h : atI ds i = some d) : ∃ v, L2.atI vs i = some v ∧ Rep K b m H v d := by
  unfold L2.atI at h ⊢
  rw [r.length]
  cases e : ixN ds.length i with
  | none => rw [e] at h; cases h
  | some j =>
    rw [e] at h
    obtain ⟨v, h1, h2⟩ := r.get h
    exact ⟨v, h1, h2⟩
theorem den_ix : OpDen K (rIx K) gIx := by
  intro b m H S x y dx dy d Q hs rx ry e q
  cases ry <;> try (cases e; done)
  rename_i i
  have seq : (match seqA S dx with
      | some ds => atI ds i
      | none => none) = some d → rIx K x (.int i) H Q := fun e => by
    cases e1 : seqA S dx with
    | none => simp only [e1] at e; cases e
    | some ds =>
      simp only [e1] at e
      obtain ⟨a, xs, rfl, h1, h2⟩ := seqA_rep hs rx e1
      obtain ⟨v, h3, h4⟩ := h2.atI e
      rcases h1 with h1 | h1
      · exact .inl ⟨a, xs, i, v, rfl, rfl, h1, h3, q H _ (Same.refl H) h4⟩
      · exact .inr (.inl ⟨a, xs, i, v, rfl, rfl, h1, h3, q H _ (Same.refl H) h4⟩)
  cases rx with
  | str z =>
    have e' : (if z.length ≤ sizeLine then match atI z.cps.toList i with
      | some c => some (D.str ⟨#[c]⟩)
      | none => none
      else none) = some d := e
    by_cases hz : z.length ≤ sizeLine
    · rw [if_pos hz] at e'
      cases e1 : atI z.cps.toList i with
      | none => simp only [e1] at e'; cases e'
      | some c =>
        simp only [e1] at e'
        cases e'
        exact .inr (.inr ⟨z, i, c, rfl, rfl, hz, e1, q H _ (Same.refl H) (.str _)⟩)
    · rw [if_neg hz] at e'; cases e'
  | _ => exact seq e
/-! ### in -/
def D.imm : D → Option V
  | .non => some .non
  | .bl b => some (.bl b)
  | .int i => some (.int i)
  | .str x => some (.str x)
  | _ => none
def imms : List D → Option (List V)
  | [] => some []
  | d :: ds => match d.imm with
    | some v => match imms ds with
      | some vs => some (v :: vs)
      | none => none
    | none => none
theorem imm_rep {v v' : V} {d : D} (r : Rep K b m H v d) (e : d.imm = some v') : v' = v := by
  cases r <;> cases e <;> rfl
theorem imms_rep : ∀ {vs vs' : List V} {ds : List D}, Reps K b m H vs ds → imms ds = some vs' → vs' = vs
  | _, _, _, .nil, e => by cases e; rfl
  | _, _, _, .cons (d := d) (ds := ds) r rs, e => by
    unfold imms at e
    cases q : d.imm with
    | none => simp only [q] at e; cases e
    | some v =>
      cases q2 : imms ds with
      | none => simp only [q, q2] at e; cases e
      | some ws =>
        simp only [q, q2] at e
        cases e
        rw [imm_rep r q, imms_rep rs q2]
def din (S : Sto) (x y : D) : Option Bool := match seqA S y with
  | some ds => match x.imm, imms ds with
    | some v, some vs => if flatV v = true ∧ vs.all flatV = true then some (inV v vs) else none
    | _, _ => none
  | none => none
def gIn : G2 := fun S x y => match din S x y with
  | some k => some (.bl k)
  | none => none
def gNotIn : G2 := fun S x y => match din S x y with
  | some k => some (.bl (!k))
  | none => none
theorem din_rep {x y : V} {dx dy : D} {k : Bool} (hs : StoR K b m H S) (rx : Rep K b m H x dx) (ry : Rep K b m H y dy) (e : din S dx dy = some k) :
    ∃ p xs, y = .ref p ∧ (SqL K H p xs ∨ SqT K H p xs) ∧ flatV x = true ∧ xs.all flatV = true ∧ inV x xs = k := by
  unfold din at e
  cases e1 : seqA S dy with
  | none => simp only [e1] at e; cases e
  | some ds =>
    simp only [e1] at e
    obtain ⟨a, xs, rfl, h1, h2⟩ := seqA_rep hs ry e1
    cases e2 : dx.imm with
    | none => simp only [e2] at e; cases e
    | some v =>
      cases e3 : imms ds with
      | none => simp only [e2, e3] at e; cases e
      | some vs =>
        simp only [e2, e3] at e
        obtain rfl := imm_rep rx e2
        obtain rfl := imms_rep h2 e3
        by_cases hc : flatV v = true ∧ vs.all flatV = true
        · rw [if_pos hc] at e
          cases e
          exact ⟨a, vs, rfl, h1, hc.1, hc.2, rfl⟩
        · rw [if_neg hc] at e; cases e
theorem den_in : OpDen K (rIn K false) gIn := by
  intro b m H S x y dx dy d Q hs rx ry e q
  unfold gIn at e
  cases e1 : din S dx dy with
  | none => simp only [e1] at e; cases e
  | some k =>
    simp only [e1] at e
    cases e
    obtain ⟨p, xs, h1, h2, h3, h4, rfl⟩ := din_rep hs rx ry e1
    exact ⟨p, xs, h1, h2, h3, h4, q H _ (Same.refl H) (.bl _)⟩
theorem den_notIn : OpDen K (rIn K true) gNotIn := by
  intro b m H S x y dx dy d Q hs rx ry e q
  unfold gNotIn at e
  cases e1 : din S dx dy with
  | none => simp only [e1] at e; cases e
  | some k =>
    simp only [e1] at e
    cases e
    obtain ⟨p, xs, h1, h2, h3, h4, rfl⟩ := din_rep hs rx ry e1
    exact ⟨p, xs, h1, h2, h3, h4, q H _ (Same.refl H) (.bl _)⟩
/-! ### is -/
def gIsNon : G2 := fun _ x y => match y with
  | .non => some (.bl (match x with | .non => true | _ => false))
  | _ => none
def gNotNon : G2 := fun _ x y => match y with
  | .non => some (.bl (match x with | .non => false | _ => true))
  | _ => none
theorem den_isNon : OpDen K (fun x y H Q => y = .non ∧ Q (.bl (decide (x = .non))) H) gIsNon := by
  intro b m H S x y dx dy d Q hs rx ry e q
  cases ry <;> try (cases e; done)
  refine ⟨rfl, ?_⟩
  cases rx <;> cases e <;> exact q H _ (Same.refl H) (.bl _)
theorem den_notNon : OpDen K (fun x y H Q => y = .non ∧ Q (.bl (!decide (x = .non))) H) gNotNon := by
  intro b m H S x y dx dy d Q hs rx ry e q
  cases ry <;> try (cases e; done)
  refine ⟨rfl, ?_⟩
  cases rx <;> cases e <;> exact q H _ (Same.refl H) (.bl _)
def gIsTy : G2 := fun _ x y => match x, y with
  | .ty a, .ty c => some (.bl (decide (a = c)))
  | _, _ => none
def gIsNotTy : G2 := fun _ x y => match x, y with
  | .ty a, .ty c => some (.bl (!decide (a = c)))
  | _, _ => none
theorem den_isTy : OpDen K (fun x y H Q => ∃ m n, x = .ty m ∧ y = .ty n ∧ Q (.bl (decide (m = n))) H) gIsTy := by
  intro b m H S x y dx dy d Q hs rx ry e q
  cases rx <;> cases ry <;> try (cases e; done)
  cases e
  exact ⟨_, _, rfl, rfl, q H _ (Same.refl H) (.bl _)⟩
theorem den_isNotTy : OpDen K (fun x y H Q => ∃ m n, x = .ty m ∧ y = .ty n ∧ Q (.bl (!decide (m = n))) H) gIsNotTy := by
  intro b m H S x y dx dy d Q hs rx ry e q
  cases rx <;> cases ry <;> try (cases e; done)
  cases e
  exact ⟨_, _, rfl, rfl, q H _ (Same.refl H) (.bl _)⟩

/-! ### built-in functions of values -/
abbrev GC := Sto → List D → Option D
@[simp] def dCallB (g : GC) (f : Env → M (List D)) : Env → M D := fun ρ => mbind (f ρ) fun ds S => (mopt (g S ds) : M D) S
def CallDen (K : PySem.W.Frag) (r : List V → Hp → VK → Prop) (g : GC) : Prop := ∀ (b m : List Addr) (H : Hp) (S : Sto) (xs : List V) (ds : List D) (d : D) (Q : VK), StoR K b m H S → Reps K b m H xs ds → g S ds = some d →
  (∀ H' v, Same H H' → Rep K b m H' v d → Q v H') → r xs H Q
theorem tCB_den {mg : Str → Option Value} {W : WX} {r : List V → Hp → VK → Prop} {g : GC} {f : Env → M (List D)} {σ : L2.St} {H : Hp} {Q : VK} (hd : CallDen K r g) (h : tG K mg W (RV K) (dCallB g f) σ H Q) : tCB r (tG K mg W (RVs K) f) σ H Q := by
  obtain ⟨b, m, ρ, S, he, hs, h⟩ := h
  refine ⟨b, m, ρ, S, he, hs, Post.then h fun ds S1 m1 H1 xs e1 t1 s1 r1 h1 => ?_⟩
  unfold mopt at h1
  split at h1
  · rename_i d hg
    exact hd b m1 H1 S1 xs ds d Q s1 r1 hg fun H' v sm rv => h1 _ _ _ (Same.tr sm) (s1.same sm) rv
  · exact h1.elim
end
section
variable {X : Cx} {W : WX} {x : Str} {p pos : Pos} {e : Expr} {es : List Expr} {f : Env → M (List D)} {id T : String} {r : List V → Hp → VK → Prop} {g : GC}
theorem pd_callB (hc : CallR X (.builtin id) r) (hd : CallDen X.K r g) (hg : Gl X x) (hm : X.mg x = none) (hv : bootBuiltins x = some (.builtin id)) (ha : AD X W (e :: es) f) (hn : x ≠ "__name__" := by decide) (hdb : (x == ("__debug__" : Str)) = false := by decide)
    (he : starEach (e :: es) X.env = (false, eval e X.env) :: starEach es X.env := by rfl) (hpl : (backTo pos (starEach es X.env)).any (·.1) = false := by rfl) : PD X W (.Call (.Name x p) (e :: es) [] pos) (dCallB g f) :=
  PE.imp (pe_callB hc hg hm hv ha hn hdb he hpl) fun _ _ _ h => tCB_den hd h
theorem pd_callTy (hc : CallR X (.type T) r) (hd : CallDen X.K r g) (hg : Gl X x) (hm : X.mg x = none) (hv : bootBuiltins x = some (.type T)) (ha : AD X W (e :: es) f) (hn : x ≠ "__name__" := by decide) (hdb : (x == ("__debug__" : Str)) = false := by decide)
    (he : starEach (e :: es) X.env = (false, eval e X.env) :: starEach es X.env := by rfl) (hpl : (backTo pos (starEach es X.env)).any (·.1) = false := by rfl) : PD X W (.Call (.Name x p) (e :: es) [] pos) (dCallB g f) :=
  PE.imp (pe_callTy hc hg hm hv ha hn hdb he hpl) fun _ _ _ h => tCB_den hd h
end
section
variable {K : PySem.W.Frag} {b m : List Addr} {H : Hp} {S : Sto}
def lenD (S : Sto) : D → Option D
  | .str z => if z.length ≤ sizeLine then some (.int z.length) else none
  | d => match seqA S d with
    | some xs => some (.int xs.length)
    | none => none
def cLen : GC := fun S ds => match ds with
  | [d] => lenD S d
  | _ => none
theorem Reps.one {vs : List V} {d : D} (r : Reps K b m H vs [d]) : ∃ v, vs = [v] ∧ Rep K b m H v d := by
  cases r with
  | cons r rs => cases rs; exact ⟨_, rfl, r⟩
theorem Reps.two {vs : List V} {d d' : D} (r : Reps K b m H vs [d, d']) : ∃ v v', vs = [v, v'] ∧ Rep K b m H v d ∧ Rep K b m H v' d' := by
  cases r with
  | cons r rs =>
    obtain ⟨v', e, r'⟩ := rs.one
    exact ⟨_, _, by rw [e], r, r'⟩
theorem den_len : CallDen K (fun xs H Q => ∃ x n, xs = [x] ∧ LenV K x H n ∧ Q (.int n) H) cLen := by
  intro b m H S xs ds d Q hs r e q
  match ds, e with
  | [d0], e =>
    have e : lenD S d0 = some d := e
    obtain ⟨v, rfl, rv⟩ := r.one
    have seq : (match seqA S d0 with
        | some xs => some (D.int xs.length)
        | none => none) = some d → ∃ x n, [v] = [x] ∧ LenV K x H n ∧ Q (.int n) H := fun e => by
      cases e1 : seqA S d0 with
      | none => simp only [e1] at e; cases e
      | some zs =>
        simp only [e1] at e
        cases e
        obtain ⟨a, xs, rfl, h1, h2⟩ := seqA_rep hs rv e1
        refine ⟨_, zs.length, rfl, ?_, q H _ (Same.refl H) (.int _)⟩
        rcases h1 with h1 | h1
        · exact .inl ⟨xs, h1, h2.length.symm⟩
        · exact .inr ⟨xs, h1, h2.length.symm⟩
    cases rv with
    | str z =>
      have e' : (if z.length ≤ sizeLine then some (D.int z.length) else none) = some d := e
      by_cases hz : z.length ≤ sizeLine
      · rw [if_pos hz] at e'
        cases e'
        exact ⟨_, z.length, rfl, ⟨hz, rfl⟩, q H _ (Same.refl H) (.int _)⟩
      · rw [if_neg hz] at e'; cases e'
    | _ => exact seq e
/-- the type's name -/
def D.tyn (S : Sto) : D → Option String
  | .non => some "NoneType"
  | .bl _ => some "bool"
  | .int _ => some "int"
  | .str _ => some "str"
  | .tup _ => some "tuple"
  | .ctup _ => some "tuple"
  | .lst _ => some "list"
  | .flst _ => some "list"
  | .ptr n => (ofPtr S n).map fun _ => "list"
  | _ => none
def isi (a c : String) : Bool := a == c || (a == "bool" && c == "int")
def isiOk : List String := ["int", "bool", "str", "tuple", "list", "dict"]
theorem kit_isi : ∀ a ∈ ["NoneType", "bool", "int", "str", "tuple", "list"], ∀ c ∈ isiOk, kitB a c = some (isi a c) := by decide +kernel
def cIsi : GC := fun S ds => match ds with
  | [d, .ty c] => match d.tyn S with
    | some a => if c ∈ isiOk then some (.bl (isi a c)) else none
    | none => none
  | _ => none
theorem SqF.ty {a : Addr} {xs : List V} (h : SqF K H a xs) : TyX K H (.ref a) (.type "list") := by
  rcases h with ⟨o, h⟩ | ⟨o, its, n, h1, h2, _⟩
  · exact .base (.frz h)
  · exact .kList h1 h2
theorem SqT.ty {a : Addr} {xs : List V} (h : SqT K H a xs) : TyX K H (.ref a) (.type "tuple") := by
  rcases h with (h | ⟨o, h⟩) | ⟨o, its, n, h1, h2, _⟩
  · exact .base (.tup h)
  · exact .fTuple h
  · exact .kTuple h1 h2
theorem tyn_rep {v : V} {d : D} {a : String} (hs : StoR K b m H S) (r : Rep K b m H v d) (e : d.tyn S = some a) : TyX K H v (.type a) ∧ a ∈ ["NoneType", "bool", "int", "str", "tuple", "list"] := by
  cases r with
  | non => cases e; exact ⟨.base .non, by decide⟩
  | bl x => cases e; exact ⟨.base (.bl x), by decide⟩
  | int x => cases e; exact ⟨.base (.int x), by decide⟩
  | str x => cases e; exact ⟨.base (.str x), by decide⟩
  | ty x => cases e
  | obj x => cases e
  | dct _ _ _ _ _ => cases e
  | tup h _ => cases e; exact ⟨.base (.tup h), by decide⟩
  | ctup h _ => cases e; exact ⟨SqT.ty h, by decide⟩
  | lst h _ _ _ => cases e; exact ⟨.base (.lst h), by decide⟩
  | flst h _ => cases e; exact ⟨h.ty, by decide⟩
  | @ptr n a' h =>
    have e' : (ofPtr S n).map (fun _ => "list") = some a := e
    cases q : ofPtr S n with
    | none => rw [q] at e'; cases e'
    | some ds =>
      rw [q] at e'
      cases e'
      obtain ⟨xs, h1, _⟩ := ofPtr_rep hs h q
      exact ⟨.base (.lst h1), by show "list" ∈ _; decide⟩
theorem den_isi : CallDen K (rIsi K) cIsi := by
  intro b m H S xs ds d Q hs r e q
  match ds, e with
  | [d0, .ty c], e =>
    obtain ⟨v, w', rfl, r1, r2⟩ := r.two
    cases r2
    unfold cIsi at e
    cases e1 : d0.tyn S with
    | none => simp only [e1] at e; cases e
    | some a =>
      simp only [e1] at e
      by_cases hc : c ∈ isiOk
      · rw [if_pos hc] at e
        cases e
        obtain ⟨h1, h2⟩ := tyn_rep hs r1 e1
        exact ⟨_, _, _, _, _, rfl, .ty c, h1, kit_ty (kit_isi a h2 c hc), q H _ (Same.refl H) (.bl _)⟩
      · rw [if_neg hc] at e; cases e
def cType : GC := fun S ds => match ds with
  | [d] => match d.tyn S with
    | some a => some (.ty a)
    | none => none
  | _ => none
theorem den_type : CallDen K (rTyp K) cType := by
  intro b m H S xs ds d Q hs r e q
  match ds, e with
  | [d0], e =>
    obtain ⟨v, rfl, r1⟩ := r.one
    unfold cType at e
    cases e1 : d0.tyn S with
    | none => simp only [e1] at e; cases e
    | some a =>
      simp only [e1] at e
      cases e
      refine ⟨v, a, rfl, ?_, q H _ (Same.refl H) (.ty _)⟩
      cases r1 with
      | non => cases e1; exact .non
      | bl x => cases e1; exact .bl x
      | int x => cases e1; exact .int x
      | str x => cases e1; exact .str x
      | ty x => cases e1
      | obj x => cases e1
      | dct _ _ _ _ _ => cases e1
      | tup h _ => cases e1; exact .tup (.inl (.inl h))
      | ctup h _ => cases e1; exact .tup h
      | lst h _ _ _ => cases e1; exact .lst (SqL.of h)
      | flst h _ => cases e1; exact .lst h.l
      | @ptr n a h =>
        have e' : (ofPtr S n).map (fun _ => "list") = some _ := e1
        cases q9 : ofPtr S n with
        | none => rw [q9] at e'; cases e'
        | some ds =>
          rw [q9] at e'
          cases e'
          obtain ⟨xs, h1, _⟩ := ofPtr_rep hs h q9
          exact .lst (SqL.of h1)
def cInt : GC := fun _ ds => match ds with
  | [.int i] => some (.int i)
  | [.bl k] => some (.int (if k then 1 else 0))
  | _ => none
theorem den_int1 : CallDen K (fun xs H Q => (∃ i, xs = [.int i] ∧ Q (.int i) H) ∨ ∃ k, xs = [.bl k] ∧ Q (.int (if k then 1 else 0)) H) cInt := by
  intro b m H S xs ds d Q hs r e q
  unfold cInt at e
  split at e
  · obtain ⟨v, rfl, r1⟩ := r.one
    cases r1; cases e
    exact .inl ⟨_, rfl, q H _ (Same.refl H) (.int _)⟩
  · obtain ⟨v, rfl, r1⟩ := r.one
    cases r1; cases e
    exact .inr ⟨_, rfl, q H _ (Same.refl H) (.int _)⟩
  · cases e
def cList : GC := fun S ds => match ds with
  | [d] => match seqA S d with
    | some xs => some (.lst xs)
    | none => none
  | _ => none
theorem den_list : CallDen K (fun xs H Q => ∃ p ys, xs = [.ref p] ∧ (SqL K H p ys ∨ SqT K H p ys) ∧ ∀ l, H l = none → Q (.ref l) (upd H l (.lst ys))) cList := by
  intro b m H S xs ds d Q hs r e q
  match ds, e with
  | [d0], e =>
    obtain ⟨v, rfl, r1⟩ := r.one
    unfold cList at e
    cases e1 : seqA S d0 with
    | none => simp only [e1] at e; cases e
    | some zs =>
      simp only [e1] at e
      cases e
      obtain ⟨a, xs, rfl, h1, h2⟩ := seqA_rep hs r1 e1
      exact ⟨a, xs, rfl, h1, fun l hl => q _ _ (Same.upd hl) (Rep.newLst hs hl h2)⟩
def cTuple : GC := fun S ds => match ds with
  | [.ctup xs] => some (.ctup xs)
  | [d] => match seqA S d with
    | some xs => some (.tup xs)
    | none => none
  | _ => none
theorem den_tuple : CallDen K (fun xs H Q => ∃ p ys, xs = [.ref p] ∧ ((SqL K H p ys ∧ ∀ l, H l = none → Q (.ref l) (upd H l (.tup ys))) ∨ (SqT K H p ys ∧ Q (.ref p) H))) cTuple := by
  intro b m H S xs ds d Q hs r e q
  match ds, e with
  | [], e => cases e
  | _ :: _ :: _, e =>
    exfalso
    unfold cTuple at e
    split at e <;> first | (rename_i h; cases h; done) | (cases e; done) | simp_all
  | [d0], e =>
    obtain ⟨v, rfl, r1⟩ := r.one
    have lists : ∀ zs, d = .tup zs → (∃ a xs, v = .ref a ∧ SqL K H a xs ∧ Reps K b m H xs zs) → ∃ p ys, [v] = [.ref p] ∧ ((SqL K H p ys ∧ ∀ l, H l = none → Q (.ref l) (upd H l (.tup ys))) ∨ (SqT K H p ys ∧ Q (.ref p) H)) := fun zs ed ⟨a, xs, ev, h1, h2⟩ => by
      subst ed ev
      exact ⟨a, xs, rfl, .inl ⟨h1, fun l hl => q _ _ (Same.upd hl) (Rep.newTup hl h2)⟩⟩
    cases r1 with
    | ctup h1 h2 => cases e; exact ⟨_, _, rfl, .inr ⟨h1, q H _ (Same.refl H) (.ctup h1 h2)⟩⟩
    | tup h1 h2 => cases e; exact ⟨_, _, rfl, .inr ⟨.inl (.inl h1), q H _ (Same.refl H) (.tup h1 h2)⟩⟩
    | flst h1 h2 => cases e; exact lists _ rfl ⟨_, _, rfl, h1.l, h2⟩
    | lst h1 h2 h3 h4 => cases e; exact lists _ rfl ⟨_, _, rfl, SqL.of h1, h4⟩
    | @ptr n a h =>
      have e' : (match ofPtr S n with | some xs => some (D.tup xs) | none => none) = some d := e
      cases e1 : ofPtr S n with
      | none => rw [e1] at e'; cases e'
      | some zs =>
        rw [e1] at e'
        cases e'
        obtain ⟨xs, h1, h2⟩ := ofPtr_rep hs h e1
        exact lists _ rfl ⟨_, xs, rfl, SqL.of h1, h2⟩
    | _ => cases e
end
end DL
set_option Elab.async false
set_option linter.all false
set_option maxRecDepth 100000
namespace DL
open PySem PySem.Spec PyProof.Rows L2

/-! ### statements -/
inductive Fl where
  | nx (ρ : Env) | rt (d : D) | bk (ρ : Env) | ct (ρ : Env)
inductive OutS where
  | ok (f : Fl) (S : Sto)
  | ex (e : Exn) (ρ : Env) (S : Sto)
  | bad
abbrev DS := Env → Sto → OutS
def sbind {α : Type} (x : Out α) (ρ : Env) (k : α → Sto → OutS) : OutS := match x with
  | .ok a S => k a S
  | .ex e S => .ex e ρ S
  | .bad => .bad
def PostS (K : PySem.W.Frag) (mg : Str → Option Value) (W : WX) (b m : List Addr) (H : Hp) (E : Ends) : OutS → Prop
  | .ok (.nx ρ) S => ∀ m' H' σ', Tr m H m' H' → EnvR K b m' H' σ' ρ → StoR K b m' H' S → E.nx σ' H'
  | .ok (.rt d) S => ∀ m' H' v, Tr m H m' H' → StoR K b m' H' S → Rep K b m' H' v d → E.rt v H'
  | .ok (.bk ρ) S => ∀ m' H' σ', Tr m H m' H' → EnvR K b m' H' σ' ρ → StoR K b m' H' S → E.bk σ' H'
  | .ok (.ct ρ) S => ∀ m' H' σ', Tr m H m' H' → EnvR K b m' H' σ' ρ → StoR K b m' H' S → E.ct σ' H'
  | .ex e ρ S => ∀ m' H' σ' cls dx, Tr m H m' H' → EnvR K b m' H' σ' ρ → StoR K b m' H' S → ExnR K mg b m' H' e cls dx → W cls dx σ' H'
  | .bad => False
def tS (K : PySem.W.Frag) (mg : Str → Option Value) (W : WX) (f : DS) : TS := fun E σ H => ∃ b m ρ S, EnvR K b m H σ ρ ∧ StoR K b m H S ∧ PostS K mg W b m H E (f ρ S)
def SD (X : Cx) (W : WX) (st : Stmt) (f : DS) : Prop := PS X st (tS X.K X.mg W f)
def BD (X : Cx) (W : WX) (st : List Stmt) (f : DS) : Prop := PSs X st (tS X.K X.mg W f)
theorem PS.imp {X : Cx} {st : Stmt} {t t' : TS} (h : PS X st t) (k : ∀ E σ H, t' E σ H → t E σ H) : PS X st t' := ⟨fun p s σ H E I q => h.run p s σ H E I (k _ _ _ q)⟩
theorem PSs.imp {X : Cx} {st : List Stmt} {t t' : TS} (h : PSs X st t) (k : ∀ E σ H, t' E σ H → t E σ H) : PSs X st t' := ⟨fun p s σ H E I q => h.run p s σ H E I (k _ _ _ q)⟩
section
variable {K : PySem.W.Frag} {mg : Str → Option Value} {W : WX} {b m m' : List Addr} {H H' : Hp} {σ : L2.St} {ρ : Env} {S : Sto}
theorem PostS.tr {E : Ends} {x : OutS} (t : Tr m H m' H') (h : PostS K mg W b m H E x) : PostS K mg W b m' H' E x := by
  cases x with
  | ok f S =>
    cases f with
    | nx ρ => exact fun m2 H2 σ2 t2 e2 s2 => h m2 H2 σ2 (t.trans t2) e2 s2
    | rt d => exact fun m2 H2 v t2 s2 r2 => h m2 H2 v (t.trans t2) s2 r2
    | bk ρ => exact fun m2 H2 σ2 t2 e2 s2 => h m2 H2 σ2 (t.trans t2) e2 s2
    | ct ρ => exact fun m2 H2 σ2 t2 e2 s2 => h m2 H2 σ2 (t.trans t2) e2 s2
  | ex e ρ S => exact fun m2 H2 σ2 c d t2 e2 s2 r2 => h m2 H2 σ2 c d (t.trans t2) e2 s2 r2
  | bad => exact h
theorem PostS.bind {α β : Type} {R : List Addr → List Addr → Hp → β → α → Prop} {x : Out α} {k : α → Sto → OutS} {E : Ends} {Q : β → Hp → Prop} (he : EnvR K b m H σ ρ) (h : PostS K mg W b m H E (sbind x ρ k))
    (q : ∀ a S1 m1 H1 y, x = .ok a S1 → Tr m H m1 H1 → StoR K b m1 H1 S1 → R b m1 H1 y a → EnvR K b m1 H1 σ ρ → PostS K mg W b m1 H1 E (k a S1) → Q y H1) : Post K mg W b m H σ R x Q := by
  cases x with
  | ok a S1 => exact fun m1 H1 y t1 s1 r1 => q a S1 m1 H1 y rfl t1 s1 r1 (he.tr t1) (PostS.tr t1 h)
  | ex e S1 => exact fun m1 H1 c d t1 s1 r1 => h m1 H1 σ c d t1 (he.tr t1) s1 r1
  | bad => exact h
/-- at once -/
theorem PostS.nx {E : Ends} (he : EnvR K b m H σ ρ) (hs : StoR K b m H S) (h : PostS K mg W b m H E (.ok (.nx ρ) S)) : E.nx σ H := h _ _ _ Tr.refl he hs
end
@[simp] def sNil : DS := fun ρ S => .ok (.nx ρ) S
def sSeq (f g : DS) : DS := fun ρ S => match f ρ S with
  | .ok (.nx ρ') S' => g ρ' S'
  | o => o
section
variable {X : Cx} {W : WX} {st : Stmt} {rest : List Stmt} {f g : DS} {e : Expr} {fe : Env → M D} {pos : Pos}
theorem bd_nil : BD X W [] sNil := PSs.imp pss_nil fun E σ H ⟨b, m, ρ, S, he, hs, h⟩ => PostS.nx he hs h
theorem bd_cons (h1 : SD X W st f) (h2 : BD X W rest g) : BD X W (st :: rest) (sSeq f g) := PSs.imp (pss_cons h1 h2) fun E σ H ⟨b, m, ρ, S, he, hs, h⟩ => by
  refine ⟨b, m, ρ, S, he, hs, ?_⟩
  unfold sSeq at h
  cases q : f ρ S with
  | bad => rw [q] at h; exact h
  | ex e ρ' S' => rw [q] at h; exact h
  | ok fl S' =>
    rw [q] at h
    cases fl with
    | nx ρ' => exact fun m1 H1 σ1 t1 e1 s1 => ⟨b, m1, ρ', S', e1, s1, PostS.tr t1 h⟩
    | rt d => exact h
    | bk ρ' => exact h
    | ct ρ' => exact h
theorem bd_one (h1 : SD X W st f) : BD X W [st] f := PSs.imp (pss_one h1) fun E σ H h => h
theorem sd_pass : SD X W (.Pass pos) sNil := PS.imp ps_pass fun E σ H ⟨b, m, ρ, S, he, hs, h⟩ => PostS.nx he hs h
@[simp] def sBreak : DS := fun ρ S => .ok (.bk ρ) S
@[simp] def sCont : DS := fun ρ S => .ok (.ct ρ) S
theorem sd_break : SD X W (.Break pos) sBreak := PS.imp ps_break fun E σ H ⟨b, m, ρ, S, he, hs, h⟩ => h _ _ _ Tr.refl he hs
theorem sd_continue : SD X W (.Continue pos) sCont := PS.imp ps_continue fun E σ H ⟨b, m, ρ, S, he, hs, h⟩ => h _ _ _ Tr.refl he hs
@[simp] def sExpr (fe : Env → M D) : DS := fun ρ S => sbind (fe ρ S) ρ fun _ S' => .ok (.nx ρ) S'
theorem sd_expr (he : PD X W e fe) (hs : swapsWith e none pos.line X.env = pure false := by rfl) : SD X W (.Expr e pos) (sExpr fe) := PS.imp (ps_expr he hs) fun E σ H ⟨b, m, ρ, S, hv, hs, h⟩ =>
  ⟨b, m, ρ, S, hv, hs, PostS.bind hv h fun a S1 m1 H1 y _ t1 s1 r1 v1 h1 => PostS.nx v1 s1 h1⟩
@[simp] def sRet (fe : Env → M D) : DS := fun ρ S => sbind (fe ρ S) ρ fun d S' => .ok (.rt d) S'
theorem sd_ret (he : PD X W e fe) : SD X W (.Return (some e) pos) (sRet fe) := PS.imp (ps_ret he) fun E σ H ⟨b, m, ρ, S, hv, hs, h⟩ =>
  ⟨b, m, ρ, S, hv, hs, PostS.bind hv h fun a S1 m1 H1 y _ t1 s1 r1 v1 h1 => h1 _ _ _ Tr.refl s1 r1⟩
@[simp] def sRetN : DS := fun _ S => .ok (.rt .non) S
theorem sd_retN : SD X W (.Return none pos) sRetN := PS.imp ps_retN fun E σ H ⟨b, m, ρ, S, hv, hs, h⟩ => h _ _ _ Tr.refl hs .non
@[simp] def sIf (t : Env → M Bool) (f g : DS) : DS := fun ρ S => sbind (t ρ S) ρ fun c S' => if c then f ρ S' else g ρ S'
theorem sd_if {c : Expr} {a d : List Stmt} {fc : Env → M Bool} (hc : TD X W c fc) (ha : BD X W a f) (hb : BD X W d g) : SD X W (.If c a d pos) (sIf fc f g) := PS.imp (ps_if hc ha hb) fun E σ H ⟨b, m, ρ, S, hv, hs, h⟩ =>
  ⟨b, m, ρ, S, hv, hs, PostS.bind hv h fun c S1 m1 H1 y _ t1 s1 r1 v1 h1 => by
    obtain rfl : y = c := r1
    cases y with
    | true => exact iteT ⟨b, m1, ρ, S1, v1, s1, h1⟩
    | false => exact iteF ⟨b, m1, ρ, S1, v1, s1, h1⟩⟩
/-! ### targets: names, tuples of them -/
abbrev DG := D → Env → Option Env
abbrev DGs := List D → Env → Option Env
/-- the slots ws may change -/
def Off (ws : List Nat) (σ σ' : L2.St) : Prop := σ'.length = σ.length ∧ ∀ j, j ∉ ws → σ'[j]? = σ[j]?
theorem Off.trans {ws us : List Nat} {σ σ1 σ2 : L2.St} (x : Off ws σ σ1) (y : Off us σ1 σ2) : Off (ws ++ us) σ σ2 := ⟨y.1.trans x.1, fun j h => (y.2 j fun z => h (List.mem_append_right _ z)).trans (x.2 j fun z => h (List.mem_append_left _ z))⟩
def tGt (K : PySem.W.Frag) (ws : List Nat) (g : DG) : TG := fun v σ H Q => ∃ b m ρ d ρ', EnvR K b m H σ ρ ∧ Rep K b m H v d ∧ g d ρ = some ρ' ∧ ∀ σ', EnvR K b m H σ' ρ' → Off ws σ σ' → Q σ' H
def tGts (K : PySem.W.Frag) (ws : List Nat) (g : DGs) : TGs := fun vs σ H Q => ∃ b m ρ ds ρ', EnvR K b m H σ ρ ∧ Reps K b m H vs ds ∧ g ds ρ = some ρ' ∧ ∀ σ', EnvR K b m H σ' ρ' → Off ws σ σ' → Q σ' H
def GD (X : Cx) (e : Expr) (ws : List Nat) (g : DG) : Prop := PG X e (tGt X.K ws g)
def GDs (X : Cx) (es : List Expr) (ws : List Nat) (g : DGs) : Prop := PGs X es (tGts X.K ws g)
theorem PG.imp {X : Cx} {e : Expr} {t t' : TG} (h : PG X e t) (k : ∀ v σ H Q, t' v σ H Q → t v σ H Q) : PG X e t' := ⟨fun p s σ H v u Q I r q => h.run p s σ H v u Q I r (k _ _ _ _ q)⟩
theorem PGs.imp {X : Cx} {e : List Expr} {t t' : TGs} (h : PGs X e t) (k : ∀ v σ H Q, t' v σ H Q → t v σ H Q) : PGs X e t' := ⟨fun p s σ H v u Q I r q => h.run p s σ H v u Q I r (k _ _ _ _ q)⟩
@[simp] def gtName (i : Nat) : DG := fun d ρ => some (ρ.set i (some d))
theorem gd_name (i : Nat) {x : Str} (hN : X.N.Nodup) (hi : X.N[i]? = some x := by rfl) (hx : Loc X.env.scope x := by first | exact Or.inl rfl | exact Or.inr rfl) (hf : X.fn x = true ∨ X.env.scope.names.lookup x = some .local := by first | exact .inl rfl | exact .inr rfl | assumption) : GD X (.Name x pos) [i] (gtName i) :=
  PG.imp (pg_name hN hi hx hf) fun v σ H Q ⟨b, m, ρ, d, ρ', hv, r, e, h⟩ => by
    cases e
    exact h _ (hv.set i r) ⟨by simp, fun j hj => List.getElem?_set_ne (fun z => hj (by simp [z]))⟩
def gtNil : DGs := fun ds ρ => match ds with
  | [] => some ρ
  | _ :: _ => none
def gtCons (g : DG) (h : DGs) : DGs := fun ds ρ => match ds with
  | [] => none
  | d :: r => match g d ρ with
    | some ρ' => h r ρ'
    | none => none
theorem gds_nil : GDs X [] [] gtNil := PGs.imp pgs_nil fun vs σ H Q ⟨b, m, ρ, ds, ρ', hv, r, e, h⟩ => by
  cases r with
  | nil => cases e; exact ⟨rfl, h _ hv ⟨rfl, fun _ _ => rfl⟩⟩
  | cons _ _ => cases e
theorem gds_cons {es : List Expr} {g : DG} {h : DGs} {ws us : List Nat} (h1 : GD X e ws g) (h2 : GDs X es us h) (hs : (assignEach (e :: es) X.env).map (·.2) = assign e X.env :: (assignEach es X.env).map (·.2) := by rfl) : GDs X (e :: es) (ws ++ us) (gtCons g h) :=
  PGs.imp (pgs_cons h1 h2 hs) fun vs σ H Q ⟨b, m, ρ, ds, ρ', hv, r, e, hq⟩ => by
    cases r with
    | nil => cases e
    | @cons v vs' d ds' r rs =>
      have e' : (match g d ρ with
        | some ρ' => h ds' ρ'
        | none => none) = some ρ' := e
      cases q : g d ρ with
      | none => rw [q] at e'; cases e'
      | some ρ1 =>
        rw [q] at e'
        exact ⟨v, vs', rfl, b, m, ρ, d, ρ1, hv, r, q, fun σ1 hv1 o1 => ⟨b, m, ρ1, ds', ρ', hv1, rs, e', fun σ2 hv2 o2 => hq σ2 hv2 (o1.trans o2)⟩⟩
def gtTup (n : Nat) (h : DGs) : DG := fun d ρ => match d with
  | .tup ds => if ds.length = n then h ds ρ else none
  | .ctup ds => if ds.length = n then h ds ρ else none
  | _ => none
theorem gd_tup {es : List Expr} {k : Nat} {h : DGs} {n : Nat} {ws : List Nat} (hc : X.calm = true) (h1 : GDs X es ws h) (hn : (assignEach es X.env).length = n := by rfl) (hst : (assignEach es X.env).findIdx? (·.1) = none := by rfl) : GD X (.Tuple es k pos) ws (gtTup n h) :=
  PG.imp (pg_tup hc h1 hn hst) fun v σ H Q ⟨b, m, ρ, d, ρ', hv, r, e, hq⟩ => by
    cases r with
    | @tup a xs ds hs rs =>
      have e' : (if ds.length = n then h ds ρ else none) = some ρ' := e
      by_cases hl : ds.length = n
      · rw [if_pos hl] at e'
        exact ⟨a, xs, rfl, .inl (.inl hs), by rw [rs.length]; exact hl, b, m, ρ, ds, ρ', hv, rs, e', hq⟩
      · rw [if_neg hl] at e'; cases e'
    | @ctup a xs ds hs rs =>
      have e' : (if ds.length = n then h ds ρ else none) = some ρ' := e
      by_cases hl : ds.length = n
      · rw [if_pos hl] at e'
        exact ⟨a, xs, rfl, hs, by rw [rs.length]; exact hl, b, m, ρ, ds, ρ', hv, rs, e', hq⟩
      · rw [if_neg hl] at e'; cases e'
    | _ => cases e
/-! ### assignments -/
@[simp] def sAsg (fe : Env → M D) (g : DG) : DS := fun ρ S => sbind (fe ρ S) ρ fun d S' => match g d ρ with
  | some ρ' => .ok (.nx ρ') S'
  | none => .bad
theorem asg_den {g : DG} {ws : List Nat} {E : Ends} {σ : L2.St} {H : Hp} {K : PySem.W.Frag} {mg : Str → Option Value} (h : tS K mg W (sAsg fe g) E σ H) : tAsg (tG K mg W (RV K) fe) (tGt K ws g) E σ H := by
  obtain ⟨b, m, ρ, S, hv, hs, h⟩ := h
  refine ⟨b, m, ρ, S, hv, hs, PostS.bind hv h fun d S1 m1 H1 y _ t1 s1 r1 v1 h1 => ?_⟩
  cases q : g d ρ with
  | none => simp only [q] at h1; exact h1.elim
  | some ρ' =>
    simp only [q] at h1
    exact ⟨b, m1, ρ, d, ρ', v1, r1, q, fun σ' hv' _ => PostS.nx hv' s1 h1⟩
theorem sd_asg {tg : Expr} {g : DG} {ws : List Nat} (he : PD X W e fe) (hg : GD X tg ws g) (hs : swapsWithSole [tg] e pos.line X.env = pure false := by rfl) (hw : swappedStores [tg] e X.env = pure none := by rfl)
    (h1 : (assignEach [tg] X.env).map (·.2) = [assign tg X.env] := by rfl) : SD X W (.Assign [tg] e pos) (sAsg fe g) := PS.imp (ps_asg he hg hs hw h1) fun E σ H h => asg_den h
theorem sd_set (i : Nat) {x : Str} {pos' : Pos} (hN : X.N.Nodup) (he : PD X W e fe) (hi : X.N[i]? = some x := by rfl) (hx : Loc X.env.scope x := by first | exact Or.inl rfl | exact Or.inr rfl) (hs : swapsWith e (some (.Name x pos')) pos.line X.env = pure false := by rfl)
    (hf : X.fn x = true ∨ X.env.scope.names.lookup x = some .local := by first | exact .inl rfl | exact .inr rfl | assumption) : SD X W (.Assign [.Name x pos'] e pos) (sAsg fe (gtName i)) :=
  PS.imp (ps_set hN hi hx he hs hf) fun E σ H h => by
    obtain ⟨b, m, ρ, S, hv, hs, h⟩ := asg_den (ws := [i]) h
    exact ⟨b, m, ρ, S, hv, hs, Post.imp h fun y H' ⟨b, m, ρ, d, ρ', hv', r, e, q⟩ => by
      cases e
      exact q _ (hv'.set i r) ⟨by simp, fun j hj => List.getElem?_set_ne (fun z => hj (by simp [z]))⟩⟩
end
end DL
set_option Elab.async false
set_option linter.all false
set_option maxRecDepth 100000
namespace DL
open PySem PySem.Spec PyProof.Rows L2

/-! ### list displays -/
section
variable {X : Cx} {W : WX} {e : Expr} {es : List Expr} {fs : Env → M (List D)} {pos : Pos}
/-- [..], a list that nobody writes to -/
@[simp] def dLst (f : Env → M (List D)) : Env → M D := fun ρ => mbind (f ρ) fun ds => if ds.length ≤ sizeLine then mret (.lst ds) else mbad
theorem pd_lst (h : AD X W es fs) : PD X W (.List es pos) (dLst fs) := PE.imp (pe_lst h) fun σ H Q ⟨b, m, ρ, S, hv, hs, h⟩ => ⟨b, m, ρ, S, hv, hs, Post.then h fun ds S1 m1 H1 xs e1 t1 s1 r1 h1 => by
  split at h1
  · rename_i hz
    exact ⟨by rw [r1.length]; exact hz, fun p hp => h1 _ _ _ (Same.tr (Same.upd hp)) (s1.same (Same.upd hp)) (Rep.newLst s1 hp r1)⟩
  · exact h1.elim⟩
/-- [..], a list that will be written to -/
@[simp] def mnew (ds : List D) : M D := fun S => .ok (.ptr S.length) (S ++ [.lst ds])
@[simp] def dLstP (f : Env → M (List D)) : Env → M D := fun ρ => mbind (f ρ) fun ds => if ds.length ≤ sizeLine then mnew ds else mbad
theorem newPtr {K : PySem.W.Frag} {b m : List Addr} {H : Hp} {S : Sto} {p : Addr} {xs : List V} (hs : StoR K b m H S) : Rep K b (m ++ [p]) (upd H p (.lst xs)) (.ref p) (.ptr S.length) :=
  .ptr (by rw [← hs.len, List.getElem?_append_right (Nat.le_refl _)]; simp)
theorem pd_lstP (h : AD X W es fs) : PD X W (.List es pos) (dLstP fs) := PE.imp (pe_lst h) fun σ H Q ⟨b, m, ρ, S, hv, hs, h⟩ => ⟨b, m, ρ, S, hv, hs, Post.then h fun ds S1 m1 H1 xs e1 t1 s1 r1 h1 => by
  split at h1
  · rename_i hz
    exact ⟨by rw [r1.length]; exact hz, fun p hp => h1 _ _ _ (Tr.new hp) (s1.new hp r1) (newPtr s1)⟩
  · exact h1.elim⟩
end

/-! ### what is walked -/
/-- the heap has grown; the store's lists and those set apart may have changed -/
structure Rch (b m : List Addr) (H : Hp) (m' : List Addr) (H' : Hp) : Prop where
  ext : ∃ l, m' = m ++ l
  fresh : ∀ a ∈ m', a ∉ m → H a = none
  kept : ∀ a o, H a = some o → a ∉ m → a ∉ b → (∀ ps, o ≠ .tbl ps) → H' a = some o
  tups : ∀ a xs, Rd H a (.tup xs) → Rd H' a (.tup xs)
  frzs : ∀ a o u, H a = some (.frz o u) → H' a = some (.frz o u)
  tupH : ∀ a xs, H a = some (.tup xs) → H' a = some (.tup xs)
  there : ∀ a o, H a = some o → a ∉ m → ∃ o', H' a = some o'
theorem Tr.rch {b m m' : List Addr} {H H' : Hp} (t : Tr m H m' H') : Rch b m H m' H' := ⟨t.ext, t.fresh, fun a o h n _ nt => t.kept a o h n nt, t.tups, t.frzs, t.tupH, fun a o h n => t.there a o h n⟩
theorem Rch.keptL {b m m' : List Addr} {H H' : Hp} (t : Rch b m H m' H') {a : Addr} {xs : List V} (h : H a = some (.lst xs)) (n : a ∉ m) (nb : a ∉ b) : H' a = some (.lst xs) := t.kept _ _ h n nb fun _ z => nomatch z
theorem Rch.refl {b m : List Addr} {H : Hp} : Rch b m H m H := Tr.rch Tr.refl
section
variable {K : PySem.W.Frag} {b b' m m' m2 : List Addr} {H H' H2 : Hp}
theorem Rch.sub (x : Rch b m H m' H') : ∀ {a : Addr} {n : Nat}, m[n]? = some a → m'[n]? = some a := fun {a n} h => by
  obtain ⟨l, e⟩ := x.ext
  rw [e]
  obtain ⟨hn, _⟩ := List.getElem?_eq_some_iff.mp h
  rw [List.getElem?_append_left hn]
  exact h
theorem Rch.nmem (x : Rch b m H m' H') {a : Addr} {o : HO} (e : H a = some o) (h : a ∉ m) : a ∉ m' := fun h' => by
  have := x.fresh a h' h
  rw [e] at this
  cases this
theorem Rch.tr (x : Rch b m H m' H') (y : Tr m' H' m2 H2) : Rch b m H m2 H2 where
  ext := by
    obtain ⟨l, e⟩ := x.ext
    obtain ⟨l', e'⟩ := y.ext
    exact ⟨l ++ l', by rw [e', e, List.append_assoc]⟩
  fresh := fun a h n => by
    by_cases h1 : a ∈ m'
    · exact x.fresh a h1 n
    · cases e : H a with
      | none => rfl
      | some o =>
        obtain ⟨o', e'⟩ := x.there a o e n
        have := y.fresh a h h1
        rw [e'] at this
        cases this
  kept := fun a o h n nb nt => y.kept a o (x.kept a o h n nb nt) (x.nmem h n) nt
  tups := fun a xs h => y.tups a xs (x.tups a xs h)
  frzs := fun a o u h => y.frzs a o u (x.frzs a o u h)
  tupH := fun a xs h => y.tupH a xs (x.tupH a xs h)
  there := fun a o h n => by
    obtain ⟨o', e'⟩ := x.there a o h n
    exact y.there a o' e' (x.nmem h n)
theorem Rch.side {p : Addr} {xs ys : List V} (x : Rch b m H m' H') (hb : p ∈ b) (e : H' p = some (.lst xs)) : Rch b m H m' (upd H' p (.lst ys)) where
  ext := x.ext
  fresh := x.fresh
  kept := fun a o h n nb nt => by rw [upd_ne (fun z => nb (by rw [z]; exact hb))]; exact x.kept a o h n nb nt
  tups := fun a zs h => by
    have h' := x.tups a zs h
    have hn : a ≠ p := fun z => by
      subst z
      rcases h' with h' | ⟨u, h'⟩ <;> rw [e] at h' <;> cases h'
    rcases h' with h' | ⟨u, h'⟩
    · exact .inl (by rw [upd_ne hn]; exact h')
    · exact .inr ⟨u, by rw [upd_ne hn]; exact h'⟩
  frzs := fun a o u h => by
    have h' := x.frzs a o u h
    rw [upd_ne (fun z => by subst z; rw [e] at h'; cases h')]
    exact h'
  tupH := fun a zs h => by
    have h' := x.tupH a zs h
    rw [upd_ne (fun z => by subst z; rw [e] at h'; cases h')]
    exact h'
  there := fun a o h n => by
    by_cases z : a = p
    · exact ⟨_, by rw [z, upd_same]⟩
    · rw [upd_ne z]; exact x.there a o h n
theorem SqT.rch (t : Rch b m H m' H') {a : Addr} {xs : List V} (h : SqT K H a xs) : SqT K H' a xs := by
  rcases h with h | h
  · exact .inl (t.tups a xs h)
  · exact .inr h
theorem SqF.rch (t : Rch b m H m' H') {a : Addr} {xs : List V} (h : SqF K H a xs) : SqF K H' a xs := by
  rcases h with ⟨o, h⟩ | h
  · exact .inl ⟨o, t.frzs a o _ h⟩
  · exact .inr h
mutual
theorem Rep.rch (t : Rch b m H m' H') (hb : Bn b H b') : ∀ {d : D} {v : V}, Rep K b m H v d → Rep K b' m' H' v d
  | _, _, .non => .non
  | _, _, .bl x => .bl x
  | _, _, .int i => .int i
  | _, _, .str x => .str x
  | _, _, .ty n => .ty n
  | _, _, .tup h r => .tup (t.tupH _ _ h) (Reps.rch t hb r)
  | _, _, .ctup h r => .ctup (SqT.rch t h) (Reps.rch t hb r)
  | _, _, .lst h n nb r => .lst (t.keptL h n nb) (t.nmem h n) (fun z => by
      rcases hb _ z with z | z
      · exact nb z
      · rw [z] at h; cases h) (Reps.rch t hb r)
  | _, _, .dct h hl n nb r => .dct (h.imp fun o z nt => t.kept _ _ z n nb nt) hl (let ⟨_, z⟩ := h.ex; t.nmem z n) (fun z => by
      rcases hb _ z with z | z
      · exact nb z
      · obtain ⟨_, y⟩ := h.ex; rw [z] at y; cases y) (Reps.rch t hb r)
  | _, _, .flst h r => .flst (SqF.rch t h) (Reps.rch t hb r)
  | _, _, .ptr h => .ptr (t.sub h)
  | _, _, .obj a => .obj a
theorem Reps.rch (t : Rch b m H m' H') (hb : Bn b H b') : ∀ {ds : List D} {vs : List V}, Reps K b m H vs ds → Reps K b' m' H' vs ds
  | _, _, .nil => .nil
  | _, _, .cons r rs => .cons (Rep.rch t hb r) (Reps.rch t hb rs)
end
end
def RIt (K : PySem.W.Frag) : List Addr → List Addr → Hp → It → List D → Prop := fun b m H J items => ∀ b' m' H', Rch b m H m' H' → Bn b H b' →
  (∀ i d, items[i]? = some d → J.go i H' ∧ ∀ x H'', J.yld i H' x H'' → Same H' H'' ∧ Rep K b' m' H'' x d) ∧ J.stop items.length H'
def ID (X : Cx) (W : WX) (tg it : Expr) (f : Env → M (List D)) : Prop := PI X tg it (tG X.K X.mg W (RIt X.K) f)
theorem PI.imp {X : Cx} {tg e : Expr} {t t' : TI} (h : PI X tg e t) (k : ∀ σ H Q, t' σ H Q → t σ H Q) : PI X tg e t' := ⟨fun p s σ H Q I q => h.run p s σ H Q I (k _ _ _ q)⟩
section
variable {X : Cx} {W : WX} {tg e e2 : Expr} {fe fe2 : Env → M D} {pos p : Pos}
/-- a list that stays as it is -/
def frzL : D → Option (List D)
  | .lst ds => some ds
  | .flst ds => some ds
  | _ => none
@[simp] def iLst (f : Env → M D) : Env → M (List D) := fun ρ => mbind (f ρ) fun d => mopt (frzL d)
@[simp] def iTupD (f : Env → M D) : Env → M (List D) := fun ρ => mbind (f ρ) fun d => mopt (seqT d)
theorem frzL_rep {K : PySem.W.Frag} {b m : List Addr} {H : Hp} {v : V} {d : D} {ds : List D} (r : Rep K b m H v d) (e : frzL d = some ds) : ∃ a xs, v = .ref a ∧ Reps K b m H xs ds ∧ ∀ m' H', Rch b m H m' H' → SqL K H' a xs := by
  cases r with
  | lst h1 h2 h3 h4 => cases e; exact ⟨_, _, rfl, h4, fun m' H' t => SqL.of (t.keptL h1 h2 h3)⟩
  | flst h1 h2 => cases e; exact ⟨_, _, rfl, h2, fun m' H' t => (SqF.rch t h1).l⟩
  | _ => cases e
theorem id_lst (h : PD X W e fe) : ID X W tg e (iLst fe) := PI.imp (pi_list h) fun σ H Q ⟨b, m, ρ, S, hv, hs, h⟩ => ⟨b, m, ρ, S, hv, hs, Post.then h fun d S1 m1 H1 x e1 t1 s1 r1 h1 => by
  cases q : frzL d with
  | none => simp only [q] at h1; exact h1.elim
  | some ds =>
    simp only [q] at h1
    obtain ⟨a, xs, rfl, rs, st⟩ := frzL_rep r1 q
    refine ⟨a, rfl, ⟨xs, st _ _ Rch.refl⟩, h1 _ _ _ Tr.refl s1 fun b' m' H' t hb => ⟨fun i d hi => ?_, ?_⟩⟩
    · obtain ⟨v, hx, rv⟩ := rs.get hi
      exact ⟨⟨xs, v, st _ _ t, hx⟩, fun x H'' ⟨eh, hy⟩ => by
        subst eh
        have := hy xs (st _ _ t)
        rw [hx] at this
        cases this
        exact ⟨Same.refl _, rv.rch t hb⟩⟩
    · exact ⟨xs, st _ _ t, by rw [rs.length]; exact Nat.le_refl _⟩⟩
theorem id_tup (h : PD X W e fe) : ID X W tg e (iTupD fe) := PI.imp (pi_tup h) fun σ H Q ⟨b, m, ρ, S, hv, hs, h⟩ => ⟨b, m, ρ, S, hv, hs, Post.then h fun d S1 m1 H1 x e1 t1 s1 r1 h1 => by
  cases q : seqT d with
  | none => simp only [q] at h1; exact h1.elim
  | some ds =>
    simp only [q] at h1
    obtain ⟨a, xs, rfl, ht, rs⟩ := seqT_rep r1 q
    refine ⟨a, rfl, ⟨xs, ht⟩, h1 _ _ _ Tr.refl s1 fun b' m' H' t hb => ⟨fun i d hi => ?_, ?_⟩⟩
    · obtain ⟨v, hx, rv⟩ := rs.get hi
      exact ⟨⟨xs, v, SqT.rch t ht, hx⟩, fun x H'' ⟨eh, hy⟩ => by
        subst eh
        have := hy xs (SqT.rch t ht)
        rw [hx] at this
        cases this
        exact ⟨Same.refl _, rv.rch t hb⟩⟩
    · exact ⟨xs, SqT.rch t ht, by rw [rs.length]; exact Nat.le_refl _⟩⟩
def rangeD (lo : Int) (n : Nat) : List D := (List.range n).map fun i => .int (lo + (i : Nat))
theorem rangeD_get {lo : Int} {n i : Nat} {d : D} (h : (rangeD lo n)[i]? = some d) : i < n ∧ d = .int (lo + i) := by
  unfold rangeD at h
  rw [List.getElem?_map] at h
  cases e : (List.range n)[i]? with
  | none => rw [e] at h; cases h
  | some j =>
    rw [e] at h
    cases h
    obtain ⟨h1, h2⟩ := List.getElem?_eq_some_iff.mp e
    rw [List.length_range] at h1
    rw [List.getElem_range] at h2
    subst h2
    exact ⟨h1, rfl⟩
theorem rit_range {K : PySem.W.Frag} {b m : List Addr} {H : Hp} (lo : Int) (n : Nat) : RIt K b m H (Itr lo n) (rangeD lo n) := fun b' m' H' t hb => ⟨fun i d hi => by
  obtain ⟨h1, rfl⟩ := rangeD_get hi
  exact ⟨h1, fun x H'' ⟨eh, ex⟩ => by subst eh ex; exact ⟨Same.refl _, .int _⟩⟩, by show n ≤ _; unfold rangeD; simp⟩
def rng1 : List D → Option (List D)
  | [.int j] => if -(2 ^ 62) ≤ j ∧ j < 2 ^ 62 then some (rangeD 0 j.toNat) else none
  | _ => none
def rng2 : List D → Option (List D)
  | [.int i, .int j] => if -(2 ^ 62) ≤ i ∧ i < 2 ^ 62 ∧ -(2 ^ 62) ≤ j ∧ j < 2 ^ 62 then some (rangeD i (j - i).toNat) else none
  | _ => none
@[simp] def iArgs (k : List D → Option (List D)) (f : Env → M (List D)) : Env → M (List D) := fun ρ => mbind (f ρ) fun ds => mopt (k ds)
variable {fs : Env → M (List D)}
theorem id_range1 (hg : Gl X "range") (hm : X.mg "range" = none) (ha : AD X W [e] fs) (hs : starEach [e] X.env = [(false, eval e X.env)] := by rfl) : ID X W tg (.Call (.Name "range" p) [e] [] pos) (iArgs rng1 fs) :=
  PI.imp (pi_range1 hg hm ha hs) fun σ H Q ⟨b, m, ρ, S, hv, hs, h⟩ => ⟨b, m, ρ, S, hv, hs, Post.then h fun ds S1 m1 H1 xs e1 t1 s1 r1 h1 => by
    cases q : rng1 ds with
    | none => simp only [q] at h1; exact h1.elim
    | some ds' =>
      simp only [q] at h1
      unfold rng1 at q
      split at q
      · rename_i j
        split at q
        · rename_i hz
          cases q
          obtain ⟨v, rfl, rv⟩ := r1.one
          cases rv
          exact ⟨j, rfl, hz.1, hz.2, h1 _ _ _ Tr.refl s1 (rit_range 0 _)⟩
        · cases q
      · cases q⟩
theorem id_range2 (hg : Gl X "range") (hm : X.mg "range" = none) (ha : AD X W [e, e2] fs) (hs : starEach [e, e2] X.env = [(false, eval e X.env), (false, eval e2 X.env)] := by rfl) (hs2 : starEach [e2] X.env = [(false, eval e2 X.env)] := by rfl) : ID X W tg (.Call (.Name "range" p) [e, e2] [] pos) (iArgs rng2 fs) :=
  PI.imp (pi_range2 hg hm ha hs hs2) fun σ H Q ⟨b, m, ρ, S, hv, hs, h⟩ => ⟨b, m, ρ, S, hv, hs, Post.then h fun ds S1 m1 H1 xs e1 t1 s1 r1 h1 => by
    cases q : rng2 ds with
    | none => simp only [q] at h1; exact h1.elim
    | some ds' =>
      simp only [q] at h1
      unfold rng2 at q
      split at q
      · rename_i i j
        split at q
        · rename_i hz
          cases q
          obtain ⟨v, v', rfl, rv, rv'⟩ := r1.two
          cases rv; cases rv'
          exact ⟨i, j, rfl, hz, h1 _ _ _ Tr.refl s1 (rit_range i _)⟩
        · cases q
      · cases q⟩
end
/-! ### for -/
def sLoop (g : DG) (f : DS) : List D → DS
  | [], ρ, S => .ok (.nx ρ) S
  | d :: r, ρ, S => match g d ρ with
    | none => .bad
    | some ρ1 => match f ρ1 S with
      | .ok (.nx ρ2) S2 => sLoop g f r ρ2 S2
      | .ok (.ct ρ2) S2 => sLoop g f r ρ2 S2
      | .ok (.bk ρ2) S2 => .ok (.nx ρ2) S2
      | o => o
@[simp] def sFor (fi : Env → M (List D)) (g : DG) (f : DS) : DS := fun ρ S => sbind (fi ρ S) ρ fun ds S' => sLoop g f ds ρ S'
section
variable {X : Cx} {W : WX} {tg it : Expr} {body : List Stmt} {fi : Env → M (List D)} {g : DG} {ws : List Nat} {f : DS} {pos : Pos}
theorem sd_for (hp : PassesOwn (model X.prog X.w) X.A X.env X.xe) (hc : X.calm = true) (hi : ID X W tg it fi) (hg : GD X tg ws g) (hb : BD X W body f) (hs : ∀ x, foldedSetIterable it X.env x = pure x := by intro _; rfl) : SD X W (.For tg it body [] pos) (sFor fi g f) :=
  PS.imp (ps_for hp hc hi hg hb hs) fun E σ H ⟨b, m, ρ, S, hv, hs, h⟩ => ⟨b, m, ρ, S, hv, hs, PostS.bind hv h fun ds S1 m1 H1 J _ t1 s1 r1 v1 h1 => by
    refine ⟨fun i n σ H => n = ds.length - i ∧ i ≤ ds.length ∧ ∃ m' ρ S, Tr m1 H1 m' H ∧ EnvR X.K b m' H σ ρ ∧ StoR X.K b m' H S ∧ PostS X.K X.mg W b m' H E (sLoop g f (ds.drop i) ρ S),
      ⟨ds.length, rfl, Nat.zero_le _, m1, ρ, S1, Tr.refl, v1, s1, h1⟩, ?_⟩
    rintro i n σ2 H2 ⟨rfl, hil, m2, ρ2, S2, t2, v2, s2, h2⟩
    obtain ⟨rgo, rstop⟩ := r1 b m2 H2 t2.rch Bn.refl
    by_cases hlt : i < ds.length
    · obtain ⟨go, yld⟩ := rgo i ds[i] (List.getElem?_eq_getElem hlt)
      rw [List.drop_eq_getElem_cons hlt] at h2
      unfold sLoop at h2
      cases q : g ds[i] ρ2 with
      | none => simp only [q] at h2; exact h2.elim
      | some ρ3 =>
        simp only [q] at h2
        refine .inr ⟨go, fun σ' H' => ∃ m' ρ S, Tr m1 H1 m' H' ∧ EnvR X.K b m' H' σ' ρ ∧ StoR X.K b m' H' S ∧ PostS X.K X.mg W b m' H' E (sLoop g f (ds.drop (i + 1)) ρ S), fun σ' H' ⟨m3, ρ', S', t3, v3, s3, h3⟩ => ⟨ds.length - (i + 1), by omega, rfl, hlt, m3, ρ', S', t3, v3, s3, h3⟩, fun x H3 hy => ?_⟩
        obtain ⟨sm, rx⟩ := yld x H3 hy
        have t3 : Tr m2 H2 m2 H3 := Same.tr sm
        refine ⟨b, m2, ρ2, ds[i], ρ3, v2.tr t3, rx, q, fun σ4 v4 _ => ⟨b, m2, ρ3, S2, v4, s2.same sm, ?_⟩⟩
        have h2' := PostS.tr t3 h2
        cases q2 : f ρ3 S2 with
        | bad => simp only [q2] at h2'; exact h2'.elim
        | ex e ρ5 S5 => simp only [q2] at h2'; exact h2'
        | ok fl S5 =>
          cases fl with
          | nx ρ5 => simp only [q2] at h2'; exact fun m6 H6 σ6 t6 v6 s6 => ⟨m6, ρ5, S5, (t2.trans t3).trans t6, v6, s6, PostS.tr t6 h2'⟩
          | ct ρ5 => simp only [q2] at h2'; exact fun m6 H6 σ6 t6 v6 s6 => ⟨m6, ρ5, S5, (t2.trans t3).trans t6, v6, s6, PostS.tr t6 h2'⟩
          | bk ρ5 => simp only [q2] at h2'; exact h2'
          | rt d => simp only [q2] at h2'; exact h2'
    · have e : i = ds.length := by omega
      subst e
      rw [List.drop_length] at h2
      exact .inl ⟨rstop, PostS.nx v2 s2 h2⟩⟩
/-! ### while: by fuel -/
def sWh (c : Env → M Bool) (f : DS) : Nat → DS
  | 0, _, _ => .bad
  | n + 1, ρ, S => sbind (c ρ S) ρ fun k S1 => if k then match f ρ S1 with
      | .ok (.nx ρ2) S2 => sWh c f n ρ2 S2
      | .ok (.ct ρ2) S2 => sWh c f n ρ2 S2
      | .ok (.bk ρ2) S2 => .ok (.nx ρ2) S2
      | o => o
    else .ok (.nx ρ) S1
theorem sd_while {c : Expr} {fc : Env → M Bool} (n : Nat) (hp : PassesOwn (model X.prog X.w) X.A X.env X.xe) (hc : TD X W c fc) (hb : BD X W body f) : SD X W (.While c body [] pos) (sWh fc f n) :=
  PS.imp (ps_while hp hc hb) fun E σ H ⟨b, m, ρ, S, hv, hs, h⟩ => by
    refine ⟨fun k σ H => ∃ m' ρ S, EnvR X.K b m' H σ ρ ∧ StoR X.K b m' H S ∧ PostS X.K X.mg W b m' H E (sWh fc f k ρ S), ⟨n, m, ρ, S, hv, hs, h⟩, ?_⟩
    rintro k σ2 H2 ⟨m2, ρ2, S2, v2, s2, h2⟩
    cases k with
    | zero => exact h2.elim
    | succ k =>
      unfold sWh at h2
      refine ⟨b, m2, ρ2, S2, v2, s2, PostS.bind v2 h2 fun c S3 m3 H3 y _ t3 s3 r3 v3 h3 => ?_⟩
      obtain rfl : y = c := r3
      cases y with
      | false => exact iteF (PostS.nx v3 s3 h3)
      | true =>
        refine iteT ⟨fun σ' H' => ∃ m' ρ S, EnvR X.K b m' H' σ' ρ ∧ StoR X.K b m' H' S ∧ PostS X.K X.mg W b m' H' E (sWh fc f k ρ S), fun σ' H' h' => ⟨k, Nat.lt_succ_self _, h'⟩, b, m3, ρ2, S3, v3, s3, ?_⟩
        have h3' : PostS X.K X.mg W b m3 H3 E (match f ρ2 S3 with
          | .ok (.nx ρ2) S2 => sWh fc f k ρ2 S2
          | .ok (.ct ρ2) S2 => sWh fc f k ρ2 S2
          | .ok (.bk ρ2) S2 => .ok (.nx ρ2) S2
          | o => o) := h3
        cases q2 : f ρ2 S3 with
        | bad => simp only [q2] at h3'; exact h3'.elim
        | ex e ρ5 S5 => simp only [q2] at h3'; exact h3'
        | ok fl S5 =>
          cases fl with
          | nx ρ5 => simp only [q2] at h3'; exact fun m6 H6 σ6 t6 v6 s6 => ⟨m6, ρ5, S5, v6, s6, PostS.tr t6 h3'⟩
          | ct ρ5 => simp only [q2] at h3'; exact fun m6 H6 σ6 t6 v6 s6 => ⟨m6, ρ5, S5, v6, s6, PostS.tr t6 h3'⟩
          | bk ρ5 => simp only [q2] at h3'; exact h3'
          | rt d => simp only [q2] at h3'; exact h3'
end
end DL
set_option Elab.async false
set_option linter.all false
set_option maxRecDepth 100000
namespace DL
open PySem PySem.Spec PyProof.Rows L2

/-! ### a list that grows aside -/
section
variable {K : PySem.W.Frag} {b m m' : List Addr} {H H' : Hp} {p : Addr}
theorem Tr.side {o : HO} (t : Tr m H m' H') (hp : H p = none) : Tr m H m' (upd H' p o) where
  ext := t.ext
  fresh := t.fresh
  kept := fun a u h n nt => by rw [upd_ne (ne_of_none h hp)]; exact t.kept a u h n nt
  there := fun a u h n => by rw [upd_ne (ne_of_none h hp)]; exact t.there a u h n
  tups := fun a xs h => by
    have hn : a ≠ p := fun z => by
      subst z
      rcases h with h | ⟨u, h⟩ <;> rw [hp] at h <;> cases h
    rcases t.tups a xs h with h | ⟨u, h⟩
    · exact .inl (by rw [upd_ne hn]; exact h)
    · exact .inr ⟨u, by rw [upd_ne hn]; exact h⟩
  frzs := fun a u w h => by rw [upd_ne (ne_of_none h hp)]; exact t.frzs a u w h
  tupH := fun a xs h => by rw [upd_ne (ne_of_none h hp)]; exact t.tupH a xs h
theorem SqT.side {xs ys : List V} {a : Addr} {zs : List V} (e : H p = some (.lst xs)) (h : SqT K H a zs) : SqT K (upd H p (.lst ys)) a zs := by
  rcases h with h | h
  · have hn : a ≠ p := fun z => by
      subst z
      rcases h with h | ⟨u, h⟩ <;> rw [e] at h <;> cases h
    rcases h with h | ⟨u, h⟩
    · exact .inl (.inl (by rw [upd_ne hn]; exact h))
    · exact .inl (.inr ⟨u, by rw [upd_ne hn]; exact h⟩)
  · exact .inr h
theorem SqF.side {xs ys : List V} {a : Addr} {zs : List V} (e : H p = some (.lst xs)) (h : SqF K H a zs) : SqF K (upd H p (.lst ys)) a zs := by
  rcases h with ⟨o, h⟩ | h
  · exact .inl ⟨o, by rw [upd_ne (fun z => by subst z; rw [e] at h; cases h)]; exact h⟩
  · exact .inr h
mutual
theorem Rep.side {xs ys : List V} (e : H p = some (.lst xs)) (hb : p ∈ b) : ∀ {d : D} {v : V}, Rep K b m H v d → Rep K b m (upd H p (.lst ys)) v d
  | _, _, .non => .non
  | _, _, .bl x => .bl x
  | _, _, .int i => .int i
  | _, _, .str x => .str x
  | _, _, .ty n => .ty n
  | _, _, .tup h r => .tup (by rw [upd_ne (fun z => by rw [z, e] at h; cases h)]; exact h) (Reps.side e hb r)
  | _, _, .ctup h r => .ctup (SqT.side e h) (Reps.side e hb r)
  | _, _, .lst h n nb r => .lst (by rw [upd_ne (fun z => nb (by rw [z]; exact hb))]; exact h) n nb (Reps.side e hb r)
  | _, _, .dct h hl n nb r => .dct (h.imp fun o y _ => by rw [upd_ne (fun z => nb (by rw [z]; exact hb))]; exact y) hl n nb (Reps.side e hb r)
  | _, _, .flst h r => .flst (SqF.side e h) (Reps.side e hb r)
  | _, _, .ptr h => .ptr h
  | _, _, .obj a => .obj a
theorem Reps.side {xs ys : List V} (e : H p = some (.lst xs)) (hb : p ∈ b) : ∀ {ds : List D} {vs : List V}, Reps K b m H vs ds → Reps K b m (upd H p (.lst ys)) vs ds
  | _, _, .nil => .nil
  | _, _, .cons r rs => .cons (Rep.side e hb r) (Reps.side e hb rs)
end
theorem StoR.side {S : Sto} {xs ys : List V} (h : StoR K b m H S) (e : H p = some (.lst xs)) (hb : p ∈ b) : StoR K b m (upd H p (.lst ys)) S := by
  have hpm : p ∉ m := (h.ban p hb).1
  refine ⟨h.len, h.nd, fun n a c e1 e2 => ?_, fun a ha => ?_, h.tabs.upd fun u z => by rw [e] at z; cases z; exact ⟨rfl, fun _ z => nomatch z⟩⟩
  · have := h.cell n a c e1 e2
    cases c with
    | lst ds =>
      obtain ⟨zs, h1, h2⟩ := this
      exact ⟨zs, by rw [upd_ne (fun z => hpm (by rw [← z]; exact List.mem_of_getElem? e1))]; exact h1, h2.side e hb⟩
    | dct l u ds =>
      obtain ⟨zs, h1, hl, h2⟩ := this
      exact ⟨zs, h1.imp fun o y _ => by rw [upd_ne (fun z => hpm (by rw [← z]; exact List.mem_of_getElem? e1))]; exact y, hl, h2.side e hb⟩
  · obtain ⟨h1, o, h2⟩ := h.ban a ha
    refine ⟨h1, ?_⟩
    by_cases z : a = p
    · exact ⟨_, by rw [z, upd_same]⟩
    · exact ⟨o, by rw [upd_ne z]; exact h2⟩
theorem EnvR.side {σ : L2.St} {ρ : Env} {xs ys : List V} (h : EnvR K b m H σ ρ) (e : H p = some (.lst xs)) (hb : p ∈ b) : EnvR K b m (upd H p (.lst ys)) σ ρ :=
  ⟨h.1, fun i d h1 => let ⟨v, h2, h3⟩ := h.2 i d h1; ⟨v, h2, h3.side e hb⟩⟩
/-- a new list set apart -/
theorem StoR.apart {S : Sto} (h : StoR K b m H S) (hp : H p = none) {xs : List V} : StoR K (p :: b) m (upd H p (.lst xs)) S := by
  have s := Same.upd (o := .lst xs) hp
  refine ⟨h.len, h.nd, fun n a c e1 e2 => ?_, fun a ha => ?_, h.tabs.same s⟩
  · have := h.cell n a c e1 e2
    cases c with
    | lst ds =>
      obtain ⟨zs, h1, h2⟩ := this
      exact ⟨zs, s.old _ _ h1, h2.trb (Same.tr s) (Bn.cons hp)⟩
    | dct l u ds =>
      obtain ⟨zs, h1, hl, h2⟩ := this
      exact ⟨zs, h1.imp fun o y _ => s.old _ _ y, hl, h2.trb (Same.tr s) (Bn.cons hp)⟩
  · rcases List.mem_cons.mp ha with z | ha
    · rw [z]; exact ⟨h.nmem hp, _, upd_same⟩
    · obtain ⟨h1, o, h2⟩ := h.ban a ha
      exact ⟨h1, o, s.old _ _ h2⟩
theorem EnvR.apart {σ : L2.St} {ρ : Env} (h : EnvR K b m H σ ρ) (hp : H p = none) {xs : List V} : EnvR K (p :: b) m (upd H p (.lst xs)) σ ρ :=
  ⟨h.1, fun i d h1 => let ⟨v, h2, h3⟩ := h.2 i d h1; ⟨v, h2, h3.trb (Same.tr (Same.upd hp)) (Bn.cons hp)⟩⟩
theorem StoR.unapart {S : Sto} (h : StoR K (p :: b) m H S) : StoR K b m H S :=
  ⟨h.len, h.nd, fun n a c e1 e2 => by
    have := h.cell n a c e1 e2
    cases c with
    | lst ds =>
      obtain ⟨zs, h1, h2⟩ := this
      exact ⟨zs, h1, h2.trb Tr.refl fun a ha => .inl (List.mem_cons_of_mem _ ha)⟩
    | dct l u ds =>
      obtain ⟨zs, h1, hl, h2⟩ := this
      exact ⟨zs, h1, hl, h2.trb Tr.refl fun a ha => .inl (List.mem_cons_of_mem _ ha)⟩, fun a ha => h.ban a (List.mem_cons_of_mem _ ha), h.tabs⟩
theorem Reps.unapart {vs : List V} {ds : List D} (h : Reps K (p :: b) m H vs ds) : Reps K b m H vs ds := h.trb Tr.refl fun a ha => .inl (List.mem_cons_of_mem _ ha)
end
/-! ### slots that a comprehension has for itself -/
def dwipe (ρ : Env) : List Nat → Env
  | [] => ρ
  | v :: vs => (dwipe ρ vs).set v none
theorem wipe_get (σ : L2.St) : ∀ (vs : List Nat) (i : Nat), (wipe σ vs)[i]? = if i ∈ vs then (if i < σ.length then some none else none) else σ[i]?
  | [], i => by simp [wipe]
  | v :: vs, i => by
    unfold wipe
    by_cases h : v = i
    · subst h
      rw [List.getElem?_set]
      simp only [if_true, wipe_length, List.mem_cons, true_or]
    · rw [List.getElem?_set_ne h, wipe_get σ vs i]
      have : (i ∈ v :: vs) ↔ i ∈ vs := by simp [Ne.symm h]
      simp only [this]
theorem wipe_eq {σ σ' : L2.St} {vs : List Nat} (o : Off vs σ σ') : wipe σ' vs = wipe σ vs := by
  refine List.ext_getElem? fun i => ?_
  rw [wipe_get, wipe_get, o.1]
  by_cases h : i ∈ vs
  · rw [if_pos h, if_pos h]
  · rw [if_neg h, if_neg h, o.2 i h]
theorem wipe_wipe (σ : L2.St) (vs : List Nat) : wipe (wipe σ vs) vs = wipe σ vs := wipe_eq ⟨wipe_length σ vs, fun j h => by rw [wipe_get, if_neg h]⟩
theorem dwipe_get (ρ : Env) : ∀ (vs : List Nat) (i : Nat) (d : D), (dwipe ρ vs)[i]? = some (some d) → i ∉ vs ∧ ρ[i]? = some (some d)
  | [], i, d, h => ⟨by simp, h⟩
  | v :: vs, i, d, h => by
    unfold dwipe at h
    by_cases e : v = i
    · subst e
      rw [List.getElem?_set] at h
      simp only [if_true] at h
      split at h <;> cases h
    · rw [List.getElem?_set_ne e] at h
      obtain ⟨h1, h2⟩ := dwipe_get ρ vs i d h
      exact ⟨by simp [Ne.symm e, h1], h2⟩
theorem dwipe_length (ρ : Env) : ∀ vs : List Nat, (dwipe ρ vs).length = ρ.length
  | [] => rfl
  | v :: vs => by unfold dwipe; rw [List.length_set, dwipe_length ρ vs]
theorem EnvR.wipe {K : PySem.W.Frag} {b m : List Addr} {H : Hp} {σ : L2.St} {ρ : Env} (h : EnvR K b m H σ ρ) (vs : List Nat) : EnvR K b m H (wipe σ vs) (dwipe ρ vs) :=
  ⟨by rw [wipe_length, dwipe_length]; exact h.1, fun i d e => by
    obtain ⟨h1, h2⟩ := dwipe_get ρ vs i d e
    obtain ⟨v, h3, h4⟩ := h.2 i d h2
    exact ⟨v, by rw [wipe_get, if_neg h1]; exact h3, h4⟩⟩
/-! ### list comprehensions -/
def nox {α : Type} (f : M α) : M α := fun S => match f S with
  | .ok a S' => .ok a S'
  | _ => .bad
def WF : WX := fun _ _ _ _ => False
def compL (g : DG) (t : Env → M Bool) (e : Env → M D) (ρ : Env) : List D → M (List D)
  | [] => mret []
  | d :: r => match g d ρ with
    | none => mbad
    | some ρ1 => mbind (nox (t ρ1)) fun c => if c then mbind (nox (e ρ1)) fun y => mbind (compL g t e ρ r) fun ys => mret (y :: ys) else compL g t e ρ r
@[simp] def dComp (fi : Env → M (List D)) (g : DG) (t : Env → M Bool) (e : Env → M D) (vs : List Nat) : Env → M D := fun ρ => mbind (fi ρ) fun items =>
  if items.length ≤ sizeLine then mbind (compL g t e (dwipe ρ vs) items) fun ds => mret (.lst ds) else mbad
@[simp] def dYes : Env → M Bool := fun _ => mret true
def TsD (X : Cx) (W : WX) (es : List Expr) (f : Env → M Bool) : Prop := PTs X es (tG X.K X.mg W ReqB f)
theorem tsd_nil {X : Cx} {W : WX} : TsD X W [] dYes := ⟨fun pins s σ H Q I ⟨b, m, ρ, S, he, hs, h⟩ => pts_nil.run pins s σ H Q I (h _ _ _ Tr.refl hs rfl)⟩
theorem tsd_one {X : Cx} {W : WX} {c : Expr} {f : Env → M Bool} (h : TD X W c f) : TsD X W [c] f := pts_one h
section
variable {X : Cx} {W : WX} {elt tg iter : Expr} {ifs : List Expr} {scope : Scope} {own : List (Str × Nat)} {pos : Pos} {fi : Env → M (List D)} {g : DG} {ws : List Nat} {ft : Env → M Bool} {fe : Env → M D}
theorem lc_den {K : PySem.W.Frag} {mg : Str → Option Value} {vs : List Nat} (hw : ∀ i ∈ ws, i ∈ vs) {σ : L2.St} {H : Hp} {Q : VK} (h : tG K mg W (RV K) (dComp fi g ft fe vs) σ H Q) :
    tLc (tG K mg W (RIt K) fi) (tGt K ws g) (tG K mg WF ReqB ft) (tG K mg WF (RV K) fe) vs σ H Q := by
  obtain ⟨b, m, ρ, S, hv, hs, h⟩ := h
  refine ⟨b, m, ρ, S, hv, hs, Post.then h fun items S1 m1 H1 J e1 t1 s1 r1 h1 => ?_⟩
  intro Dd hDd
  by_cases hz : items.length ≤ sizeLine
  · rw [if_pos hz] at h1
    have v1 := hv.tr t1
    refine ⟨fun i n H => n = items.length - i ∧ i ≤ items.length ∧ ∃ m' S accV accD, Tr m1 H1 m' H ∧ EnvR K (Dd :: b) m' H (wipe σ vs) (dwipe ρ vs) ∧ StoR K (Dd :: b) m' H S ∧ H Dd = some (.lst accV) ∧ Reps K (Dd :: b) m' H accV accD ∧ accD.length ≤ i ∧
        Post K mg W b m1 H1 σ (RV K) ((compL g ft fe (dwipe ρ vs) (items.drop i) S).then fun ys => mret (.lst (accD ++ ys))) Q,
      ⟨items.length, rfl, Nat.zero_le _, m1, S1, [], [], (Tr.refl).side hDd, (v1.wipe vs).apart hDd, s1.apart hDd, upd_same, .nil, Nat.le_refl _, h1⟩, ?_⟩
    rintro i n H2 ⟨rfl, hil, m2, S2, accV, accD, t2, v2, s2, eD, ra, hal, h2⟩
    have bn : Bn b H1 (Dd :: b) := Bn.cons hDd
    obtain ⟨rgo, rstop⟩ := r1 (Dd :: b) m2 H2 t2.rch bn
    by_cases hlt : i < items.length
    · obtain ⟨go, yld⟩ := rgo i items[i] (List.getElem?_eq_getElem hlt)
      rw [List.drop_eq_getElem_cons hlt] at h2
      unfold compL at h2
      cases q : g items[i] (dwipe ρ vs) with
      | none => simp only [q] at h2; exact h2.elim
      | some ρ3 =>
        simp only [q] at h2
        refine .inr ⟨go, fun H' => ∃ m' S accV accD, Tr m1 H1 m' H' ∧ EnvR K (Dd :: b) m' H' (wipe σ vs) (dwipe ρ vs) ∧ StoR K (Dd :: b) m' H' S ∧ H' Dd = some (.lst accV) ∧ Reps K (Dd :: b) m' H' accV accD ∧ accD.length ≤ i + 1 ∧
          Post K mg W b m1 H1 σ (RV K) ((compL g ft fe (dwipe ρ vs) (items.drop (i + 1)) S).then fun ys => mret (.lst (accD ++ ys))) Q, fun H' ⟨m3, S3, aV, aD, x⟩ => ⟨items.length - (i + 1), by omega, rfl, hlt, m3, S3, aV, aD, x⟩, fun x H3 hy => ?_⟩
        obtain ⟨sm, rx⟩ := yld x H3 hy
        have t3 : Tr m2 H2 m2 H3 := Same.tr sm
        refine ⟨Dd :: b, m2, _, items[i], ρ3, v2.tr t3, rx, q, fun σ4 v4 o4 => ⟨?_, ?_⟩⟩
        · rw [← wipe_wipe σ vs]
          exact wipe_eq ⟨o4.1, fun j hj => o4.2 j fun z => hj (hw j z)⟩
        · refine ⟨Dd :: b, m2, ρ3, S2, v4, s2.same sm, ?_⟩
          have eD3 : H3 Dd = some (.lst accV) := sm.old _ _ eD
          have nDm : Dd ∉ m2 := (s2.ban Dd List.mem_cons_self).1
          have ra3 := ra.tr t3
          have v3 := v2.tr t3
          have h2' : Post K mg W b m1 H1 σ (RV K) (((nox (ft ρ3) S2).then fun c => if c then mbind (nox (fe ρ3)) fun y => mbind (compL g ft fe (dwipe ρ vs) (items.drop (i + 1))) fun ys => mret (y :: ys) else compL g ft fe (dwipe ρ vs) (items.drop (i + 1))).then fun ys => mret (.lst (accD ++ ys))) Q := h2
          unfold nox at h2'
          cases q2 : ft ρ3 S2 with
          | bad => simp only [q2] at h2'; exact h2'.elim
          | ex e S5 => simp only [q2] at h2'; exact h2'.elim
          | ok c S5 =>
            simp only [q2] at h2'
            intro m6 H6 y t6 s6 ey
            obtain rfl : y = c := ey
            have T6 : Tr m1 H1 m6 H6 := (t2.trans t3).trans t6
            have eD6 : H6 Dd = some (.lst accV) := t6.keptL eD3 nDm
            cases y with
            | false => exact iteF ⟨m6, S5, accV, accD, T6, v3.tr t6, s6, eD6, ra3.tr t6, by omega, h2'⟩
            | true =>
              refine iteT ⟨Dd :: b, m6, ρ3, S5, v4.tr t6, s6, ?_⟩
              have h3' : Post K mg W b m1 H1 σ (RV K) (((nox (fe ρ3) S5).then fun y => mbind (compL g ft fe (dwipe ρ vs) (items.drop (i + 1))) fun ys => mret (y :: ys)).then fun ys => mret (.lst (accD ++ ys))) Q := h2'
              unfold nox at h3'
              cases q3 : fe ρ3 S5 with
              | bad => simp only [q3] at h3'; exact h3'.elim
              | ex e S7 => simp only [q3] at h3'; exact h3'.elim
              | ok dy S7 =>
                simp only [q3] at h3'
                intro m8 H8 y t8 s8 ry
                have nD6 : Dd ∉ m6 := (s6.ban Dd List.mem_cons_self).1
                have eD8 : H8 Dd = some (.lst accV) := t8.keptL eD6 nD6
                have ra8 := (ra3.tr t6).tr t8
                have hlen : accV.length = accD.length := ra8.length
                refine ⟨accV, eD8, by omega, m8, S7, accV ++ [y], accD ++ [dy], (T6.trans t8).side hDd, ((v3.tr t6).tr t8).side eD8 List.mem_cons_self, s8.side eD8 List.mem_cons_self, upd_same, (ra8.append (.cons ry .nil)).side eD8 List.mem_cons_self, by simp; omega, ?_⟩
                have h4' : Post K mg W b m1 H1 σ (RV K) (((compL g ft fe (dwipe ρ vs) (items.drop (i + 1)) S7).then fun ys => mret (dy :: ys)).then fun ys => mret (.lst (accD ++ ys))) Q := h3'
                cases q4 : compL g ft fe (dwipe ρ vs) (items.drop (i + 1)) S7 with
                | bad => rw [q4] at h4'; exact h4'.elim
                | ex e S9 => rw [q4] at h4'; exact h4'
                | ok ys S9 =>
                  rw [q4] at h4'
                  have e5 : accD ++ dy :: ys = (accD ++ [dy]) ++ ys := by simp
                  show Post K mg W b m1 H1 σ (RV K) (.ok (.lst ((accD ++ [dy]) ++ ys)) S9) Q
                  rw [← e5]
                  exact h4'
    · have e : i = items.length := by omega
      subst e
      rw [List.drop_length] at h2
      refine .inl ⟨rstop, ?_⟩
      have h2' : Post K mg W b m1 H1 σ (RV K) (.ok (.lst (accD ++ [])) S2) Q := h2
      rw [List.append_nil] at h2'
      refine h2' m2 H2 _ t2 s2.unapart (.lst eD (s2.ban Dd List.mem_cons_self).1 (fun z => ?_) ra.unapart)
      obtain ⟨_, o, e⟩ := s1.ban Dd z
      rw [hDd] at e
      cases e
  · rw [if_neg hz] at h1; exact h1.elim
theorem pd_comp (hc : X.calm = true) (hN : X.N.Nodup) (hi : ID X W tg iter fi) (ok : BlkOk X.N X.env.scope scope own) (hw : ∀ i ∈ ws, i ∈ own.map (·.2))
    (hg : ∀ (s : Shared) (H : Hp) (C : Addr) (cl : List (Str × Addr)) (fp : List Addr), GD (X.blk s H scope (compEnvC scope cl C X.env) fp) tg ws g) (ht : ∀ (s : Shared) (H : Hp) (C : Addr) (cl : List (Str × Addr)) (fp : List Addr), TsD (X.blk s H scope (compEnvC scope cl C X.env) fp) WF ifs ft)
    (he : ∀ (s : Shared) (H : Hp) (C : Addr) (cl : List (Str × Addr)) (fp : List Addr), PD (X.blk s H scope (compEnvC scope cl C X.env) fp) WF elt fe) (hs : ∀ x, foldedSetIterable iter X.env x = pure x := by intro _; rfl) :
    PD X W (.ListComp elt [⟨tg, iter, ifs, 0⟩] scope pos) (dComp fi g ft fe (own.map (·.2))) :=
  PE.imp (pe_lc (g := tGt X.K ws g) (tt := tG X.K X.mg WF ReqB ft) (te := tG X.K X.mg WF (RV X.K) fe) hc hN hi ok hg ht he hs) fun σ H Q h => lc_den hw h
theorem sd_setComp (i : Nat) {y : Str} {py spos : Pos} (hc : X.calm = true) (hN : X.N.Nodup) (hy : X.N[i]? = some y) (hyl : X.env.scope.names.lookup y = some .local)
    (hsw : swapsWith (.ListComp elt [⟨tg, iter, ifs, 0⟩] scope pos) (some (.Name y py)) spos.line X.env = pure true) (hi : ID X W tg iter fi) (ok : BlkOk X.N X.env.scope scope own) (hw : ∀ i ∈ ws, i ∈ own.map (·.2))
    (hg : ∀ (s : Shared) (H : Hp) (C : Addr) (cl : List (Str × Addr)) (fp : List Addr), GD (X.blk s H scope (compEnvC scope cl C X.env) fp) tg ws g) (ht : ∀ (s : Shared) (H : Hp) (C : Addr) (cl : List (Str × Addr)) (fp : List Addr), TsD (X.blk s H scope (compEnvC scope cl C X.env) fp) WF ifs ft)
    (he : ∀ (s : Shared) (H : Hp) (C : Addr) (cl : List (Str × Addr)) (fp : List Addr), PD (X.blk s H scope (compEnvC scope cl C X.env) fp) WF elt fe) (hs : ∀ x, foldedSetIterable iter X.env x = pure x := by intro _; rfl) :
    SD X W (.Assign [.Name y py] (.ListComp elt [⟨tg, iter, ifs, 0⟩] scope pos) spos) (sAsg (dComp fi g ft fe (own.map (·.2))) (gtName i)) :=
  PS.imp (ps_setLc (g := tGt X.K ws g) (tt := tG X.K X.mg WF ReqB ft) (te := tG X.K X.mg WF (RV X.K) fe) hc hN hy hyl hsw hi ok hg ht he hs) fun E σ H h => by
    obtain ⟨b, m, ρ, S, hv, hs, h⟩ := asg_den (ws := [i]) h
    refine lc_den hw ⟨b, m, ρ, S, hv, hs, Post.imp h fun y H' ⟨b, m, ρ, d, ρ', hv', r, e, q⟩ => ?_⟩
    cases e
    exact q _ (hv'.set i r) ⟨by simp, fun j hj => List.getElem?_set_ne (fun z => hj (by simp [z]))⟩
end
end DL
set_option Elab.async false
set_option linter.all false
set_option maxRecDepth 100000
namespace DL
open PySem PySem.Spec PyProof.Rows L2

/-! ### defs -/
/-- what a def promises: its function of the data -/
def SpD (K : PySem.W.Frag) (mg : Str → Option Value) (n : Nat) (F : List D → M D) : Sp := fun vs H Q E =>
  ∃ b m ds S, ds.length = n ∧ Reps K b m H vs ds ∧ StoR K b m H S ∧ Post K mg (fun cls d _ H => E cls d H) b m H [] (RV K) (F ds S) Q
theorem SpD.len {K : PySem.W.Frag} {mg : Str → Option Value} {n : Nat} {F : List D → M D} {vs : List V} {H : Hp} {Q : VK} {E : XK} (h : SpD K mg n F vs H Q E) : vs.length = n := by
  obtain ⟨b, m, ds, S, h1, h2, _⟩ := h
  rw [h2.length, h1]
def startE (N : Nat) (ds : List D) : Env := ds.map some ++ List.replicate (N - ds.length) none
/-- the outcome of a body -/
def outS : OutS → Out D
  | .ok (.nx _) S => .ok .non S
  | .ok (.rt d) S => .ok d S
  | .ok _ _ => .bad
  | .ex e _ S => .ex e S
  | .bad => .bad
@[simp] def mkF (N : Nat) (G : DS) : List D → M D := fun ds S => outS (G (startE N ds) S)
section
variable {P : Program} {w : World} {K : PySem.W.Frag} {mg : Str → Option Value} {base : Heap}
theorem startR {b m : List Addr} {H : Hp} {N : List Str} {vs : List V} {ds : List D} (r : Reps K b m H vs ds) : EnvR K b m H (L2.start N vs) (startE N.length ds) := by
  unfold L2.start startE
  have hl := r.length
  refine ⟨by simp [hl], fun i d h => ?_⟩
  by_cases hi : i < ds.length
  · rw [List.getElem?_append_left (by simpa using hi), List.getElem?_map] at h
    cases e : ds[i]? with
    | none => rw [e] at h; cases h
    | some d' =>
      rw [e] at h
      cases h
      obtain ⟨v, h1, h2⟩ := r.get e
      refine ⟨v, ?_, h2⟩
      rw [List.getElem?_append_left (by simp; omega), List.getElem?_map, h1]
      rfl
  · rw [List.getElem?_append_right (by simpa using hi), List.getElem?_replicate] at h
    split at h <;> cases h
/-- what the body of a def wishes of exceptions -/
def WD0 (E : XK) : WX := fun cls d _ H => E cls d H
/-- THE RULE for a def -/
theorem fn_D {x qual : Str} {st : Stmt} {f : Addr} {fd : FuncData} {N ps : List Str} {k : Nat} (F : Fun K x qual st f fd) (S : FnScope N ps (defScope st)) (G : DS)
    (hb : ∀ (cdv : Value) (A : Around) (outer : List PySem.Env) (s : Shared) (H : Hp) (E : XK), Room k (A.deeper (envOfC qual (defScope st) s.heap.objs.size f cdv)) →
      BD (cxOf (L2.CX P w) P w K mg base N qual (defScope st) f cdv A outer s H E) (WD0 E) (defBody st) G) : FnOk P w K mg base (L2.CX P w) (k + 1) f fd ps (SpD K mg ps.length (mkF N.length G)) := by
  refine F.okX S (fun vs H Q E h => h.len) fun cdv A outer s H vs Q E hr hsp => ?_
  obtain ⟨b, m, ds, S0, h1, h2, h3, h4⟩ := hsp
  refine ⟨_, hb cdv A outer s H E hr, b, m, startE N.length ds, S0, startR h2, h3, ?_⟩
  unfold mkF at h4
  show PostS K mg (WD0 E) b m H _ (G (startE N.length ds) S0)
  cases q : G (startE N.length ds) S0 with
  | bad => rw [q] at h4; exact h4.elim
  | ex e ρ S1 => rw [q] at h4; exact fun m' H' σ' cls dx t v s r => h4 m' H' cls dx t s r
  | ok fl S1 =>
    cases fl with
    | nx ρ => rw [q] at h4; exact fun m' H' σ' t v s => h4 m' H' .non t s .non
    | rt d => rw [q] at h4; exact fun m' H' v t s r => h4 m' H' v t s r
    | bk ρ => rw [q] at h4; exact h4.elim
    | ct ρ => rw [q] at h4; exact h4.elim
theorem takesD {X : Cx} {E : XK} (hs : X.stack = X.env :: X.outer) (hf : X.env.frame = some X.env.locals) (hex : X.ex = []) {E1 : Value → Shared → Prop} (h : X.xe = fun e s' => wpAny (model X.prog X.w) X.A (leaving X.env e) (fun _ s'' => L2.CX X.prog X.w X.outer X.H_0 X.s_0 E e s'') E1 s') : Takes X (WD0 E) := by
  exact takes_of hs hf hex h
end
/-! ### calls -/
section
variable {X : Cx} {W : WX} {k : Nat} {f : Addr} {fd : FuncData} {ps : List Str} {F : List D → M D} {x : Str} {p pos : Pos} {e : Expr} {es : List Expr} {fs : Env → M (List D)}
/-- f(..) where f raises nothing -/
@[simp] def dCall (n : Nat) (F : List D → M D) (fs : Env → M (List D)) : Env → M D := fun ρ => mbind (fs ρ) fun ds => if ds.length = n then nox (F ds) else mbad
theorem pd_call {n : Nat} (G : FnOk X.prog X.w X.K X.mg X.base (L2.CX X.prog X.w) k f fd ps (SpD X.K X.mg n F)) (hr : Room k X.A) (hg : Gl X x) (hm : X.mg x = some (.ref f)) (hk : PySem.W.keepIn X.K (.ref f) = true) (hb : Binds X.K fd ps [])
    (ha : AD X W (e :: es) fs) (hdb : (x == ("__debug__" : Str)) = false := by decide) (he : starEach (e :: es) X.env = (false, eval e X.env) :: starEach es X.env := by rfl) (hpl : (backTo pos (starEach es X.env)).any (·.1) = false := by rfl) :
    PD X W (.Call (.Name x p) (e :: es) [] pos) (dCall n F fs) := PE.imp (pe_call G hr hg hm hk hb .nil passL ha hdb he hpl) fun σ H Q ⟨b, m, ρ, S, hv, hs, h⟩ => ⟨b, m, ρ, S, hv, hs, Post.then h fun ds S1 m1 H1 vs e1 t1 s1 r1 h1 => by
  by_cases hl : ds.length = n
  · rw [if_pos hl] at h1
    rw [List.append_nil]
    refine ⟨b, m1, ds, S1, hl, r1, s1, ?_⟩
    unfold nox at h1
    cases q : F ds S1 with
    | ok a S2 => simp only [q] at h1; exact h1
    | ex e S2 => simp only [q] at h1; exact h1.elim
    | bad => simp only [q] at h1; exact h1.elim
  · rw [if_neg hl] at h1; exact h1.elim⟩
theorem pd_call0 {n : Nat} (G : FnOk X.prog X.w X.K X.mg X.base (L2.CX X.prog X.w) k f fd ps (SpD X.K X.mg n F)) (hr : Room k X.A) (hg : Gl X x) (hm : X.mg x = some (.ref f)) (hk : PySem.W.keepIn X.K (.ref f) = true) (hb : Binds X.K fd ps [])
    (hdb : (x == ("__debug__" : Str)) = false := by decide) : PD X W (.Call (.Name x p) [] [] pos) (dCall n F aNil) := PE.imp (L2.pe_call0 G hr hg hm hk hb .nil passL hdb) fun σ H Q ⟨b, m, ρ, S, hv, hs, h⟩ => by
  have h1 : Post X.K X.mg W b m H σ (RV X.K) ((if ([] : List D).length = n then nox (F []) else mbad : M D) S) Q := h
  by_cases hl : ([] : List D).length = n
  · rw [if_pos hl] at h1
    refine ⟨b, m, [], S, hl, .nil, hs, ?_⟩
    unfold nox at h1
    cases q : F [] S with
    | ok a S2 => simp only [q] at h1; exact h1
    | ex e S2 => simp only [q] at h1; exact h1.elim
    | bad => simp only [q] at h1; exact h1.elim
  · rw [if_neg hl] at h1; exact h1.elim
/-- f(..) where f may raise -/
@[simp] def dCallX (n : Nat) (F : List D → M D) (fs : Env → M (List D)) : Env → M D := fun ρ => mbind (fs ρ) fun ds => if ds.length = n then F ds else mbad
theorem pd_callX {n : Nat} (tk : Takes X W) (G : FnOk X.prog X.w X.K X.mg X.base (L2.CX X.prog X.w) k f fd ps (SpD X.K X.mg n F)) (hr : Room k X.A) (hg : Gl X x) (hm : X.mg x = some (.ref f)) (hk : PySem.W.keepIn X.K (.ref f) = true) (hb : Binds X.K fd ps [])
    (ha : AD X W (e :: es) fs) (hdb : (x == ("__debug__" : Str)) = false := by decide) (he : starEach (e :: es) X.env = (false, eval e X.env) :: starEach es X.env := by rfl) (hpl : (backTo pos (starEach es X.env)).any (·.1) = false := by rfl) :
    PD X W (.Call (.Name x p) (e :: es) [] pos) (dCallX n F fs) := PE.imp (pe_callS G hr hg hm hk hb (fun σ => passAt tk σ) ha hdb he hpl) fun σ H Q ⟨b, m, ρ, S, hv, hs, h⟩ => ⟨b, m, ρ, S, hv, hs, Post.then h fun ds S1 m1 H1 vs e1 t1 s1 r1 h1 => by
  by_cases hl : ds.length = n
  · rw [if_pos hl] at h1
    refine ⟨b, m1, ds, S1, hl, r1, s1, ?_⟩
    cases q : F ds S1 with
    | ok a S2 => rw [q] at h1; exact h1
    | ex e S2 => rw [q] at h1; exact h1
    | bad => rw [q] at h1; exact h1
  · rw [if_neg hl] at h1; exact h1.elim⟩
end
/-! ### the store's own of a def are left behind -/
mutual
def noPtr (n : Nat) : D → Bool
  | .ptr k => decide (k < n)
  | .tup ds => noPtrs n ds
  | .ctup ds => noPtrs n ds
  | .dct _ ds => noPtrs n ds
  | .lst ds => noPtrs n ds
  | .flst ds => noPtrs n ds
  | .non => true
  | .bl _ => true
  | .int _ => true
  | .str _ => true
  | .ty _ => true
  | .obj _ => true
def noPtrs (n : Nat) : List D → Bool
  | [] => true
  | d :: ds => noPtr n d && noPtrs n ds
end
def noPtrC (n : Nat) : Cell → Bool
  | .lst ds => noPtrs n ds
  | .dct _ _ ds => noPtrs n ds
def fz (S : Sto) (n : Nat) (d : D) : Option D := if noPtr n d = true then some d else match d with
  | .ptr k => match ofPtr S k with
    | some ds => if noPtrs n ds = true then some (.lst ds) else none
    | none => match S[k]? with
      | some (.dct _ t ds) => if noPtrs n ds = true then some (.dct t ds) else none
      | _ => none
  | _ => none
def finO (n : Nat) : Out D → Out D
  | .ok d S => if S.length = n then .ok d S else if (S.take n).all (noPtrC n) = true then match fz S n d with
    | some d' => .ok d' (S.take n)
    | none => .bad
    else .bad
  | .ex e S => if S.length = n then .ex e S else if (S.take n).all (noPtrC n) = true ∧ noPtrs n (e.fields.map (·.2)) = true then .ex e (S.take n) else .bad
  | .bad => .bad
@[simp] def fzF (F : List D → M D) : List D → M D := fun ds S => finO S.length (F ds S)
section
variable {K : PySem.W.Frag} {mg : Str → Option Value} {b m l : List Addr} {H H' : Hp}
mutual
theorem Rep.cut : ∀ {d : D} {v : V}, Rep K b (m ++ l) H v d → noPtr m.length d = true → Rep K b m H v d
  | _, _, .non, _ => .non
  | _, _, .bl x, _ => .bl x
  | _, _, .int i, _ => .int i
  | _, _, .str x, _ => .str x
  | _, _, .ty n, _ => .ty n
  | _, _, .tup h r, e => .tup h (Reps.cut r (by simpa [noPtr] using e))
  | _, _, .ctup h r, e => .ctup h (Reps.cut r (by simpa [noPtr] using e))
  | _, _, .lst h n nb r, e => .lst h (fun z => n (List.mem_append_left _ z)) nb (Reps.cut r (by simpa [noPtr] using e))
  | _, _, .dct h hl n nb r, e => .dct h hl (fun z => n (List.mem_append_left _ z)) nb (Reps.cut r (by simpa [noPtr] using e))
  | _, _, .flst h r, e => .flst h (Reps.cut r (by simpa [noPtr] using e))
  | _, _, .ptr h, e => .ptr (by rw [List.getElem?_append_left (by simpa [noPtr] using e)] at h; exact h)
  | _, _, .obj a, _ => .obj a
theorem Reps.cut : ∀ {ds : List D} {vs : List V}, Reps K b (m ++ l) H vs ds → noPtrs m.length ds = true → Reps K b m H vs ds
  | _, _, .nil, _ => .nil
  | _, _, .cons r rs, e => by
    simp only [noPtrs, Bool.and_eq_true] at e
    exact .cons (Rep.cut r e.1) (Reps.cut rs e.2)
end
theorem Tr.cut {m' : List Addr} (t : Tr m H m' H') : Tr m H m H' := ⟨⟨[], by simp⟩, fun _ h h' => absurd h h', t.kept, t.there, t.tups, t.frzs, t.tupH⟩
theorem StoR.cut {S : Sto} (h : StoR K b (m ++ l) H S) (e : (S.take m.length).all (noPtrC m.length) = true) : StoR K b m H (S.take m.length) := by
  have hl := h.len
  simp only [List.length_append] at hl
  refine ⟨by simp; omega, (List.nodup_append.mp h.nd).1, fun n a c e1 e2 => ?_, fun a ha => ⟨fun z => (h.ban a ha).1 (List.mem_append_left _ z), (h.ban a ha).2⟩, h.tabs⟩
  have hn : n < m.length := (List.getElem?_eq_some_iff.mp e1).1
  have hc := List.all_eq_true.mp e c (List.mem_of_getElem? e2)
  rw [List.getElem?_take_of_lt hn] at e2
  have := h.cell n a c (by rw [List.getElem?_append_left hn]; exact e1) e2
  cases c with
  | lst ds =>
    obtain ⟨xs, h1, h2⟩ := this
    exact ⟨xs, h1, h2.cut hc⟩
  | dct l u ds =>
    obtain ⟨xs, h1, hl, h2⟩ := this
    exact ⟨xs, h1, hl, h2.cut hc⟩
theorem fz_rep {S : Sto} {v : V} {d d' : D} (hs : StoR K b (m ++ l) H S) (r : Rep K b (m ++ l) H v d) (e : fz S m.length d = some d') : Rep K b m H v d' := by
  unfold fz at e
  by_cases hp : noPtr m.length d = true
  · rw [if_pos hp] at e
    cases e
    exact r.cut hp
  · rw [if_neg hp] at e
    cases r with
    | @ptr k a hk =>
      have apart : a ∉ m := fun z => by
        obtain ⟨i, hi, ei⟩ := List.getElem_of_mem z
        have h3 : (m ++ l)[i]? = some a := by rw [List.getElem?_append_left hi, List.getElem?_eq_getElem hi, ei]
        obtain ⟨h4, e4⟩ := List.getElem?_eq_some_iff.mp h3
        obtain ⟨h5, e5⟩ := List.getElem?_eq_some_iff.mp hk
        have : i = k := (List.getElem_inj hs.nd).mp (e4.trans e5.symm)
        subst this
        exact hp (by simp [noPtr, hi])
      cases q : ofPtr S k with
      | none =>
        simp only [q] at e
        split at e
        · rename_i u ds h2
          by_cases hq : noPtrs m.length ds = true
          · rw [if_pos hq] at e
            cases e
            obtain ⟨xs, h3, hl, h4⟩ := hs.cell k a _ hk h2
            exact .dct h3 hl apart (fun z => (hs.ban a z).1 (List.mem_of_getElem? hk)) (h4.cut hq)
          · rw [if_neg hq] at e; cases e
        · cases e
      | some ds =>
        simp only [q] at e
        by_cases hq : noPtrs m.length ds = true
        · rw [if_pos hq] at e
          cases e
          obtain ⟨xs, h1, h2⟩ := ofPtr_rep hs hk q
          exact .lst h1 apart (fun z => (hs.ban a z).1 (List.mem_of_getElem? hk)) (h2.cut hq)
        · rw [if_neg hq] at e; cases e
    | _ => cases e
theorem SpD.fz {n : Nat} {F : List D → M D} {vs : List V} {Q : VK} {E : XK} (h : SpD K mg n (fzF F) vs H Q E) : SpD K mg n F vs H Q E := by
  obtain ⟨b, m, ds, S, h1, h2, h3, h4⟩ := h
  refine ⟨b, m, ds, S, h1, h2, h3, ?_⟩
  unfold fzF at h4
  have hl := h3.len
  rw [← hl] at h4
  cases q : F ds S with
  | bad => rw [q] at h4; exact h4
  | ok d S' =>
    rw [q] at h4
    simp only [finO] at h4
    intro m' H' y t s r
    by_cases h0 : S'.length = m.length
    · rw [if_pos h0] at h4
      exact h4 m' H' y t s r
    rw [if_neg h0] at h4
    obtain ⟨l, rfl⟩ := t.ext
    by_cases hc : (S'.take m.length).all (noPtrC m.length) = true
    · rw [if_pos hc] at h4
      cases q2 : DL.fz S' m.length d with
      | none => simp only [q2] at h4; exact h4.elim
      | some d' =>
        simp only [q2] at h4
        exact h4 m H' y t.cut (s.cut hc) (fz_rep s r q2)
    · rw [if_neg hc] at h4; exact h4.elim
  | ex e S' =>
    rw [q] at h4
    simp only [finO] at h4
    intro m' H' cls dx t s r
    by_cases h0 : S'.length = m.length
    · rw [if_pos h0] at h4
      exact h4 m' H' cls dx t s r
    rw [if_neg h0] at h4
    obtain ⟨l, rfl⟩ := t.ext
    by_cases hc : (S'.take m.length).all (noPtrC m.length) = true ∧ noPtrs m.length (e.fields.map (·.2)) = true
    · rw [if_pos hc] at h4
      obtain ⟨C, r1, r2, r3⟩ := r
      refine h4 m H' cls dx t.cut (s.cut hc.1) ⟨C, r1, r2, ?_⟩
      rcases r3 with r3 | ⟨d, fs, x1, x0, x2, x3, x4⟩
      · exact .inl r3
      · exact .inr ⟨d, fs, x1, x0, x2, x3, x4.cut hc.2⟩
    · rw [if_neg hc] at h4; exact h4.elim
theorem fn_fz {P : Program} {w : World} {base : Heap} {k : Nat} {f : Addr} {fd : FuncData} {ps : List Str} {n : Nat} {F : List D → M D} (G : FnOk P w K mg base (L2.CX P w) k f fd ps (SpD K mg n F)) : FnOk P w K mg base (L2.CX P w) k f fd ps (SpD K mg n (fzF F)) :=
  G.imp fun _ _ _ _ h => h.fz
end
/-! ### the end: a law -/
/-- with a script of at most 63 ints -/
def scriptD (ns : List Int) : D := .flst (ns.map D.int)
theorem reps_ints {K : PySem.W.Frag} {b m : List Addr} {H : Hp} : ∀ ns : List Int, Reps K b m H (ns.map V.int) (ns.map D.int)
  | [] => .nil
  | n :: ns => .cons (.int n) (reps_ints ns)
theorem law_sp {K : PySem.W.Frag} {mg : Str → Option Value} {H : Hp} {a : Addr} {ns : List Int} {F : List D → M D} (o : Only H) (tb : TabsOk K H) (h : SqL K H a (ns.map V.int)) (e : ∃ S, F [scriptD ns] [] = .ok (.bl true) S) :
    SpD K mg 1 F [.ref a] H (fun v _ => v = .bl true) fun _ _ _ => False := by
  obtain ⟨S, e⟩ := e
  refine ⟨[], [], [scriptD ns], [], rfl, .cons (.flst (SqL.f h fun xs z => ?_) (reps_ints ns)) .nil, ⟨rfl, by simp, fun n a c e1 _ => by simp at e1, fun a ha => by simp at ha, tb⟩, ?_⟩
  · rcases o a with q | ⟨u, ys, q⟩ <;> rw [q] at z <;> cases z
  · rw [e]
    exact fun m' H' y t s r => by cases r; rfl
end DL
set_option Elab.async false
set_option linter.all false
set_option maxRecDepth 100000
namespace DL
open PySem PySem.Spec PyProof.Rows L2

/-! ### xs[i] = e, methods of lists that are written to -/
def setAt (S : Sto) (o i d : D) : Option Sto := match o, i with
  | .ptr n, .int k => match ofPtr S n with
    | some ds => match ixN ds.length k with
      | some j => some (S.set n (.lst (ds.set j d)))
      | none => none
    | none => none
  | _, _ => none
@[simp] def sSetIx (fo fi fe : Env → M D) : DS := fun ρ S => sbind (fe ρ S) ρ fun d S1 => sbind (fo ρ S1) ρ fun o S2 => sbind (fi ρ S2) ρ fun i S3 => match setAt S3 o i d with
  | some S4 => .ok (.nx ρ) S4
  | none => .bad
section
variable {X : Cx} {W : WX} {e o i : Expr} {fe fo fi : Env → M D} {pos pos' : Pos}
theorem setAt_rep {K : PySem.W.Frag} {b m : List Addr} {H : Hp} {S S' : Sto} {vo vi v : V} {o i d : D} (hs : StoR K b m H S) (ro : Rep K b m H vo o) (ri : Rep K b m H vi i) (r : Rep K b m H v d) (e : setAt S o i d = some S') :
    ∃ p xs k j, vo = .ref p ∧ vi = .int k ∧ H p = some (.lst xs) ∧ ixN xs.length k = some j ∧ StoR K b m (upd H p (.lst (xs.set j v))) S' ∧ Tr m H m (upd H p (.lst (xs.set j v))) := by
  unfold setAt at e
  split at e
  · rename_i n k
    cases ri
    cases ro with
    | @ptr _ a hn =>
      cases q : ofPtr S n with
      | none => simp only [q] at e; cases e
      | some ds =>
        simp only [q] at e
        obtain ⟨xs, h1, h2⟩ := ofPtr_rep hs hn q
        cases q2 : ixN ds.length k with
        | none => simp only [q2] at e; cases e
        | some j =>
          simp only [q2] at e
          cases e
          exact ⟨a, xs, k, j, rfl, rfl, h1, by rw [h2.length]; exact q2, hs.write hn h1 (h2.set j r), Tr.write (List.mem_of_getElem? hn) h1⟩
  · cases e
theorem sd_setIx (ho : PD X W o fo) (hi : PD X W i fi) (he : PD X W e fe)
    (ha : ∀ v, assign (.Subscript o i pos') X.env v = (do
      let ov ← holding [v] (eval o X.env)
      let iv ← holding [v, ov] (eval i X.env)
      standAt pos'
      holding [v, ov, iv] (setItem ov iv v)
      release [v, ov, iv] []) := by intro _; rfl)
    (hs : swapsWithSole [.Subscript o i pos'] e pos.line X.env = pure false := by rfl) (hw : swappedStores [.Subscript o i pos'] e X.env = pure none := by rfl)
    (h1 : (assignEach [.Subscript o i pos'] X.env).map (·.2) = [assign (.Subscript o i pos') X.env] := by rfl) : SD X W (.Assign [.Subscript o i pos'] e pos) (sSetIx fo fi fe) :=
  PS.imp (ps_asg he (pg_sub ho hi set_list ha) hs hw h1) fun E σ H ⟨b, m, ρ, S, hv, hs, h⟩ => ⟨b, m, ρ, S, hv, hs, PostS.bind hv h fun d S1 m1 H1 y _ t1 s1 r1 v1 h1 =>
    ⟨b, m1, ρ, S1, v1, s1, PostS.bind v1 h1 fun o' S2 m2 H2 vo _ t2 s2 r2 v2 h2 =>
    ⟨b, m2, ρ, S2, v2, s2, PostS.bind v2 h2 fun i' S3 m3 H3 vi _ t3 s3 r3 v3 h3 => by
      cases q : setAt S3 o' i' d with
      | none => simp only [q] at h3; exact h3.elim
      | some S4 =>
        simp only [q] at h3
        obtain ⟨p, xs, k, j, rfl, rfl, q1, q2, q3, q4⟩ := setAt_rep s3 (r2.tr t3) r3 ((r1.tr t2).tr t3) q
        exact ⟨p, xs, k, j, rfl, rfl, q1, q2, h3 _ _ _ q4 (v3.tr q4) q3⟩⟩⟩⟩
abbrev GMt := Sto → D → List D → Option (D × Sto)
def MtDen (K : PySem.W.Frag) (r : V → List V → Hp → VK → Prop) (g : GMt) : Prop := ∀ (b m : List Addr) (H : Hp) (S : Sto) (x : V) (xs : List V) (dx : D) (ds : List D) (d : D) (S' : Sto) (Q : VK), StoR K b m H S → Rep K b m H x dx → Reps K b m H xs ds → g S dx ds = some (d, S') →
  (∀ m' H' v, Tr m H m' H' → StoR K b m' H' S' → Rep K b m' H' v d → Q v H') → r x xs H Q
def mst (o : Option (D × Sto)) : Out D := match o with
  | some (d, S) => .ok d S
  | none => .bad
def isList (S : Sto) (d : D) : Bool := (seqL S d).isSome
@[simp] def dMeth (g : GMt) (fo : Env → M D) (fa : Env → M (List D)) : Env → M D := fun ρ => mbind (fo ρ) fun x S => if isList S x = true then (mbind (fa ρ) fun ds S' => mst (g S' x ds)) S else .bad
theorem isList_ty {K : PySem.W.Frag} {b m : List Addr} {H : Hp} {S : Sto} {v : V} {d : D} (hs : StoR K b m H S) (r : Rep K b m H v d) (e : isList S d = true) : tyV K "list" v H := by
  unfold isList at e
  cases q : seqL S d with
  | none => rw [q] at e; cases e
  | some ds =>
    obtain ⟨a, xs, rfl, h1, h2⟩ := seqL_rep hs r q
    exact .inl ⟨rfl, xs, h1⟩
variable {es : List Expr} {fa : Env → M (List D)} {name : Str} {apos cpos : Pos} {id : String} {r : V → List V → Hp → VK → Prop} {g : GMt}
theorem pd_meth (pa : PlainAttrs "list") (slot : Slot "list" name id) (hty : typeOf (.builtin id) = pure (.type "method_descriptor")) (hm : MtM X id r) (hd : MtDen X.K r g) (ho : PD X W o fo) (ha : AD X W (e :: es) fa)
    (hbase : attributeBase o name X.env (eval o X.env) = eval o X.env := by rfl)
    (hfew : ((backTo cpos (starEach (e :: es) X.env)).all (fun x => !x.1) && (backToKw cpos (keywordEach [] X.env)).all (fun x => x.1.isSome)
      && decide ((e :: es).length + ([] : List Keyword).length + (if ([] : List Keyword).isEmpty then 0 else 1) < 30)) = true := by rfl)
    (hline : (apos.endLine == cpos.line) = true := by rfl) (hs : starEach (e :: es) X.env = (false, eval e X.env) :: starEach es X.env := by rfl) (hplain : (backTo cpos (starEach es X.env)).any (·.1) = false := by rfl) :
    PD X W (.Call (.Attribute o name apos) (e :: es) [] cpos) (dMeth g fo fa) :=
  PE.imp (pe_bm pa slot hty hm ho ha hbase hfew hline hs hplain) fun σ H Q ⟨b, m, ρ, S, hv, hs, h⟩ => ⟨b, m, ρ, S, hv, hs, Post.then h fun x S1 m1 H1 v _ t1 s1 r1 h1 => by
    by_cases hl : isList S1 x = true
    · rw [if_pos hl] at h1
      refine ⟨isList_ty s1 r1 hl, b, m1, ρ, S1, hv.tr t1, s1, Post.then h1 fun ds S2 m2 H2 vs _ t2 s2 r2 h2 => ?_⟩
      cases q : g S2 x ds with
      | none => simp only [q] at h2; exact h2.elim
      | some p =>
        simp only [q] at h2
        exact hd b m2 H2 S2 v vs x ds p.1 p.2 Q s2 (r1.tr t2) r2 q h2
    · rw [if_neg hl] at h1; exact h1.elim⟩
def gAppend : GMt := fun S x ds => match x, ds with
  | .ptr n, [d] => match ofPtr S n with
    | some es => if es.length < sizeLine then some (.non, S.set n (.lst (es ++ [d]))) else none
    | none => none
  | _, _ => none
theorem den_append {K : PySem.W.Frag} : MtDen K rAppend gAppend := by
  intro b m H S x xs dx ds d S' Q hs rx rs e q
  unfold gAppend at e
  split at e
  · rename_i n d0
    cases rx with
    | @ptr _ a hn =>
      obtain ⟨v, rfl, rv⟩ := rs.one
      cases q1 : ofPtr S n with
      | none => simp only [q1] at e; cases e
      | some es =>
        simp only [q1] at e
        by_cases hz : es.length < sizeLine
        · rw [if_pos hz] at e
          cases e
          obtain ⟨ys, h1, h2⟩ := ofPtr_rep hs hn q1
          exact ⟨a, ys, v, rfl, rfl, h1, by rw [h2.length]; exact hz, q m _ _ (Tr.write (List.mem_of_getElem? hn) h1) (hs.write hn h1 (h2.append (.cons rv .nil))) .non⟩
        · rw [if_neg hz] at e; cases e
  · cases e
/-! ### x op= e -/
def sAug (j : Nat) (g : G2) (fe : Env → M D) : DS := fun ρ S => match ρ[j]? with
  | some (some x) => sbind (fe ρ S) ρ fun y S1 => match g S1 x y with
    | some z => .ok (.nx (ρ.set j (some z))) S1
    | none => .bad
  | _ => .bad
theorem sd_aug (j : Nat) {x : Str} {op : Operator} {r : R2} {g : G2} (hN : X.N.Nodup) (ho : OpR X (inplaceOp op) r) (hd : OpDen X.K r g) (he : PD X W e fe) (hi : X.N[j]? = some x := by rfl) (hx : Loc X.env.scope x := by first | exact Or.inl rfl | exact Or.inr rfl)
    (hf : X.fn x = true ∨ X.env.scope.names.lookup x = some .local := by first | exact .inl rfl | exact .inr rfl | assumption) : SD X W (.AugAssign (.Name x pos') op e pos) (sAug j g fe) :=
  PS.imp (ps_aug hN hi hx he (show PIp X op r from ho) hf) fun E σ H ⟨b, m, ρ, S, hv, hs, h⟩ => by
    unfold sAug at h
    cases q : ρ[j]? with
    | none => simp only [q] at h; exact h.elim
    | some od =>
      cases od with
      | none => simp only [q] at h; exact h.elim
      | some d =>
        simp only [q] at h
        obtain ⟨v, h1, h2⟩ := hv.2 j d q
        refine ⟨v, h1, b, m, ρ, S, hv, hs, PostS.bind hv h fun y S1 m1 H1 vy _ t1 s1 r1 v1 h3 => ?_⟩
        cases q2 : g S1 d y with
        | none => simp only [q2] at h3; exact h3.elim
        | some z =>
          simp only [q2] at h3
          exact hd b m1 H1 S1 v vy d y z _ s1 (h2.tr t1) r1 q2 fun H' vz sm rz => h3 m1 H' _ (Same.tr sm) ((v1.tr (Same.tr sm)).set j rz) (s1.same sm)
/-! ### slices -/
def cutD (xs : List D) (lo hi : Option Int) : List D := (xs.drop (HT.sIx xs.length 0 lo)).take (HT.sIx xs.length xs.length hi - HT.sIx xs.length 0 lo)
theorem Reps.cutD {K : PySem.W.Frag} {b m : List Addr} {H : Hp} {vs : List V} {ds : List D} (r : Reps K b m H vs ds) (lo hi : Option Int) : Reps K b m H (cutV vs lo hi) (cutD ds lo hi) := by
  unfold cutV DL.cutD
  rw [r.length]
  exact (r.drop _).take _
def gSl (S : Sto) (lo hi : Option Int) : D → Option D
  | .tup ds => some (.tup (cutD ds lo hi))
  | .str z => if z.length ≤ sizeLine then some (.str (cutS z lo hi)) else none
  | d => match seqL S d with
    | some ds => some (.lst (cutD ds lo hi))
    | none => none
def rSlU (K : PySem.W.Frag) : V → Option Int → Option Int → Hp → VK → Prop := fun x lo hi H Q => rSlA K x lo hi H Q ∨ (∃ z, x = .str z ∧ z.length ≤ sizeLine ∧ Q (.str (cutS z lo hi)) H) ∨ rSlL K x lo hi H Q
@[simp] def oNone : Env → M (Option Int) := fun _ => mret none
def asI : D → M (Option Int)
  | .int i => mret (some i)
  | _ => mbad
@[simp] def oSome (f : Env → M D) : Env → M (Option Int) := fun ρ => mbind (f ρ) asI
theorem od_none : OD X W none oNone := PO.imp po_none fun σ H Q ⟨b, m, ρ, S, hv, hs, h⟩ => h _ _ _ Tr.refl hs rfl
theorem od_some (h : PD X W e fe) : OD X W (some e) (oSome fe) := PO.imp (po_some h) fun σ H Q ⟨b, m, ρ, S, hv, hs, h⟩ => ⟨b, m, ρ, S, hv, hs, Post.then h fun d S1 m1 H1 x e1 t1 s1 r1 h1 => by
  cases r1 with
  | int i => exact ⟨i, rfl, h1 _ _ _ Tr.refl s1 rfl⟩
  | _ => exact h1.elim⟩
@[simp] def dSlice (f : Env → M D) (lo hi : Env → M (Option Int)) : Env → M D := fun ρ => mbind (f ρ) fun d => mbind (lo ρ) fun l => mbind (hi ρ) fun u S => (mopt (gSl S l u d) : M D) S
variable {lo hi : Option Expr} {fl fh : Env → M (Option Int)} {p2 : Pos}
theorem cutD_whole (ds : List D) (lo hi : Option Int) (h : HT.sIx ds.length 0 lo = 0 ∧ HT.sIx ds.length ds.length hi = ds.length) : cutD ds lo hi = ds := by
  unfold cutD
  rw [h.1, h.2]
  simp
theorem pd_slice (hr : SlR X (rSlU X.K)) (he : PD X W e fe) (hl : OD X W lo fl) (hu : OD X W hi fh) : PD X W (.Subscript e (.Slice lo hi none p2) pos) (dSlice fe fl fh) :=
  PE.imp (pe_slice hr he hl hu) fun σ H Q ⟨b, m, ρ, S, hv, hs, h⟩ => ⟨b, m, ρ, S, hv, hs, Post.then h fun d S1 m1 H1 x e1 t1 s1 r1 h1 =>
    ⟨b, m1, ρ, S1, hv.tr t1, s1, Post.then h1 fun l S2 m2 H2 l' e2 t2 s2 r2 h2 => ⟨b, m2, ρ, S2, (hv.tr t1).tr t2, s2, Post.then h2 fun u S3 m3 H3 u' e3 t3 s3 r3 h3 => by
      obtain rfl : l' = l := r2
      obtain rfl : u' = u := r3
      have rx := (r1.tr t2).tr t3
      cases q : gSl S3 l' u' d with
      | none => simp only [q] at h3; exact h3.elim
      | some z =>
        simp only [q] at h3
        have lists : (match seqL S3 d with
            | some ds => some (D.lst (cutD ds l' u'))
            | none => none) = some z → rSlU X.K x l' u' H3 Q := fun q => by
          cases q1 : seqL S3 d with
          | none => simp only [q1] at q; cases q
          | some ds =>
            simp only [q1] at q
            cases q
            obtain ⟨a, xs, rfl, k1, k2⟩ := seqL_rep s3 rx q1
            exact .inr (.inr ⟨a, xs, rfl, k1, fun p hp => h3 _ _ _ (Same.tr (Same.upd hp)) (s3.same (Same.upd hp)) (Rep.newLst s3 hp (k2.cutD l' u'))⟩)
        cases rx with
        | @tup a xs ds k1 k2 =>
          cases q
          refine .inl ⟨a, xs, rfl, .inl (.inl k1), fun hw => ?_, fun hw p hp => h3 _ _ _ (Same.tr (Same.upd hp)) (s3.same (Same.upd hp)) (Rep.newTup hp (k2.cutD l' u'))⟩
          refine h3 _ _ _ Tr.refl s3 ?_
          rw [k2.length] at hw
          rw [cutD_whole ds l' u' hw]
          exact .tup k1 k2
        | str w =>
          have q' : (if w.length ≤ sizeLine then some (D.str (cutS w l' u')) else none) = some z := q
          by_cases hz : w.length ≤ sizeLine
          · rw [if_pos hz] at q'
            cases q'
            exact .inr (.inl ⟨w, rfl, hz, h3 _ _ _ Tr.refl s3 (.str _)⟩)
          · rw [if_neg hz] at q'; cases q'
        | _ => exact lists q⟩⟩⟩
end
end DL
set_option Elab.async false
set_option linter.all false
set_option maxRecDepth 100000
namespace DL
open PySem PySem.Spec PyProof.Rows L2

section
variable {X : Cx} {W : WX} {a c e2 : Expr} {fa fc fe2 : Env → M D} {pos : Pos}
/-- -x -/
def asZ : D → M Int
  | .int i => mret i
  | _ => mbad
@[simp] def dNeg (f : Env → M D) : Env → M D := fun ρ => mbind (f ρ) fun d => mbind (asZ d) fun i => mret (.int (-i))
theorem pd_neg (h : PD X W a fa) : PD X W (.UnaryOp .USub a pos) (dNeg fa) := PE.imp (pe_un un_neg h) fun σ H Q ⟨b, m, ρ, S, hv, hs, h⟩ => ⟨b, m, ρ, S, hv, hs, Post.then h fun d S1 m1 H1 x e1 t1 s1 r1 h1 => by
  cases r1 with
  | int i => exact ⟨i, rfl, h1 _ _ _ Tr.refl s1 (.int _)⟩
  | _ => exact h1.elim⟩
/-- a < b < c -/
@[simp] def dChain (g g' : G2) (f1 f2 f3 : Env → M D) : Env → M D := fun ρ => mbind (f1 ρ) fun x => mbind (f2 ρ) fun y => mbind (fun S => (mopt (g S x y) : M D) S) fun d => mbind (asB d) fun k =>
  if k then mbind (f3 ρ) fun z S => (mopt (g' S y z) : M D) S else mret (.bl false)
theorem chain_den {K : PySem.W.Frag} {mg : Str → Option Value} {r r' : R2} {g g' : G2} {f1 f2 f3 : Env → M D} {σ : L2.St} {H : Hp} {Q : VK} (hd : OpDen K r g) (hd' : OpDen K r' g') (h : tG K mg W (RV K) (dChain g g' f1 f2 f3) σ H Q) :
    tChain r r' (tG K mg W (RV K) f1) (tG K mg W (RV K) f2) (tG K mg W (RV K) f3) σ H Q := by
  obtain ⟨b, m, ρ, S, he, hs, h⟩ := h
  refine ⟨b, m, ρ, S, he, hs, Post.then h fun dx S1 m1 H1 x e1 t1 s1 r1 h1 => ?_⟩
  refine ⟨b, m1, ρ, S1, he.tr t1, s1, Post.then h1 fun dy S2 m2 H2 y e2 t2 s2 r2 h2 => ?_⟩
  cases q : g S2 dx dy with
  | none => simp only [mbind, q] at h2; exact h2.elim
  | some d =>
    simp only [mbind, mopt, q] at h2
    refine hd b m2 H2 S2 x y dx dy d _ s2 (r1.tr t2) r2 q fun H' v sm rv => ?_
    have s3 := s2.same sm
    have t3 : Tr m2 H2 m2 H' := Same.tr sm
    have h3 := Post.tr t3 h2
    cases rv with
    | bl k =>
      cases k with
      | false => exact ⟨false, rfl, iteF (h3 _ _ _ Tr.refl s3 (.bl false))⟩
      | true => exact ⟨true, rfl, iteT ⟨b, m2, ρ, S2, ((he.tr t1).tr t2).tr t3, s3, Post.then h3 fun dz S4 m4 H4 z e4 t4 s4 r4 h4 => by
          cases q2 : g' S4 dy dz with
          | none => simp only [q2] at h4; exact h4.elim
          | some d =>
            simp only [q2] at h4
            exact hd' b m4 H4 S4 y z dy dz d Q s4 ((r2.tr t3).tr t4) r4 q2 fun H5 v5 sm5 rv5 => h4 _ _ _ (Same.tr sm5) (s4.same sm5) rv5⟩⟩
    | _ => exact h3.elim
theorem pd_chain {op op' : CmpOp} {r r' : R2} {g g' : G2} (ho : OpR X (compareOp op) r) (hd : OpDen X.K r g) (ho' : OpR X (compareOp op') r') (hd' : OpDen X.K r' g') (h1 : PD X W a fa) (h2 : PD X W c fc) (h3 : PD X W e2 fe2)
    (hm : lastMarks [op, op'] [c, e2] = false := by with_unfolding_all rfl) : PD X W (.Compare a [op, op'] [c, e2] pos) (dChain g g' fa fc fe2) := PE.imp (pe_chain ho ho' h1 h2 h3 hm) fun _ _ _ h => chain_den hd hd' h
theorem td_chain {op op' : CmpOp} {r r' : R2} {g g' : G2} (ho : OpR X (compareOp op) r) (hd : OpDen X.K r g) (ho' : OpR X (compareOp op') r') (hd' : OpDen X.K r' g') (h1 : PD X W a fa) (h2 : PD X W c fc) (h3 : PD X W e2 fe2)
    (hm : lastMarks [op, op'] [c, e2] = false := by with_unfolding_all rfl) : TD X W (.Compare a [op, op'] [c, e2] pos) (dTest (dChain g g' fa fc fe2)) := PT.imp (pt_chain ho ho' h1 h2 h3 hm) fun σ H Q h => chain_den (Q := fun x H' => ∃ k, x = .bl k ∧ Q k H') hd hd' (tTest_den h)
theorem sl_U : SlR X (rSlU X.K) := SlR.or sl_tupA (SlR.or sl_str sl_list)

/-! ### the module's constants -/
theorem rep_kInt {K : PySem.W.Frag} (i : Int) (b m : List Addr) (H : Hp) : Rep K b m H (.int i) (.int i) := .int i
/-- an item of a written dict, the dict's name written -/
def tblAt (tbl : List (Str × D)) : D → M D
  | .str z => mopt (tbl.lookup z)
  | _ => mbad
@[simp] def dTbl (tbl : List (Str × D)) (f : Env → M D) : Env → M D := fun ρ => mbind (f ρ) (tblAt tbl)
def TblOk (K : PySem.W.Frag) (w : World) (a : Addr) (tbl : List (Str × D)) : Prop := ∀ z d, tbl.lookup z = some d → ∃ v, KDct K w a z v ∧ ∀ b m H, Rep K b m H v d
theorem pd_tbl {x : Str} {p : Pos} {u : Addr} {tbl : List (Str × D)} (hg : Gl X x) (hm : X.mg x = some (.ref u)) (ht : TblOk X.K X.w u tbl) (h : PD X W c fc) (hs : PlainIx c) (hd : (x == ("__debug__" : Str)) = false := by decide) : PD X W (.Subscript (.Name x p) c pos) (dTbl tbl fc) :=
  PE.imp (pe_ix ix_kdict (pe_glob (v := .ref u) hg hm rfl hd) h hs) fun σ H Q ⟨b, m, ρ, S, hv, hs, h⟩ => ⟨b, m, ρ, S, hv, hs, Post.then h fun d S1 m1 H1 x e1 t1 s1 r1 h1 => by
    cases r1 with
    | str z =>
      cases q : tbl.lookup z with
      | none => simp only [tblAt, mopt, q] at h1; exact h1.elim
      | some d =>
        simp only [tblAt, mopt, q] at h1
        obtain ⟨v, k1, k2⟩ := ht z d q
        exact ⟨u, z, v, rfl, rfl, k1, h1 _ _ _ Tr.refl s1 (k2 _ _ _)⟩
    | _ => exact h1.elim⟩
end

theorem iop_addU {X : Cx} : OpR X (inplaceOp .Add) (fun x y H Q => (∃ i j, x = .int i ∧ y = .int j ∧ Q (.int (i + j)) H) ∨ (∃ i j, x = .str i ∧ y = .str j ∧ i.length + j.length ≤ sizeLine ∧ Q (.str (i ++ j)) H)) := OpR.or iop_add iop_add_str
def gIAdd : G2 := fun _ x y => match x, y with
  | .int i, .int j => some (.int (i + j))
  | .str i, .str j => if i.length + j.length ≤ sizeLine then some (.str (i ++ j)) else none
  | _, _ => none
theorem den_iadd {K : PySem.W.Frag} : OpDen K (fun x y H Q => (∃ i j, x = .int i ∧ y = .int j ∧ Q (.int (i + j)) H) ∨ (∃ i j, x = .str i ∧ y = .str j ∧ i.length + j.length ≤ sizeLine ∧ Q (.str (i ++ j)) H)) gIAdd := by
  intro b m H S x y dx dy d Q hs rx ry e q
  unfold gIAdd at e
  split at e
  · cases rx; cases ry; cases e
    exact .inl ⟨_, _, rfl, rfl, q H _ (Same.refl H) (.int _)⟩
  · rename_i i j
    cases rx; cases ry
    by_cases hz : i.length + j.length ≤ sizeLine
    · rw [if_pos hz] at e
      cases e
      exact .inr ⟨_, _, rfl, rfl, hz, q H _ (Same.refl H) (.str _)⟩
    · rw [if_neg hz] at e; cases e
  · cases e
end DL
set_option Elab.async false
set_option linter.all false
set_option maxRecDepth 100000
namespace DL
open PySem PySem.Spec PyProof.Rows L2

/-! ### reckoning: what the combinators come to -/
section
variable {α β : Type}
@[simp] theorem then_ok (a : α) (S : Sto) (g : α → M β) : (Out.ok a S).then g = g a S := rfl
@[simp] theorem then_ex (e : Exn) (S : Sto) (g : α → M β) : (Out.ex e S : Out α).then g = .ex e S := rfl
@[simp] theorem then_bad (g : α → M β) : (Out.bad : Out α).then g = .bad := rfl
@[simp] theorem then_ite {p : Prop} [Decidable p] (x y : Out α) (g : α → M β) : (if p then x else y).then g = if p then x.then g else y.then g := by split <;> rfl
@[simp] theorem mopt_ite {p : Prop} [Decidable p] (x y : Option α) : mopt (if p then x else y) = if p then mopt x else mopt y := by split <;> rfl
@[simp] theorem mopt_some (a : α) : mopt (some a) = mret a := rfl
@[simp] theorem mopt_none : (mopt none : M α) = mbad := rfl
@[simp] theorem sbind_ok (a : α) (S : Sto) (ρ : Env) (k : α → Sto → OutS) : sbind (.ok a S) ρ k = k a S := rfl
@[simp] theorem sbind_ex (e : Exn) (S : Sto) (ρ : Env) (k : α → Sto → OutS) : sbind (.ex e S) ρ k = .ex e ρ S := rfl
@[simp] theorem sbind_bad (ρ : Env) (k : α → Sto → OutS) : sbind .bad ρ k = .bad := rfl
theorem nox_ok {f : M α} {S S' : Sto} {a : α} (h : f S = .ok a S') : nox f S = .ok a S' := by unfold nox; rw [h]
@[simp] theorem nox_mret (a : α) (S : Sto) : nox (mret a) S = .ok a S := rfl
end
@[simp] theorem asB_bl (k : Bool) : asB (.bl k) = mret k := rfl
@[simp] theorem asI_int (i : Int) : asI (.int i) = mret (some i) := rfl
@[simp] theorem asZ_int (i : Int) : asZ (.int i) = mret i := rfl
@[simp] theorem dVar_get (i : Nat) (ρ : Env) (d : D) (h : ρ[i]? = some (some d)) : dVar i ρ = mret d := by unfold dVar; rw [h]
@[simp] theorem dVar_c0 (d : D) (r : Env) : dVar 0 (some d :: r) = mret d := rfl
@[simp] theorem dVar_cs (i : Nat) (x : Option D) (r : Env) : dVar (i + 1) (x :: r) = dVar i r := rfl
@[simp] theorem sSeq_eq (f g : DS) (ρ : Env) (S : Sto) : sSeq f g ρ S = match f ρ S with
  | .ok (.nx ρ') S' => g ρ' S'
  | o => o := rfl
@[simp] theorem outS_nx (ρ : Env) (S : Sto) : outS (.ok (.nx ρ) S) = .ok .non S := rfl
@[simp] theorem outS_rt (d : D) (S : Sto) : outS (.ok (.rt d) S) = .ok d S := rfl
@[simp] theorem outS_ex (e : Exn) (ρ : Env) (S : Sto) : outS (.ex e ρ S) = .ex e S := rfl
@[simp] theorem finO_ok (d : D) (S : Sto) : finO S.length (.ok d S) = .ok d S := if_pos rfl
theorem finO_ok' {n : Nat} (d : D) (S : Sto) (h : S.length = n) : finO n (.ok d S) = .ok d S := if_pos h
@[simp] theorem finO_ex (e : Exn) (S : Sto) : finO S.length (.ex e S) = .ex e S := if_pos rfl
@[simp] theorem gtNil_nil (ρ : Env) : gtNil [] ρ = some ρ := rfl
@[simp] theorem gtCons_name (i : Nat) (h : DGs) (d : D) (r : List D) (ρ : Env) : gtCons (gtName i) h (d :: r) ρ = h r (ρ.set i (some d)) := rfl
theorem gtCons_some {g : DG} {h : DGs} {d : D} {r : List D} {ρ ρ' : Env} (e : g d ρ = some ρ') : gtCons g h (d :: r) ρ = h r ρ' := by unfold gtCons; simp only [e]
@[simp] theorem gtTup_ctup (n : Nat) (h : DGs) (ds : List D) (ρ : Env) : gtTup n h (.ctup ds) ρ = if ds.length = n then h ds ρ else none := rfl
@[simp] theorem gtTup_tup (n : Nat) (h : DGs) (ds : List D) (ρ : Env) : gtTup n h (.tup ds) ρ = if ds.length = n then h ds ρ else none := rfl
@[simp] theorem startE_eq (n : Nat) (ds : List D) : startE n ds = ds.map some ++ List.replicate (n - ds.length) none := rfl
@[simp] theorem sl_eq : sizeLine = 16777216 := sizeLine_eq
@[simp] theorem ite_app {α β : Type} {p : Prop} [Decidable p] (f g : α → β) (x : α) : (if p then f else g) x = if p then f x else g x := by split <;> rfl
@[simp] theorem sbind_ite {α : Type} {p : Prop} [Decidable p] (x y : Out α) (ρ : Env) (k : α → Sto → OutS) : sbind (if p then x else y) ρ k = if p then sbind x ρ k else sbind y ρ k := by split <;> rfl
@[simp] theorem outS_ite {p : Prop} [Decidable p] (x y : OutS) : outS (if p then x else y) = if p then outS x else outS y := by split <;> rfl
@[simp] theorem finO_ite {n : Nat} {p : Prop} [Decidable p] (x y : Out D) : finO n (if p then x else y) = if p then finO n x else finO n y := by split <;> rfl
/-! sequences -/
@[simp] theorem seqA_tup (S : Sto) (ds : List D) : seqA S (.tup ds) = some ds := rfl
@[simp] theorem seqA_lst (S : Sto) (ds : List D) : seqA S (.lst ds) = some ds := rfl
@[simp] theorem seqA_flst (S : Sto) (ds : List D) : seqA S (.flst ds) = some ds := rfl
@[simp] theorem seqA_ptr (S : Sto) (n : Nat) : seqA S (.ptr n) = ofPtr S n := rfl
@[simp] theorem seqL_lst (S : Sto) (ds : List D) : seqL S (.lst ds) = some ds := rfl
@[simp] theorem seqL_flst (S : Sto) (ds : List D) : seqL S (.flst ds) = some ds := rfl
@[simp] theorem seqL_ptr (S : Sto) (n : Nat) : seqL S (.ptr n) = ofPtr S n := rfl
@[simp] theorem seqM_lst (S : Sto) (ds : List D) : seqM S (.lst ds) = some ds := rfl
@[simp] theorem seqM_ptr (S : Sto) (n : Nat) : seqM S (.ptr n) = ofPtr S n := rfl
@[simp] theorem seqT_tup (ds : List D) : seqT (.tup ds) = some ds := rfl
@[simp] theorem frzL_lst (ds : List D) : frzL (.lst ds) = some ds := rfl
@[simp] theorem frzL_flst (ds : List D) : frzL (.flst ds) = some ds := rfl
theorem ofPtr_of {S : Sto} {n : Nat} {ds : List D} (h : S[n]? = some (.lst ds)) : ofPtr S n = some ds := by unfold ofPtr; rw [h]
/-! operators -/
@[simp] theorem gAdd_int (S : Sto) (i j : Int) : gAdd S (.int i) (.int j) = some (.int (i + j)) := rfl
@[simp] theorem gAdd_str (S : Sto) (i j : Str) : gAdd S (.str i) (.str j) = if i.length + j.length ≤ sizeLine then some (.str (i ++ j)) else none := rfl
@[simp] theorem gAdd_tup (S : Sto) (xs ys : List D) : gAdd S (.tup xs) (.tup ys) = if xs.length + ys.length ≤ sizeLine then some (.tup (xs ++ ys)) else none := rfl
@[simp] theorem gAdd_lst (S : Sto) (xs ys : List D) : gAdd S (.lst xs) (.lst ys) = if xs.length + ys.length ≤ sizeLine then some (.lst (xs ++ ys)) else none := rfl
@[simp] theorem gIAdd_int (S : Sto) (i j : Int) : gIAdd S (.int i) (.int j) = some (.int (i + j)) := rfl
@[simp] theorem gInt_int (f : Int → Int → Option Int) (S : Sto) (i j : Int) : gInt f S (.int i) (.int j) = (f i j).map D.int := by
  show (match f i j with
    | some k => some (D.int k)
    | none => none) = _
  cases f i j <;> rfl
@[simp] theorem gCmp_int (f : Int → Int → Bool) (S : Sto) (i j : Int) : gCmp f S (.int i) (.int j) = some (.bl (f i j)) := rfl
@[simp] theorem gSub_int (S : Sto) (i j : Int) : gSub S (.int i) (.int j) = some (.int (i - j)) := rfl
@[simp] theorem gMul_int (S : Sto) (i j : Int) : gMul S (.int i) (.int j) = if (-(2 ^ 64) < i ∧ i < 2 ^ 64) ∨ (-(2 ^ 64) < j ∧ j < 2 ^ 64) then some (.int (i * j)) else none := by
  unfold gMul
  rw [gInt_int]
  split <;> rfl
@[simp] theorem gDiv_int (S : Sto) (i j : Int) : gDiv S (.int i) (.int j) = if 0 < j ∧ j < 1073741824 then some (.int (i / j)) else none := by
  unfold gDiv
  rw [gInt_int]
  split <;> rfl
@[simp] theorem gMod_int (S : Sto) (i j : Int) : gMod S (.int i) (.int j) = if 0 < j then some (.int (i % j)) else none := by
  unfold gMod
  rw [gInt_int]
  split <;> rfl
@[simp] theorem gXor_int (S : Sto) (i j : Int) : gXor S (.int i) (.int j) = some (.int (Builtin.bitXor i j)) := rfl
@[simp] theorem gLt_int (S : Sto) (i j : Int) : gLt S (.int i) (.int j) = some (.bl (decide (i < j))) := rfl
@[simp] theorem gLe_int (S : Sto) (i j : Int) : gLe S (.int i) (.int j) = some (.bl (decide (i ≤ j))) := rfl
@[simp] theorem gGt_int (S : Sto) (i j : Int) : gGt S (.int i) (.int j) = some (.bl (decide (j < i))) := rfl
@[simp] theorem gGe_int (S : Sto) (i j : Int) : gGe S (.int i) (.int j) = some (.bl (decide (j ≤ i))) := rfl
theorem mul_guard {i j : Int} (h : (-(2 ^ 64) < i ∧ i < 2 ^ 64) ∨ (-(2 ^ 64) < j ∧ j < 2 ^ 64)) : (if (-(2 ^ 64) < i ∧ i < 2 ^ 64) ∨ (-(2 ^ 64) < j ∧ j < 2 ^ 64) then some (i * j) else none) = some (i * j) := if_pos h
/-! == of plain things -/
theorem deqv_of {S : Sto} {x y : D} {p q : PyData} (h1 : pyS S x = some p) (h2 : pyS S y = some q) (h3 : SeqAt.shaped p = true) (h4 : SeqAt.shaped q = true) : deqv S x y = some (PyData.eqv p q) := by
  unfold deqv
  simp only [h1, h2]
  rw [if_pos ⟨h3, h4⟩]
theorem shaped_int (i : Int) : SeqAt.shaped (.int i) = true := rfl
theorem shaped_bool (i : Bool) : SeqAt.shaped (.bool i) = true := rfl
theorem shaped_none : SeqAt.shaped .none = true := rfl
theorem shaped_str {x : Str} (h : PyData.strOk x = true) : SeqAt.shaped (.str x) = true := by
  unfold SeqAt.shaped PyData.canLay0
  rw [h]
  rfl
@[simp] theorem deqv_int (S : Sto) (i j : Int) : deqv S (.int i) (.int j) = some (i == j) := deqv_of rfl rfl (shaped_int i) (shaped_int j)
@[simp] theorem deqv_bl (S : Sto) (i j : Bool) : deqv S (.bl i) (.bl j) = some (i == j) := deqv_of rfl rfl (shaped_bool i) (shaped_bool j)
@[simp] theorem deqv_non (S : Sto) : deqv S .non .non = some true := rfl
theorem deqv_str {S : Sto} {i j : Str} (hi : PyData.strOk i = true) (hj : PyData.strOk j = true) : deqv S (.str i) (.str j) = some (i == j) := deqv_of rfl rfl (shaped_str hi) (shaped_str hj)
theorem gEq_of {S : Sto} {x y : D} {k : Bool} (h : deqv S x y = some k) : gEq S x y = some (.bl k) := by unfold gEq; rw [h]
theorem gNe_of {S : Sto} {x y : D} {k : Bool} (h : deqv S x y = some k) : gNe S x y = some (.bl (!k)) := by unfold gNe; rw [h]
@[simp] theorem gEq_int (S : Sto) (i j : Int) : gEq S (.int i) (.int j) = some (.bl (i == j)) := gEq_of (deqv_int S i j)
@[simp] theorem gEq_bl (S : Sto) (i j : Bool) : gEq S (.bl i) (.bl j) = some (.bl (i == j)) := gEq_of (deqv_bl S i j)
@[simp] theorem gNe_int (S : Sto) (i j : Int) : gNe S (.int i) (.int j) = some (.bl (!(i == j))) := gNe_of (deqv_int S i j)
@[simp] theorem gNe_bl (S : Sto) (i j : Bool) : gNe S (.bl i) (.bl j) = some (.bl (!(i == j))) := gNe_of (deqv_bl S i j)
/-! x[i] -/
theorem gIx_seq {S : Sto} {x : D} {ds : List D} {i : Int} (h : seqA S x = some ds) : gIx S x (.int i) = atI ds i := by
  cases x <;> first
    | (cases h; done)
    | (cases h; rfl)
    | (unfold gIx; simp only [h])
@[simp] theorem gIx_ctup (S : Sto) (ds : List D) (i : Int) : gIx S (.ctup ds) (.int i) = atI ds i := rfl
@[simp] theorem gIx_tup (S : Sto) (ds : List D) (i : Int) : gIx S (.tup ds) (.int i) = atI ds i := rfl
@[simp] theorem gIx_lst (S : Sto) (ds : List D) (i : Int) : gIx S (.lst ds) (.int i) = atI ds i := rfl
@[simp] theorem gIx_flst (S : Sto) (ds : List D) (i : Int) : gIx S (.flst ds) (.int i) = atI ds i := rfl
@[simp] theorem gIx_ptr (S : Sto) (p : Nat) (i : Int) : gIx S (.ptr p) (.int i) = match ofPtr S p with
  | some ds => atI ds i
  | none => none := rfl
theorem ofPtr_set {S : Sto} {p : Nat} {ds : List D} (h : p < S.length) : ofPtr (S.set p (.lst ds)) p = some ds := ofPtr_of (List.getElem?_set_self h)
theorem setAt_ptr {S : Sto} {p : Nat} {ds : List D} {k : Int} {j : Nat} {d : D} (h : ofPtr S p = some ds) (e : ixN ds.length k = some j) : setAt S (.ptr p) (.int k) d = some (S.set p (.lst (ds.set j d))) := by
  unfold setAt
  simp only [h, e]
theorem atI_n {α : Type} (xs : List α) (n : Nat) : atI xs (n : Int) = xs[n]? := by
  unfold atI ixN
  rw [if_pos (by omega)]
  by_cases h : n < xs.length
  · rw [if_pos (by omega)]
    show xs[(n : Int).toNat]? = _
    simp
  · rw [if_neg (by omega)]
    show none = _
    rw [List.getElem?_eq_none (by omega)]
@[simp] theorem atI_0 {α : Type} (xs : List α) : atI xs 0 = xs[0]? := atI_n xs 0
@[simp] theorem atI_1 {α : Type} (xs : List α) : atI xs 1 = xs[1]? := atI_n xs 1
@[simp] theorem atI_2 {α : Type} (xs : List α) : atI xs 2 = xs[2]? := atI_n xs 2
@[simp] theorem atI_3 {α : Type} (xs : List α) : atI xs 3 = xs[3]? := atI_n xs 3
@[simp] theorem atI_4 {α : Type} (xs : List α) : atI xs 4 = xs[4]? := atI_n xs 4
@[simp] theorem atI_5 {α : Type} (xs : List α) : atI xs 5 = xs[5]? := atI_n xs 5
theorem atI_in {α : Type} {xs : List α} {i : Int} {a : α} (h0 : 0 ≤ i) (h : xs[i.toNat]? = some a) : atI xs i = some a := by
  have := atI_n xs i.toNat
  rw [Int.toNat_of_nonneg h0] at this
  rw [this, h]
/-! built-ins -/
@[simp] theorem cLen_one (S : Sto) (d : D) : cLen S [d] = lenD S d := rfl
@[simp] theorem lenD_tup (S : Sto) (ds : List D) : lenD S (.tup ds) = some (.int ds.length) := rfl
@[simp] theorem lenD_lst (S : Sto) (ds : List D) : lenD S (.lst ds) = some (.int ds.length) := rfl
@[simp] theorem lenD_flst (S : Sto) (ds : List D) : lenD S (.flst ds) = some (.int ds.length) := rfl
@[simp] theorem lenD_str (S : Sto) (z : Str) : lenD S (.str z) = if z.length ≤ sizeLine then some (.int z.length) else none := rfl
theorem lenD_ptr {S : Sto} {n : Nat} {ds : List D} (h : ofPtr S n = some ds) : lenD S (.ptr n) = some (.int ds.length) := by unfold lenD; simp only [seqA_ptr, h]
@[simp] theorem cInt_int (S : Sto) (i : Int) : cInt S [.int i] = some (.int i) := rfl
@[simp] theorem cList_tup (S : Sto) (ds : List D) : cList S [.tup ds] = some (.lst ds) := rfl
@[simp] theorem cList_lst (S : Sto) (ds : List D) : cList S [.lst ds] = some (.lst ds) := rfl
@[simp] theorem cList_flst (S : Sto) (ds : List D) : cList S [.flst ds] = some (.lst ds) := rfl
@[simp] theorem cTuple_tup (S : Sto) (ds : List D) : cTuple S [.tup ds] = some (.tup ds) := rfl
@[simp] theorem cTuple_lst (S : Sto) (ds : List D) : cTuple S [.lst ds] = some (.tup ds) := rfl
section
variable (S : Sto) (ds : List D) (b : Bool) (i : Int) (x : Str) (n : Nat)
@[simp] theorem isi_non_tuple : cIsi S [.non, .ty "tuple"] = some (.bl false) := rfl
@[simp] theorem isi_non_list : cIsi S [.non, .ty "list"] = some (.bl false) := rfl
@[simp] theorem isi_non_bool : cIsi S [.non, .ty "bool"] = some (.bl false) := rfl
@[simp] theorem isi_non_int : cIsi S [.non, .ty "int"] = some (.bl false) := rfl
@[simp] theorem isi_non_str : cIsi S [.non, .ty "str"] = some (.bl false) := rfl
@[simp] theorem isi_bl_tuple : cIsi S [.bl b, .ty "tuple"] = some (.bl false) := rfl
@[simp] theorem isi_bl_list : cIsi S [.bl b, .ty "list"] = some (.bl false) := rfl
@[simp] theorem isi_bl_bool : cIsi S [.bl b, .ty "bool"] = some (.bl true) := rfl
@[simp] theorem isi_bl_int : cIsi S [.bl b, .ty "int"] = some (.bl true) := rfl
@[simp] theorem isi_bl_str : cIsi S [.bl b, .ty "str"] = some (.bl false) := rfl
@[simp] theorem isi_int_tuple : cIsi S [.int i, .ty "tuple"] = some (.bl false) := rfl
@[simp] theorem isi_int_list : cIsi S [.int i, .ty "list"] = some (.bl false) := rfl
@[simp] theorem isi_int_bool : cIsi S [.int i, .ty "bool"] = some (.bl false) := rfl
@[simp] theorem isi_int_int : cIsi S [.int i, .ty "int"] = some (.bl true) := rfl
@[simp] theorem isi_int_str : cIsi S [.int i, .ty "str"] = some (.bl false) := rfl
@[simp] theorem isi_str_tuple : cIsi S [.str x, .ty "tuple"] = some (.bl false) := rfl
@[simp] theorem isi_str_list : cIsi S [.str x, .ty "list"] = some (.bl false) := rfl
@[simp] theorem isi_str_bool : cIsi S [.str x, .ty "bool"] = some (.bl false) := rfl
@[simp] theorem isi_str_int : cIsi S [.str x, .ty "int"] = some (.bl false) := rfl
@[simp] theorem isi_str_str : cIsi S [.str x, .ty "str"] = some (.bl true) := rfl
@[simp] theorem isi_tup_tuple : cIsi S [.tup ds, .ty "tuple"] = some (.bl true) := rfl
@[simp] theorem isi_tup_list : cIsi S [.tup ds, .ty "list"] = some (.bl false) := rfl
@[simp] theorem isi_tup_bool : cIsi S [.tup ds, .ty "bool"] = some (.bl false) := rfl
@[simp] theorem isi_tup_int : cIsi S [.tup ds, .ty "int"] = some (.bl false) := rfl
@[simp] theorem isi_tup_str : cIsi S [.tup ds, .ty "str"] = some (.bl false) := rfl
@[simp] theorem isi_lst_tuple : cIsi S [.lst ds, .ty "tuple"] = some (.bl false) := rfl
@[simp] theorem isi_lst_list : cIsi S [.lst ds, .ty "list"] = some (.bl true) := rfl
@[simp] theorem isi_lst_bool : cIsi S [.lst ds, .ty "bool"] = some (.bl false) := rfl
@[simp] theorem isi_lst_int : cIsi S [.lst ds, .ty "int"] = some (.bl false) := rfl
@[simp] theorem isi_lst_str : cIsi S [.lst ds, .ty "str"] = some (.bl false) := rfl
@[simp] theorem isi_ptr_tuple {es : List D} (h : ofPtr S n = some es) : cIsi S [.ptr n, .ty "tuple"] = some (.bl false) := by unfold cIsi D.tyn; simp only [h]; rfl
@[simp] theorem isi_ptr_list {es : List D} (h : ofPtr S n = some es) : cIsi S [.ptr n, .ty "list"] = some (.bl true) := by unfold cIsi D.tyn; simp only [h]; rfl
@[simp] theorem isi_ptr_bool {es : List D} (h : ofPtr S n = some es) : cIsi S [.ptr n, .ty "bool"] = some (.bl false) := by unfold cIsi D.tyn; simp only [h]; rfl
@[simp] theorem isi_ptr_int {es : List D} (h : ofPtr S n = some es) : cIsi S [.ptr n, .ty "int"] = some (.bl false) := by unfold cIsi D.tyn; simp only [h]; rfl
@[simp] theorem isi_ptr_str {es : List D} (h : ofPtr S n = some es) : cIsi S [.ptr n, .ty "str"] = some (.bl false) := by unfold cIsi D.tyn; simp only [h]; rfl
@[simp] theorem typ_non : cType S [.non] = some (.ty "NoneType") := rfl
@[simp] theorem typ_bl : cType S [.bl b] = some (.ty "bool") := rfl
@[simp] theorem typ_int : cType S [.int i] = some (.ty "int") := rfl
@[simp] theorem typ_str : cType S [.str x] = some (.ty "str") := rfl
@[simp] theorem typ_tup : cType S [.tup ds] = some (.ty "tuple") := rfl
@[simp] theorem typ_lst : cType S [.lst ds] = some (.ty "list") := rfl
@[simp] theorem isTy_ty (a c : String) : gIsTy S (.ty a) (.ty c) = some (.bl (decide (a = c))) := rfl
@[simp] theorem isNotTy_ty (a c : String) : gIsNotTy S (.ty a) (.ty c) = some (.bl (!decide (a = c))) := rfl
@[simp] theorem isNon_non : gIsNon S .non .non = some (.bl true) := rfl
@[simp] theorem isNon_bl : gIsNon S (.bl b) .non = some (.bl false) := rfl
@[simp] theorem isNon_int : gIsNon S (.int i) .non = some (.bl false) := rfl
@[simp] theorem isNon_str : gIsNon S (.str x) .non = some (.bl false) := rfl
@[simp] theorem isNon_tup : gIsNon S (.tup ds) .non = some (.bl false) := rfl
@[simp] theorem isNon_lst : gIsNon S (.lst ds) .non = some (.bl false) := rfl
@[simp] theorem notNon_non : gNotNon S .non .non = some (.bl false) := rfl
@[simp] theorem notNon_bl : gNotNon S (.bl b) .non = some (.bl true) := rfl
@[simp] theorem notNon_int : gNotNon S (.int i) .non = some (.bl true) := rfl
@[simp] theorem notNon_str : gNotNon S (.str x) .non = some (.bl true) := rfl
@[simp] theorem notNon_tup : gNotNon S (.tup ds) .non = some (.bl true) := rfl
@[simp] theorem notNon_lst : gNotNon S (.lst ds) .non = some (.bl true) := rfl
@[simp] theorem dTruth_bl : dTruth S (.bl b) = some b := rfl
@[simp] theorem dTruth_non : dTruth S .non = some false := rfl
@[simp] theorem dTruth_int : dTruth S (.int i) = some (i != 0) := rfl
@[simp] theorem dTruth_tup : dTruth S (.tup ds) = some (!ds.isEmpty) := rfl
@[simp] theorem dTruth_lst : dTruth S (.lst ds) = some (!ds.isEmpty) := rfl
end
/-! walks -/
@[simp] theorem rng1_int (j : Int) (h1 : -(2 ^ 62) ≤ j) (h2 : j < 2 ^ 62) : rng1 [.int j] = some (rangeD 0 j.toNat) := if_pos ⟨h1, h2⟩
theorem rangeD0 (n : Nat) : rangeD 0 n = (List.range n).map fun i : Nat => .int i := by unfold rangeD; simp
@[simp] theorem sLoop_nil (g : DG) (f : DS) (ρ : Env) (S : Sto) : sLoop g f [] ρ S = .ok (.nx ρ) S := rfl
theorem sLoop_cons (g : DG) (f : DS) (d : D) (r : List D) (ρ : Env) (S : Sto) : sLoop g f (d :: r) ρ S = match g d ρ with
    | none => .bad
    | some ρ1 => match f ρ1 S with
      | .ok (.nx ρ2) S2 => sLoop g f r ρ2 S2
      | .ok (.ct ρ2) S2 => sLoop g f r ρ2 S2
      | .ok (.bk ρ2) S2 => .ok (.nx ρ2) S2
      | o => o := rfl
/-- one turn that goes on -/
theorem sLoop_step {g : DG} {f : DS} {d : D} {r : List D} {ρ ρ1 ρ2 : Env} {S S2 : Sto} (h1 : g d ρ = some ρ1) (h2 : f ρ1 S = .ok (.nx ρ2) S2) : sLoop g f (d :: r) ρ S = sLoop g f r ρ2 S2 := by
  rw [sLoop_cons]
  simp only [h1, h2]
theorem sWh_false {c : Env → M Bool} {f : DS} {n : Nat} {ρ : Env} {S S1 : Sto} (h : c ρ S = .ok false S1) : sWh c f (n + 1) ρ S = .ok (.nx ρ) S1 := by
  unfold sWh; rw [h]; rfl
theorem sWh_true {c : Env → M Bool} {f : DS} {n : Nat} {ρ ρ2 : Env} {S S1 S2 : Sto} (h : c ρ S = .ok true S1) (h2 : f ρ S1 = .ok (.nx ρ2) S2) : sWh c f (n + 1) ρ S = sWh c f n ρ2 S2 := by
  show sbind (c ρ S) ρ _ = _
  rw [h]
  simp only [sbind_ok, if_true, h2]
@[simp] theorem compL_nil (g : DG) (t : Env → M Bool) (e : Env → M D) (ρ : Env) (S : Sto) : compL g t e ρ [] S = .ok [] S := rfl
theorem compL_cons {g : DG} {t : Env → M Bool} {e : Env → M D} {ρ ρ1 : Env} {d : D} {r : List D} {S : Sto} (h : g d ρ = some ρ1) : compL g t e ρ (d :: r) S = (nox (t ρ1) S).then fun c => if c then mbind (nox (e ρ1)) fun y => mbind (compL g t e ρ r) fun ys => mret (y :: ys) else compL g t e ρ r := by
  show (match g d ρ with
    | none => mbad
    | some ρ1 => mbind (nox (t ρ1)) fun c => if c then mbind (nox (e ρ1)) fun y => mbind (compL g t e ρ r) fun ys => mret (y :: ys) else compL g t e ρ r) S = _
  rw [h]
  rfl
/-- a comprehension that changes nothing: filter and map -/
theorem compL_pure {g : DG} {t : Env → M Bool} {e : Env → M D} {ρ : Env} {S : Sto} (p : D → Bool) (f : D → D) : ∀ ds : List D,
    (∀ d ∈ ds, ∃ ρ1, g d ρ = some ρ1 ∧ t ρ1 S = .ok (p d) S ∧ (p d = true → e ρ1 S = .ok (f d) S)) → compL g t e ρ ds S = .ok ((ds.filter p).map f) S
  | [], _ => rfl
  | d :: r, h => by
    obtain ⟨ρ1, h1, h2, h3⟩ := h d List.mem_cons_self
    rw [compL_cons h1, nox_ok h2]
    have ih := compL_pure p f r fun d hd => h d (List.mem_cons_of_mem _ hd)
    by_cases hp : p d = true
    · have h4 := h3 hp
      simp only [then_ok, hp, if_true, mbind, nox_ok h4, ih, mret, List.filter_cons_of_pos, List.map_cons]
    · simp only [then_ok, hp, if_false, ih, Bool.false_eq_true]
      rw [List.filter_cons_of_neg hp]
/-! strings of the text -/
@[simp] theorem tblAt_str (t : List (Str × D)) (z : Str) : tblAt t (.str z) = mopt (t.lookup z) := rfl
end DL
set_option Elab.async false
set_option linter.all false
set_option maxRecDepth 100000
set_option maxHeartbeats 4000000
/-! the laws' own helpers, once for all -/
namespace DL.Pre
open PySem PySem.Spec PyProof.Rows L2 DL
def fuel : Nat := 1000000
def G__law_same (F__law_same_ : List D → M D) : DS := (sSeq (sIf (dOr (dTrue (dCallB cIsi (aCons (dVar 1) (aCons (dC (.ty "tuple")) aNil)))) (dTrue (dCallB cIsi (aCons (dVar 1) (aCons (dC (.ty "list")) aNil))))) (sSeq (sIf (dOr (dTest (dOp2 gNe (dCallB cIsi (aCons (dVar 1) (aCons (dC (.ty "tuple")) aNil))) (dCallB cIsi (aCons (dVar 0) (aCons (dC (.ty "tuple")) aNil))))) (dOr (dTest (dOp2 gNe (dCallB cIsi (aCons (dVar 1) (aCons (dC (.ty "list")) aNil))) (dCallB cIsi (aCons (dVar 0) (aCons (dC (.ty "list")) aNil))))) (dTest (dOp2 gNe (dCallB cLen (aCons (dVar 0) aNil)) (dCallB cLen (aCons (dVar 1) aNil)))))) (sRet (dC (.bl false))) sNil)
  (sRet (dOp2 gEq (dCallB cLen (aCons (dComp (iArgs rng1 (aCons (dCallB cLen (aCons (dVar 1) aNil)) aNil)) (gtName 2) (dNot (dTrue (dCall 2 F__law_same_ (aCons (dOp2 gIx (dVar 0) (dVar 2)) (aCons (dOp2 gIx (dVar 1) (dVar 2)) aNil))))) (dVar 2) [2]) aNil)) (dC (.int 0))))) sNil)
  (sSeq (sIf (dTest (dOp2 gIsNon (dVar 1) (dC .non))) (sRet (dOp2 gIsNon (dVar 0) (dC .non))) sNil)
  (sSeq (sIf (dOr (dTrue (dCallB cIsi (aCons (dVar 1) (aCons (dC (.ty "bool")) aNil)))) (dTrue (dCallB cIsi (aCons (dVar 0) (aCons (dC (.ty "bool")) aNil))))) (sRet (dAndV (dCallB cIsi (aCons (dVar 1) (aCons (dC (.ty "bool")) aNil))) (dAndV (dCallB cIsi (aCons (dVar 0) (aCons (dC (.ty "bool")) aNil))) (dOp2 gEq (dVar 0) (dVar 1))))) sNil)
  (sSeq (sIf (dTrue (dCallB cIsi (aCons (dVar 1) (aCons (dC (.ty "int")) aNil)))) (sRet (dAndV (dCallB cIsi (aCons (dVar 0) (aCons (dC (.ty "int")) aNil))) (dOp2 gEq (dVar 0) (dVar 1)))) sNil)
  (sRet (dAndV (dCallB cIsi (aCons (dVar 0) (aCons (dC (.ty "str")) aNil))) (dOp2 gEq (dVar 0) (dVar 1))))))))
def F__law_same : Nat → List D → M D
  | 0 => fun _ => mbad
  | n + 1 => fzF (mkF 3 (G__law_same (F__law_same n)))
def G__law_pool : DS := (sSeq (sAsg (dC (.int 7)) (gtName 1))
  (sSeq (sFor (iLst (dSlice (dVar 0) oNone (oSome (dC (.int 63))))) (gtName 2) (sAsg (dOp2 gMod (dCallB cInt (aCons (dOp2 gAdd (dOp2 gMul (dVar 1) (dC (.int 31))) (dVar 2)) aNil)) (dC (.int 1000003))) (gtName 1)))
  (sRet (dLstP (aCons (dCallB cList (aCons (dVar 0) aNil)) (aCons (dC (.int 0)) (aCons (dC (.int 0)) (aCons (dC (.int 0)) (aCons (dVar 1) aNil)))))))))
def F__law_pool : List D → M D := mkF 3 G__law_pool
def G__law_spread : DS := (sSeq (sAsg (dOp2 gMod (dCallB cInt (aCons (dVar 0) aNil)) (dC (.int 2147483647))) (gtName 1))
  (sSeq (sAsg (dC (.int 1)) (gtName 2))
  (sSeq (sFor (iArgs rng1 (aCons (dC (.int 4)) aNil)) (gtName 3) (sSeq (sAsg (dOp2 gMod (dCallB cInt (aCons (dOp2 gAdd (dOp2 gAdd (dOp2 gMul (dVar 1) (dC (.int 48271))) (dC (.int 12345))) (dVar 3)) aNil)) (dC (.int 2147483647))) (gtName 1))
  (sAsg (dOp2 gAdd (dOp2 gMul (dVar 2) (dC (.int 2147483647))) (dVar 1)) (gtName 2))))
  (sRet (dVar 2)))))
def F__law_spread : List D → M D := fzF (mkF 4 G__law_spread)
def G__law_draw : DS := (sSeq (sIf (dAnd (dTest (dOp2 gLe (dOp2 gIx (dVar 0) (dC (.int 2))) (dC (.int 0)))) (dTest (dOp2 gLt (dOp2 gIx (dVar 0) (dC (.int 1))) (dCallB cLen (aCons (dOp2 gIx (dVar 0) (dC (.int 0))) aNil))))) (sSeq (sAsg (dOp2 gIx (dOp2 gIx (dVar 0) (dC (.int 0))) (dOp2 gIx (dVar 0) (dC (.int 1)))) (gtName 3))
  (sSeq (sSetIx (dVar 0) (dC (.int 1)) (dOp2 gAdd (dOp2 gIx (dVar 0) (dC (.int 1))) (dC (.int 1))))
  (sSeq (sSetIx (dVar 0) (dC (.int 2)) (dVar 3))
  (sIf (dTest (dOp2 gLt (dVar 3) (dC (.int 1000000000000000000)))) (sSetIx (dVar 0) (dC (.int 2)) (dCall 1 F__law_spread (aCons (dVar 3) aNil))) sNil)))) sNil)
  (sSeq (sSetIx (dVar 0) (dC (.int 3)) (dOp2 gAdd (dOp2 gIx (dVar 0) (dC (.int 3))) (dC (.int 1))))
  (sSeq (sIf (dTest (dOp2 gLe (dOp2 gIx (dVar 0) (dC (.int 2))) (dC (.int 0)))) (sSeq (sAsg (dOp2 gMod (dCallB cInt (aCons (dOp2 gAdd (dOp2 gAdd (dOp2 gMul (dOp2 gIx (dVar 0) (dC (.int 4))) (dC (.int 48271))) (dOp2 gMul (dOp2 gIx (dVar 0) (dC (.int 3))) (dC (.int 69621)))) (dC (.int 1))) aNil)) (dC (.int 2147483647))) (gtName 4))
  (sSeq (sAsg (dOp2 gMod (dCallB cInt (aCons (dOp2 gAdd (dOp2 gMul (dVar 4) (dC (.int 16807))) (dOp2 gIx (dVar 0) (dC (.int 3)))) aNil)) (dC (.int 2147483629))) (gtName 4))
  (sRet (dOp2 gMod (dOp2 gDiv (dVar 4) (dC (.int 5))) (dVar 1))))) sNil)
  (sSeq (sAsg (dOp2 gMod (dCallB cInt (aCons (dOp2 gIx (dVar 0) (dC (.int 2))) aNil)) (dVar 1)) (gtName 2))
  (sSeq (sSetIx (dVar 0) (dC (.int 2)) (dOp2 gDiv (dOp2 gIx (dVar 0) (dC (.int 2))) (dVar 1)))
  (sRet (dVar 2)))))))
def F__law_draw : List D → M D := fzF (mkF 5 G__law_draw)
def G__law_pick : DS := (sRet (dOp2 gIx (dVar 1) (dCall 2 F__law_draw (aCons (dVar 0) (aCons (dCallB cLen (aCons (dVar 1) aNil)) aNil)))))
def F__law_pick : List D → M D := fzF (mkF 2 G__law_pick)

/-! ### _law_same -/
mutual
def Plain : D → Bool
  | .non => true
  | .bl _ => true
  | .int _ => true
  | .str x => PyData.strOk x
  | .tup ds => Plains ds && decide (ds.length < 16777216)
  | .lst ds => Plains ds && decide (ds.length < 16777216)
  | _ => false
def Plains : List D → Bool
  | [] => true
  | d :: ds => Plain d && Plains ds
end
mutual
def dep : D → Nat
  | .tup ds => deps ds + 1
  | .lst ds => deps ds + 1
  | _ => 0
def deps : List D → Nat
  | [] => 0
  | d :: ds => max (dep d) (deps ds)
end
theorem plains_mem : ∀ {ds : List D}, Plains ds = true → ∀ d ∈ ds, Plain d = true
  | d :: ds, h, x, hx => by
    simp only [Plains, Bool.and_eq_true] at h
    rcases List.mem_cons.mp hx with e | hx
    · rw [e]; exact h.1
    · exact plains_mem h.2 x hx
theorem deps_mem : ∀ {ds : List D} {d : D}, d ∈ ds → dep d ≤ deps ds
  | x :: ds, d, h => by
    simp only [deps]
    rcases List.mem_cons.mp h with e | h
    · rw [e]; omega
    · have := deps_mem h; omega
theorem same_turns {n : Nat} {ds : List D} {mk : List D → D} (S : Sto) (hmk : mk = D.tup ∨ mk = D.lst) (ih : ∀ d ∈ ds, ∀ S, F__law_same n [d, d] S = .ok (.bl true) S) :
    compL (gtName 2) (dNot (dTrue (dCall 2 (F__law_same n) (aCons (dOp2 gIx (dVar 0) (dVar 2)) (aCons (dOp2 gIx (dVar 1) (dVar 2)) aNil))))) (dVar 2) [some (mk ds), some (mk ds), none] (rangeD 0 ds.length) S = .ok [] S := by
  have := compL_pure (g := gtName 2) (t := dNot (dTrue (dCall 2 (F__law_same n) (aCons (dOp2 gIx (dVar 0) (dVar 2)) (aCons (dOp2 gIx (dVar 1) (dVar 2)) aNil))))) (e := dVar 2) (ρ := [some (mk ds), some (mk ds), none]) (S := S) (fun _ => false) id (rangeD 0 ds.length) fun d hd => ?_
  · rw [this]
    simp
  · obtain ⟨i, hi, rfl⟩ : ∃ i : Nat, i < ds.length ∧ d = .int i := by
      rw [rangeD0] at hd
      obtain ⟨i, hi, e⟩ := List.mem_map.mp hd
      exact ⟨i, List.mem_range.mp hi, e.symm⟩
    refine ⟨_, rfl, ?_, fun z => by cases z⟩
    have e1 : atI ds (i : Int) = some ds[i] := by rw [atI_n, List.getElem?_eq_getElem hi]
    have e2 := ih ds[i] (List.getElem_mem hi) S
    rcases hmk with rfl | rfl <;> simp [e1, nox_ok e2]
theorem rng_len {n : Nat} (h : n < 16777216) : rng1 [.int (n : Int)] = some (rangeD 0 n) := by
  have := rng1_int (n : Int) (by omega) (by omega)
  rwa [Int.toNat_natCast] at this
theorem rangeD_len (lo : Int) (n : Nat) : (rangeD lo n).length = n := by unfold rangeD; simp
theorem same_seq {n : Nat} {ds : List D} {mk : List D → D} (S : Sto) (hmk : mk = D.tup ∨ mk = D.lst) (hl : ds.length < 16777216) (ih : ∀ d ∈ ds, ∀ S, F__law_same n [d, d] S = .ok (.bl true) S) : F__law_same (n + 1) [mk ds, mk ds] S = .ok (.bl true) S := by
  have hr := rng_len hl
  have hrl : (rangeD 0 ds.length).length ≤ sizeLine := by rw [rangeD_len, sl_eq]; omega
  have hc := same_turns S hmk ih
  rcases hmk with rfl | rfl
  · simp only [F__law_same, G__law_same, fzF, mkF, startE_eq]
    simp -implicitDefEqProofs [-sl_eq, hr, hrl, dwipe, hc]
  · simp only [F__law_same, G__law_same, fzF, mkF, startE_eq]
    simp -implicitDefEqProofs [-sl_eq, hr, hrl, dwipe, hc]
theorem same_refl : ∀ (n : Nat) (d : D) (S : Sto), Plain d = true → dep d < n → F__law_same n [d, d] S = .ok (.bl true) S
  | 0, _, _, _, h => absurd h (Nat.not_lt_zero _)
  | n + 1, d, S, hp, hd => by
    cases d with
    | non => simp -implicitDefEqProofs [F__law_same, G__law_same]
    | bl b => simp -implicitDefEqProofs [F__law_same, G__law_same]
    | int i => simp -implicitDefEqProofs [F__law_same, G__law_same]
    | str x =>
      have h1 : gEq S (.str x) (.str x) = some (.bl true) := gEq_of (by rw [deqv_str hp hp]; simp)
      simp -implicitDefEqProofs [F__law_same, G__law_same, h1]
    | tup ds =>
      simp only [Plain, Bool.and_eq_true, decide_eq_true_eq] at hp
      simp only [dep] at hd
      exact same_seq (mk := D.tup) S (.inl rfl) hp.2 fun x hx S => same_refl n x S (plains_mem hp.1 x hx) (by have := deps_mem hx; omega)
    | lst ds =>
      simp only [Plain, Bool.and_eq_true, decide_eq_true_eq] at hp
      simp only [dep] at hd
      exact same_seq (mk := D.lst) S (.inr rfl) hp.2 fun x hx S => same_refl n x S (plains_mem hp.1 x hx) (by have := deps_mem hx; omega)
    | _ => cases hp

/-! ### the draws -/
/-- the pool's list -/
def PoolOk (ds : List D) : Prop := ∃ (scr : List Int) (cur val cnt salt : Int), ds = [.lst (scr.map D.int), .int cur, .int val, .int cnt, .int salt] ∧ 0 ≤ cur ∧ scr.length ≤ 63
theorem spread_ok (c : Int) (S : Sto) : ∃ k : Int, F__law_spread [.int c] S = .ok (.int k) S := by
  have hr : rng1 [.int 4] = some [.int 0, .int 1, .int 2, .int 3] := rfl
  simp -implicitDefEqProofs [F__law_spread, G__law_spread, hr, sLoop_cons]
/-- the salt: a walk over the script's first ints -/
theorem pool_loop (x : D) : ∀ (ns : List Int) (s : Int) (y : Option D) (S : Sto), ∃ (s' : Int) (z : Option D),
    sLoop (gtName 2) (sAsg (dOp2 gMod (dCallB cInt (aCons (dOp2 gAdd (dOp2 gMul (dVar 1) (dC (.int 31))) (dVar 2)) aNil)) (dC (.int 1000003))) (gtName 1)) (ns.map D.int) [some x, some (.int s), y] S = .ok (.nx [some x, some (.int s'), z]) S
  | [], s, y, S => ⟨s, y, rfl⟩
  | n :: ns, s, y, S => by
    obtain ⟨s', z, e⟩ := pool_loop x ns ((s * 31 + n) % 1000003) (some (.int n)) S
    refine ⟨s', z, ?_⟩
    rw [← e]
    simp -implicitDefEqProofs [sLoop_cons]
theorem cutD_63 (ns : List Int) (h : ns.length ≤ 63) : cutD (ns.map D.int) none (some 63) = ns.map D.int := by
  unfold cutD
  rw [HT.sIx_none, show HT.sIx (ns.map D.int).length (ns.map D.int).length (some 63) = min 63 (ns.map D.int).length from HT.sIx_nat _ _ 63]
  have e : min 63 (ns.map D.int).length - 0 = (ns.map D.int).length := by rw [List.length_map]; omega
  rw [e, List.drop_zero, List.take_length]
theorem pool_ok (ns : List Int) (h : ns.length ≤ 63) (S : Sto) : ∃ ds, PoolOk ds ∧ F__law_pool [scriptD ns] S = .ok (.ptr S.length) (S ++ [.lst ds]) := by
  obtain ⟨s', z, e⟩ := pool_loop (.flst (ns.map D.int)) ns 7 none S
  refine ⟨_, ⟨ns, 0, 0, 0, s', rfl, Int.le_refl _, h⟩, ?_⟩
  have hs : gSl S none (some 63) (.flst (ns.map D.int)) = some (.lst (cutD (ns.map D.int) none (some 63))) := rfl
  rw [cutD_63 ns h] at hs
  simp -implicitDefEqProofs [F__law_pool, G__law_pool, scriptD, hs, e]
/-- the end of a draw, behind the refill -/
theorem draw_end {S : Sto} {p : Nat} {many : Int} {a : D} {cur val cnt salt : Int} {y : Option D} (hb : ofPtr S p = some [a, .int cur, .int val, .int cnt, .int salt]) (hl : p < S.length) (hm : 0 < many) (hm' : many < 1073741824) (g : DS)
    (hg : g [some (.ptr p), some (.int many), none, y, none] S = (sSeq (sSetIx (dVar 0) (dC (.int 3)) (dOp2 gAdd (dOp2 gIx (dVar 0) (dC (.int 3))) (dC (.int 1))))
  (sSeq (sIf (dTest (dOp2 gLe (dOp2 gIx (dVar 0) (dC (.int 2))) (dC (.int 0)))) (sSeq (sAsg (dOp2 gMod (dCallB cInt (aCons (dOp2 gAdd (dOp2 gAdd (dOp2 gMul (dOp2 gIx (dVar 0) (dC (.int 4))) (dC (.int 48271))) (dOp2 gMul (dOp2 gIx (dVar 0) (dC (.int 3))) (dC (.int 69621)))) (dC (.int 1))) aNil)) (dC (.int 2147483647))) (gtName 4))
  (sSeq (sAsg (dOp2 gMod (dCallB cInt (aCons (dOp2 gAdd (dOp2 gMul (dVar 4) (dC (.int 16807))) (dOp2 gIx (dVar 0) (dC (.int 3)))) aNil)) (dC (.int 2147483629))) (gtName 4))
  (sRet (dOp2 gMod (dOp2 gDiv (dVar 4) (dC (.int 5))) (dVar 1))))) sNil)
  (sSeq (sAsg (dOp2 gMod (dCallB cInt (aCons (dOp2 gIx (dVar 0) (dC (.int 2))) aNil)) (dVar 1)) (gtName 2))
  (sSeq (sSetIx (dVar 0) (dC (.int 2)) (dOp2 gDiv (dOp2 gIx (dVar 0) (dC (.int 2))) (dVar 1)))
  (sRet (dVar 2)))))) [some (.ptr p), some (.int many), none, y, none] S) :
    ∃ k val' cnt' : Int, 0 ≤ k ∧ k < many ∧ g [some (.ptr p), some (.int many), none, y, none] S = .ok (.rt (.int k)) (S.set p (.lst [a, .int cur, .int val', .int cnt', .int salt])) := by
  rw [hg]
  have e3 : ixN 5 3 = some 3 := rfl
  have e2 : ixN 5 2 = some 2 := rfl
  have s3 : ∀ d, setAt S (.ptr p) (.int 3) d = some (S.set p (.lst [a, .int cur, .int val, d, .int salt])) := fun d => setAt_ptr hb e3
  have s2 : ∀ d c, setAt (S.set p (.lst [a, .int cur, .int val, c, .int salt])) (.ptr p) (.int 2) d = some ((S.set p (.lst [a, .int cur, .int val, c, .int salt])).set p (.lst [a, .int cur, d, c, .int salt])) := fun d c => setAt_ptr (ds := [a, .int cur, .int val, c, .int salt]) (j := 2) (ofPtr_set hl) rfl
  have o1 : ∀ ds, ofPtr (S.set p (.lst ds)) p = some ds := fun ds => ofPtr_set hl
  by_cases hv : val ≤ 0
  · refine ⟨((salt * 48271 + (cnt + 1) * 69621 + 1) % 2147483647 * 16807 + (cnt + 1)) % 2147483629 / 5 % many, val, cnt + 1, Int.emod_nonneg _ (by omega), Int.emod_lt_of_pos _ hm, ?_⟩
    simp -implicitDefEqProofs [hb, s3, o1, hv, hm]
  · refine ⟨val % many, val / many, cnt + 1, Int.emod_nonneg _ (by omega), Int.emod_lt_of_pos _ hm, ?_⟩
    simp -implicitDefEqProofs [hb, s3, s2, o1, hv, hm, hm']
theorem draw_fin {S S1 S2 : Sto} {G1 g : DS} {N : Nat} {ds : List D} {ρ : Env} {d : D} (h1 : G1 (startE N ds) S = .ok (.nx ρ) S1) (h2 : g ρ S1 = .ok (.rt d) S2) (hl : S2.length = S.length) : fzF (mkF N (sSeq G1 g)) ds S = .ok d S2 := by
  unfold fzF mkF
  rw [sSeq_eq, h1]
  simp only [h2, outS_rt]
  exact finO_ok' _ _ hl
theorem draw_ok {S : Sto} {p : Nat} {ds : List D} {many : Int} (h : S[p]? = some (.lst ds)) (hp : PoolOk ds) (hm : 0 < many) (hm' : many < 1073741824) :
    ∃ k ds', PoolOk ds' ∧ 0 ≤ k ∧ k < many ∧ F__law_draw [.ptr p, .int many] S = .ok (.int k) (S.set p (.lst ds')) := by
  obtain ⟨scr, cur, val, cnt, salt, rfl, h0, h63⟩ := hp
  have hb := ofPtr_of h
  have hl : p < S.length := (List.getElem?_eq_some_iff.mp h).1
  have o1 : ∀ ds, ofPtr (S.set p (.lst ds)) p = some ds := fun ds => ofPtr_set hl
  by_cases hc : val ≤ 0 ∧ cur < scr.length
  · obtain ⟨hv, hcl⟩ := hc
    obtain ⟨c, hcg⟩ : ∃ c, scr[cur.toNat]? = some c := ⟨scr[cur.toNat]'(by omega), List.getElem?_eq_getElem _⟩
    have e1 : atI (scr.map D.int) cur = some (.int c) := atI_in h0 (by rw [List.getElem?_map, hcg]; rfl)
    have s1 : ∀ d, setAt S (.ptr p) (.int 1) d = some (S.set p (.lst [.lst (scr.map D.int), d, .int val, .int cnt, .int salt])) := fun d => setAt_ptr (j := 1) hb rfl
    have s2 : ∀ d c v, setAt (S.set p (.lst [.lst (scr.map D.int), c, v, .int cnt, .int salt])) (.ptr p) (.int 2) d = some ((S.set p (.lst [.lst (scr.map D.int), c, v, .int cnt, .int salt])).set p (.lst [.lst (scr.map D.int), c, d, .int cnt, .int salt])) := fun d c v => setAt_ptr (ds := [.lst (scr.map D.int), c, v, .int cnt, .int salt]) (j := 2) (ofPtr_set hl) rfl
    by_cases hs : c < 1000000000000000000
    · obtain ⟨k0, hk0⟩ := spread_ok c (S.set p (.lst [.lst (scr.map D.int), .int (cur + 1), .int c, .int cnt, .int salt]))
      obtain ⟨k, v', c', h1, h2, h3⟩ := draw_end (S := S.set p (.lst [.lst (scr.map D.int), .int (cur + 1), .int k0, .int cnt, .int salt])) (y := some (.int c)) (o1 _) (by simpa using hl) hm hm' _ rfl
      refine ⟨k, _, ⟨scr, cur + 1, v', c', salt, rfl, by omega, h63⟩, h1, h2, ?_⟩
      rw [List.set_set] at h3
      refine draw_fin ?_ h3 (by simp)
      simp -implicitDefEqProofs [hb, hv, hcl, e1, s1, s2, hs, nox_ok hk0]
    · obtain ⟨k, v', c', h1, h2, h3⟩ := draw_end (S := S.set p (.lst [.lst (scr.map D.int), .int (cur + 1), .int c, .int cnt, .int salt])) (y := some (.int c)) (o1 _) (by simpa using hl) hm hm' _ rfl
      refine ⟨k, _, ⟨scr, cur + 1, v', c', salt, rfl, by omega, h63⟩, h1, h2, ?_⟩
      rw [List.set_set] at h3
      refine draw_fin ?_ h3 (by simp)
      simp -implicitDefEqProofs [hb, hv, hcl, e1, s1, s2, hs]
  · obtain ⟨k, v', c', h1, h2, h3⟩ := draw_end (y := none) hb hl hm hm' _ rfl
    refine ⟨k, _, ⟨scr, cur, v', c', salt, rfl, h0, h63⟩, h1, h2, ?_⟩
    refine draw_fin ?_ h3 (by simp)
    by_cases hv : val ≤ 0
    · have hcl : ¬ cur < scr.length := fun z => hc ⟨hv, z⟩
      simp -implicitDefEqProofs [hb, hv, hcl]
    · simp -implicitDefEqProofs [hb, hv]
theorem pick_ok {S : Sto} {p : Nat} {ds es : List D} (h : S[p]? = some (.lst ds)) (hp : PoolOk ds) (h0 : 0 < es.length) (h1 : es.length < 1000000) :
    ∃ k ds', PoolOk ds' ∧ ∃ hk : k < es.length, F__law_pick [.ptr p, .tup es] S = .ok es[k] (S.set p (.lst ds')) := by
  obtain ⟨k, ds', h2, h3, h4, h5⟩ := draw_ok (many := es.length) h hp (by omega) (by omega)
  have hk : k.toNat < es.length := by omega
  refine ⟨k.toNat, ds', h2, hk, ?_⟩
  have e : atI es k = some es[k.toNat] := atI_in h3 (List.getElem?_eq_getElem hk)
  simp -implicitDefEqProofs [F__law_pick, G__law_pick, nox_ok h5, e]
  exact finO_ok' _ _ (by simp)
end DL.Pre
set_option Elab.async false
set_option linter.all false
set_option maxRecDepth 100000
namespace DL
open PySem PySem.Spec PyProof.Rows L2

/-! ### sum, max, min, sorted of ints -/
def intsD : List D → Option (List Int)
  | [] => some []
  | .int i :: r => (intsD r).map (i :: ·)
  | _ => none
@[simp] theorem intsD_map : ∀ ns : List Int, intsD (ns.map D.int) = some ns
  | [] => rfl
  | n :: ns => by
    show (intsD (ns.map D.int)).map (n :: ·) = _
    rw [intsD_map ns]
    rfl
section
variable {K : PySem.W.Frag} {b m : List Addr} {H : Hp} {S : Sto}
theorem intsD_rep : ∀ {ds : List D} {xs : List V} {ns : List Int}, Reps K b m H xs ds → intsD ds = some ns → xs = ns.map V.int ∧ ds = ns.map D.int
  | _, _, _, .nil, e => by cases e; exact ⟨rfl, rfl⟩
  | _, _, _, .cons (d := d) (ds := ds) r rs, e => by
    cases r with
    | int i =>
      have e' : (intsD ds).map (i :: ·) = some _ := e
      cases q : intsD ds with
      | none => rw [q] at e'; cases e'
      | some ms =>
        rw [q] at e'
        cases e'
        obtain ⟨h1, h2⟩ := intsD_rep rs q
        rw [h1, h2]
        exact ⟨rfl, rfl⟩
    | _ => cases e
/-- the ints of a list -/
def intsL (S : Sto) : List D → Option (List Int)
  | [d] => match seqL S d with
    | some ds => intsD ds
    | none => none
  | _ => none
theorem intsL_rep {ds : List D} {xs : List V} {ns : List Int} (hs : StoR K b m H S) (r : Reps K b m H xs ds) (e : intsL S ds = some ns) : ∃ a, xs = [.ref a] ∧ SqL K H a (ns.map V.int) := by
  unfold intsL at e
  split at e
  · rename_i d
    cases q : seqL S d with
    | none => simp only [q] at e; cases e
    | some es =>
      simp only [q] at e
      obtain ⟨v, rfl, rv⟩ := r.one
      obtain ⟨a, ys, rfl, h1, h2⟩ := seqL_rep hs rv q
      obtain ⟨h3, h4⟩ := intsD_rep h2 e
      rw [h3] at h1
      exact ⟨a, rfl, h1⟩
  · cases e
def cSum : GC := fun S ds => (intsL S ds).map fun ns => .int ns.sum
def cMaxL : GC := fun S ds => match intsL S ds with
  | some (n :: ns) => some (.int (ns.foldl max n))
  | _ => none
def cMinL : GC := fun S ds => match intsL S ds with
  | some (n :: ns) => some (.int (ns.foldl min n))
  | _ => none
theorem foldl_max_ge : ∀ (ns : List Int) (n : Int), n ≤ ns.foldl max n ∧ (∀ y ∈ ns, y ≤ ns.foldl max n) ∧ (ns.foldl max n = n ∨ ns.foldl max n ∈ ns)
  | [], n => ⟨Int.le_refl _, fun y h => by simp at h, .inl rfl⟩
  | k :: ns, n => by
    obtain ⟨h1, h2, h3⟩ := foldl_max_ge ns (max n k)
    show n ≤ ns.foldl max (max n k) ∧ _
    refine ⟨by omega, fun y hy => ?_, ?_⟩
    · rcases List.mem_cons.mp hy with e | hy
      · show y ≤ ns.foldl max (max n k); omega
      · exact h2 y hy
    · rcases h3 with h3 | h3
      · by_cases hk : n ≤ k
        · exact .inr (by show ns.foldl max (max n k) ∈ _; rw [h3, show max n k = k by omega]; exact List.mem_cons_self)
        · exact .inl (by show ns.foldl max (max n k) = n; rw [h3]; omega)
      · exact .inr (List.mem_cons_of_mem _ h3)
theorem foldl_min_le : ∀ (ns : List Int) (n : Int), ns.foldl min n ≤ n ∧ (∀ y ∈ ns, ns.foldl min n ≤ y) ∧ (ns.foldl min n = n ∨ ns.foldl min n ∈ ns)
  | [], n => ⟨Int.le_refl _, fun y h => by simp at h, .inl rfl⟩
  | k :: ns, n => by
    obtain ⟨h1, h2, h3⟩ := foldl_min_le ns (min n k)
    show ns.foldl min (min n k) ≤ n ∧ _
    refine ⟨by omega, fun y hy => ?_, ?_⟩
    · rcases List.mem_cons.mp hy with e | hy
      · show ns.foldl min (min n k) ≤ y; omega
      · exact h2 y hy
    · rcases h3 with h3 | h3
      · by_cases hk : k ≤ n
        · exact .inr (by show ns.foldl min (min n k) ∈ _; rw [h3, show min n k = k by omega]; exact List.mem_cons_self)
        · exact .inl (by show ns.foldl min (min n k) = n; rw [h3]; omega)
      · exact .inr (List.mem_cons_of_mem _ h3)
theorem den_sum : CallDen K (rSum K) cSum := by
  intro b m H S xs ds d Q hs r e q
  unfold cSum at e
  cases q1 : intsL S ds with
  | none => rw [q1] at e; cases e
  | some ns =>
    rw [q1] at e
    cases e
    obtain ⟨a, h1, h2⟩ := intsL_rep hs r q1
    exact ⟨a, ns, h1, h2, q _ _ (Same.refl _) (.int _)⟩
theorem den_maxL : CallDen K (rMax K) cMaxL := by
  intro b m H S xs ds d Q hs r e q
  unfold cMaxL at e
  split at e
  · rename_i n ns q1
    cases e
    obtain ⟨a, h1, h2⟩ := intsL_rep hs r q1
    refine ⟨a, n :: ns, h1, h2, by simp, fun k hk hle => ?_⟩
    obtain ⟨g1, g2, g3⟩ := foldl_max_ge ns n
    have : k = ns.foldl max n := by
      refine Int.le_antisymm ?_ ?_
      · rcases List.mem_cons.mp hk with z | z
        · rw [z]; exact g1
        · exact g2 k z
      · rcases g3 with z | z
        · rw [z]; exact hle n List.mem_cons_self
        · exact hle _ (List.mem_cons_of_mem _ z)
    rw [this]
    exact q _ _ (Same.refl _) (.int _)
  · cases e
theorem den_minL : CallDen K (rMin K) cMinL := by
  intro b m H S xs ds d Q hs r e q
  unfold cMinL at e
  split at e
  · rename_i n ns q1
    cases e
    obtain ⟨a, h1, h2⟩ := intsL_rep hs r q1
    refine ⟨a, n :: ns, h1, h2, by simp, fun k hk hle => ?_⟩
    obtain ⟨g1, g2, g3⟩ := foldl_min_le ns n
    have : k = ns.foldl min n := by
      refine Int.le_antisymm ?_ ?_
      · rcases g3 with z | z
        · rw [z]; exact hle n List.mem_cons_self
        · exact hle _ (List.mem_cons_of_mem _ z)
      · rcases List.mem_cons.mp hk with z | z
        · rw [z]; exact g1
        · exact g2 k z
    rw [this]
    exact q _ _ (Same.refl _) (.int _)
  · cases e
/-- max, min of two ints -/
def cMax2 : GC := fun _ ds => match ds with
  | [.int i, .int j] => some (.int (if j > i then j else i))
  | _ => none
def cMin2 : GC := fun _ ds => match ds with
  | [.int i, .int j] => some (.int (if j < i then j else i))
  | _ => none
theorem den_max2 : CallDen K (fun xs H Q => ∃ i j, xs = [.int i, .int j] ∧ Q (.int (if j > i then j else i)) H) cMax2 := by
  intro b m H S xs ds d Q hs r e q
  unfold cMax2 at e
  split at e
  · cases e
    obtain ⟨v, v', rfl, rv, rv'⟩ := r.two
    cases rv; cases rv'
    exact ⟨_, _, rfl, q _ _ (Same.refl _) (.int _)⟩
  · cases e
theorem den_min2 : CallDen K (fun xs H Q => ∃ i j, xs = [.int i, .int j] ∧ Q (.int (if j < i then j else i)) H) cMin2 := by
  intro b m H S xs ds d Q hs r e q
  unfold cMin2 at e
  split at e
  · cases e
    obtain ⟨v, v', rfl, rv, rv'⟩ := r.two
    cases rv; cases rv'
    exact ⟨_, _, rfl, q _ _ (Same.refl _) (.int _)⟩
  · cases e
def sortI (ns : List Int) : List Int := ns.mergeSort fun a b => decide (a ≤ b)
def cSorted : GC := fun S ds => (intsL S ds).map fun ns => .lst ((sortI ns).map D.int)
theorem sortI_eq {ns ms : List Int} (hp : ms.Perm ns) (hs : ms.Pairwise (· ≤ ·)) : ms = sortI ns := by
  refine List.Perm.eq_of_pairwise (le := (· ≤ ·)) (fun a b _ _ h1 h2 => Int.le_antisymm h1 h2) hs ?_ (hp.trans (List.mergeSort_perm _ _).symm)
  have := List.pairwise_mergeSort (le := fun a b : Int => decide (a ≤ b)) (fun a b c h1 h2 => by simp at h1 h2 ⊢; omega) (fun a b => by simp; omega) ns
  exact this.imp fun h => by simpa using h
theorem den_sorted : CallDen K (rSortedI K) cSorted := by
  intro b m H S xs ds d Q hs r e q
  unfold cSorted at e
  cases q1 : intsL S ds with
  | none => rw [q1] at e; cases e
  | some ns =>
    rw [q1] at e
    cases e
    obtain ⟨a, h1, h2⟩ := intsL_rep hs r q1
    refine ⟨a, ns, h1, h2, fun ms p hp hq hn => ?_⟩
    rw [sortI_eq hp hq]
    exact q _ _ (Same.upd hn) (Rep.newLst hs hn (reps_ints _))
end
/-! ### [::-1] of a list -/
section
variable {X : Cx} {W : WX} {e : Expr} {fe : Env → M D} {pos p1 p2 p3 : Pos} {k : Nat}
@[simp] def dRevL (f : Env → M D) : Env → M D := fun ρ => mbind (f ρ) fun d S => (mopt ((seqL S d).map fun xs => .lst xs.reverse) : M D) S
theorem pd_revL (h : PD X W e fe) : PD X W (.Subscript e (.Slice none none (some (.UnaryOp .USub (.Constant (.int 1) k p1) p2)) p3) pos) (dRevL fe) :=
  PE.imp (pe_revL h) fun σ H Q ⟨b, m, ρ, S, hv, hs, h⟩ => ⟨b, m, ρ, S, hv, hs, Post.then h fun d S1 m1 H1 x e1 t1 s1 r1 h1 => by
    cases q : seqL S1 d with
    | none => simp only [q, Option.map_none] at h1; exact h1.elim
    | some ds =>
      simp only [q, Option.map_some] at h1
      obtain ⟨a, xs, rfl, h2, h3⟩ := seqL_rep s1 r1 q
      exact ⟨a, xs, rfl, h2, fun p hp => h1 _ _ _ (Same.tr (Same.upd hp)) (s1.same (Same.upd hp)) (Rep.newLst s1 hp h3.reverse)⟩⟩
end
/-! ### zip, enumerate -/
def zipD (xs ys : List D) : List D := List.zipWith (fun x y => .tup [x, y]) xs ys
theorem zipD_get {xs ys : List D} {i : Nat} {d : D} (h : (zipD xs ys)[i]? = some d) : ∃ x y, xs[i]? = some x ∧ ys[i]? = some y ∧ d = .tup [x, y] := by
  unfold zipD at h
  rw [List.getElem?_zipWith] at h
  cases e1 : xs[i]? with
  | none => rw [e1] at h; cases h
  | some x =>
    cases e2 : ys[i]? with
    | none => rw [e1, e2] at h; cases h
    | some y =>
      rw [e1, e2] at h
      cases h
      exact ⟨x, y, rfl, rfl, rfl⟩
def kZip : List D → Option (List D)
  | [x, y] => match frzL x, frzL y with
    | some xs, some ys => some (zipD xs ys)
    | _, _ => match seqT x, seqT y with
      | some xs, some ys => some (zipD xs ys)
      | _, _ => none
  | _ => none
theorem rep_pair {K : PySem.W.Frag} {b m : List Addr} {H : Hp} {T : Addr} {x y : V} {dx dy : D} (hT : H T = none) (rx : Rep K b m H x dx) (ry : Rep K b m H y dy) : Rep K b m (upd H T (.tup [x, y])) (.ref T) (.tup [dx, dy]) :=
  .tup upd_same (.cons (rx.tr (Same.tr (Same.upd hT))) (.cons (ry.tr (Same.tr (Same.upd hT))) .nil))
section
variable {X : Cx} {W : WX} {e e2 : Expr} {fs : Env → M (List D)} {p pos tpos : Pos} {elts : List Expr} {kk : Nat}
theorem id_zip (hg : Gl X "zip") (hm : X.mg "zip" = none) (ha : AD X W [e, e2] fs) (hs : starEach [e, e2] X.env = (false, eval e X.env) :: starEach [e2] X.env := by rfl) (hpl : (backTo pos (starEach [e2] X.env)).any (·.1) = false := by rfl) :
    ID X W (.Tuple elts kk tpos) (.Call (.Name "zip" p) [e, e2] [] pos) (iArgs kZip fs) :=
  PI.imp (RZ.pi_zipA hg hm ha hs hpl) fun σ H Q ⟨b, m, ρ, S, hv, hs, h⟩ => ⟨b, m, ρ, S, hv, hs, Post.then h fun ds S1 m1 H1 xs e1 t1 s1 r1 h1 => by
    cases q : kZip ds with
    | none => simp only [q, mopt_none] at h1; exact h1.elim
    | some items =>
      simp only [q, mopt_some] at h1
      unfold kZip at q
      split at q
      · rename_i x y
        obtain ⟨v, v', rfl, rv, rv'⟩ := r1.two
        cases q1 : frzL x with
        | some zs =>
          cases q2 : frzL y with
          | some ws =>
            simp only [q1, q2] at q
            cases q
            obtain ⟨a, vs, rfl, g1, g2⟩ := frzL_rep rv q1
            obtain ⟨c, us, rfl, k1, k2⟩ := frzL_rep rv' q2
            refine ⟨a, c, vs, us, rfl, .inl ⟨g2 _ _ Rch.refl, k2 _ _ Rch.refl, h1 _ _ _ Tr.refl s1 fun b' m' H' t hb => ⟨fun i d hi => ?_, ?_⟩⟩⟩
            · obtain ⟨dx, dy, hx, hy, rfl⟩ := zipD_get hi
              obtain ⟨vx, ex, rx⟩ := g1.get hx
              obtain ⟨vy, ey, ry⟩ := k1.get hy
              refine ⟨⟨vs, us, vx, vy, g2 _ _ t, k2 _ _ t, ex, ey⟩, fun z H'' ⟨T, x', y', e1, e2, e3, e4, e5⟩ => ?_⟩
              subst e1 e3
              have z1 := (e4 _ (g2 _ _ t)).symm.trans ex
              have z2 := (e5 _ (k2 _ _ t)).symm.trans ey
              cases z1; cases z2
              exact ⟨Same.upd e2, rep_pair e2 (rx.rch t hb) (ry.rch t hb)⟩
            · refine ⟨vs, us, g2 _ _ t, k2 _ _ t, ?_⟩
              rw [g1.length, k1.length]
              unfold zipD
              rw [List.length_zipWith]
              omega
          | none =>
            simp only [q1, q2] at q
            cases x <;> first | (cases q1; done) | (cases q; done)
        | none =>
          simp only [q1] at q
          cases q3 : seqT x with
          | none => simp only [q3] at q; cases q
          | some zs =>
            cases q4 : seqT y with
            | none => simp only [q3, q4] at q; cases q
            | some ws =>
              simp only [q3, q4] at q
              cases q
              obtain ⟨a, vs, rfl, g2, g1⟩ := seqT_rep rv q3
              obtain ⟨c, us, rfl, k2, k1⟩ := seqT_rep rv' q4
              refine ⟨a, c, vs, us, rfl, .inr ⟨g2, k2, h1 _ _ _ Tr.refl s1 fun b' m' H' t hb => ⟨fun i d hi => ?_, ?_⟩⟩⟩
              · obtain ⟨dx, dy, hx, hy, rfl⟩ := zipD_get hi
                obtain ⟨vx, ex, rx⟩ := g1.get hx
                obtain ⟨vy, ey, ry⟩ := k1.get hy
                refine ⟨⟨vs, us, vx, vy, SqT.rch t g2, SqT.rch t k2, ex, ey⟩, fun z H'' ⟨T, x', y', e1, e2, e3, e4, e5⟩ => ?_⟩
                subst e1 e3
                have z1 := (e4 _ (SqT.rch t g2)).symm.trans ex
                have z2 := (e5 _ (SqT.rch t k2)).symm.trans ey
                cases z1; cases z2
                exact ⟨Same.upd e2, rep_pair e2 (rx.rch t hb) (ry.rch t hb)⟩
              · refine ⟨vs, us, SqT.rch t g2, SqT.rch t k2, ?_⟩
                rw [g1.length, k1.length]
                unfold zipD
                rw [List.length_zipWith]
                omega
      · cases q⟩
def enumD : Nat → List D → List D
  | _, [] => []
  | n, d :: r => .tup [.int (n : Int), d] :: enumD (n + 1) r
theorem enumD_len : ∀ (n : Nat) (ds : List D), (enumD n ds).length = ds.length
  | _, [] => rfl
  | n, d :: r => by show (enumD (n + 1) r).length + 1 = _; rw [enumD_len]; rfl
theorem enumD_get : ∀ {n : Nat} {ds : List D} {i : Nat} {d : D}, (enumD n ds)[i]? = some d → ∃ x, ds[i]? = some x ∧ d = .tup [.int ((n + i : Nat) : Int), x]
  | _, [], _, _, h => by cases h
  | n, x :: r, 0, d, h => by cases h; exact ⟨x, rfl, rfl⟩
  | n, x :: r, i + 1, d, h => by
    obtain ⟨y, h1, h2⟩ := enumD_get (n := n + 1) (ds := r) (i := i) h
    refine ⟨y, h1, ?_⟩
    rw [h2, show n + 1 + i = n + (i + 1) by omega]
def kEnum : List D → Option (List D)
  | [x] => (frzL x).map (enumD 0)
  | _ => none
theorem id_enum (hg : Gl X "enumerate") (hm : X.mg "enumerate" = none) (ha : AD X W [e] fs) (hs : starEach [e] X.env = [(false, eval e X.env)] := by rfl) :
    ID X W (.Tuple elts kk tpos) (.Call (.Name "enumerate" p) [e] [] pos) (iArgs kEnum fs) :=
  PI.imp (pi_enum hg hm ha hs) fun σ H Q ⟨b, m, ρ, S, hv, hs, h⟩ => ⟨b, m, ρ, S, hv, hs, Post.then h fun ds S1 m1 H1 xs e1 t1 s1 r1 h1 => by
    cases q : kEnum ds with
    | none => simp only [q, mopt_none] at h1; exact h1.elim
    | some items =>
      simp only [q, mopt_some] at h1
      unfold kEnum at q
      split at q
      · rename_i x
        obtain ⟨v, rfl, rv⟩ := r1.one
        cases q1 : frzL x with
        | none => rw [q1] at q; cases q
        | some zs =>
          rw [q1] at q
          cases q
          obtain ⟨a, vs, rfl, g1, g2⟩ := frzL_rep rv q1
          refine ⟨a, vs, rfl, g2 _ _ Rch.refl, h1 _ _ _ Tr.refl s1 fun b' m' H' t hb => ⟨fun i d hi => ?_, ?_⟩⟩
          · obtain ⟨dx, hx, rfl⟩ := enumD_get hi
            obtain ⟨vx, ex, rx⟩ := g1.get hx
            refine ⟨⟨vs, vx, g2 _ _ t, ex⟩, fun z H'' ⟨T, x', e1, e2, e3, e4⟩ => ?_⟩
            subst e1 e3
            have z1 := (e4 _ (g2 _ _ t)).symm.trans ex
            cases z1
            rw [Nat.zero_add]
            exact ⟨Same.upd e2, rep_pair e2 (.int _) (rx.rch t hb)⟩
          · exact ⟨vs, g2 _ _ t, by rw [g1.length, enumD_len]; exact Nat.le_refl _⟩
      · cases q⟩
end
end DL
set_option Elab.async false
set_option linter.all false
set_option maxRecDepth 100000
namespace DL
open PySem PySem.Spec PyProof.Rows L2

/-! ### own errors, raised and caught -/
/-- an own class of errors, below ValueError -/
structure ExK (K : PySem.W.Frag) (mg : Str → Option Value) (x : Str) where
  C : Addr
  g : mg x = some (.ref C)
  q : PySem.W.excIn K C [.type "ValueError", .type "Exception", .type "BaseException", .type "object"] "ValueError.__new__" = true
  k : PySem.W.keepIn K (.ref C) = true
  s : PySem.W.subIn K (.ref C) (.type "BaseException") = some true
  t : PySem.W.typeIn K (.ref C) = some (.type "type")
@[simp] def sRaise (x : Str) : DS := fun ρ S => .ex ⟨x, []⟩ ρ S
section
variable {X : Cx} {W : WX} {x m : Str} {j : Nat} {p p2 np pos pos' : Pos}
theorem sd_raise (hc : X.calm = true) (tk : Takes X W) (T : ExK X.K X.mg x) (hg : Gl X x) (hdb : (x == ("__debug__" : Str)) = false := by decide) : SD X W (.Raise (some (.Call (.Name x p) [.Constant (.str m) j p2] [] pos)) none pos') (sRaise x) :=
  PS.imp (ps_raise hc tk (pmk_own PySem.F.excBase_ValueError T.q T.g T.k (raises_own T.s T.t) hg hdb)) fun E σ H ⟨b, m, ρ, S, hv, hs, h⟩ =>
    h m H σ _ _ Tr.refl hv hs ⟨T.C, T.g, rfl, .inl ⟨rfl, rfl⟩⟩
/-- try: f, except c: g; rel: which names c catches -/
@[simp] def sTry (rel : Str → Option Bool) (f g : DS) : DS := fun ρ S => match f ρ S with
  | .ex e ρ' S' => match rel e.name with
    | some true => g ρ' S'
    | some false => .ex e ρ' S'
    | none => .bad
  | o => o
theorem sd_try {c : Value} {rel : Str → Option Bool} {body suite : List Stmt} {b₀ : Stmt} {f g : DS} (hs : X.stack = X.env :: X.outer) (hf : X.env.frame = some X.env.locals) (hc : Names X x c) (tk : Takes X W)
    (hrel : ∀ (n : Str) (k : Bool) (C : Addr), rel n = some k → X.mg n = some (.ref C) → PySem.W.exmOne X.K (.ref C) c = some k)
    (hb : ∀ (W' : WX) (pn : List (Addr × Obj)) (xe : Value → Shared → Prop), Takes (X.tr pn xe) W' → PassesOwn (model X.prog X.w) X.A X.env xe → BD (X.tr pn xe) W' body f)
    (hsu : ∀ (a : Addr) (pn : List (Addr × Obj)), BD (X.suite a pn) W (b₀ :: suite) g) :
    SD X W (.Try body [.ExceptHandler (some (.Name x np)) none (b₀ :: suite) pos'] [] [] pos) (sTry rel f g) :=
  PS.imp (ps_try_only (tb := fun W' => tS X.K X.mg W' f) (ts := fun _ _ _ => tS X.K X.mg W g) hs hf hc tk hb fun a oe cls d pn _ _ => hsu a _) fun E σ H ⟨b, m, ρ, S, hv, hss, h⟩ => by
    refine ⟨b, m, ρ, S, hv, hss, ?_⟩
    unfold sTry at h
    cases q : f ρ S with
    | bad => rw [q] at h; exact h
    | ok fl S1 =>
      rw [q] at h
      cases fl <;> exact h
    | ex e ρ1 S1 =>
      rw [q] at h
      intro m1 H1 σ1 cls dx t1 v1 s1 r1
      obtain ⟨C, gC, eC, rC⟩ := r1
      cases q2 : rel e.name with
      | none => simp only [q2] at h; exact h.elim
      | some k =>
        simp only [q2] at h
        refine ⟨k, by rw [eC]; exact hrel _ _ _ q2 gC, fun hk a hn => ?_, fun hk => ?_⟩
        · subst hk
          exact ⟨b, m1, ρ1, S1, v1, s1, PostS.tr t1 h⟩
        · subst hk
          exact h m1 H1 σ1 cls dx t1 v1 s1 ⟨C, gC, eC, rC⟩
end
end DL
set_option Elab.async false
set_option linter.all false
set_option maxRecDepth 100000
namespace DL
open PySem PySem.Spec PyProof.Rows L2

/-! ### list comprehensions with two fors -/
theorem nox_nex {α : Type} {f : M α} {S S' : Sto} {e : Exn} (h : nox f S = .ex e S') : False := by
  unfold nox at h
  cases q : f S <;> rw [q] at h <;> cases h
theorem then_nex {α β : Type} {x : Out α} {k : α → M β} {S' : Sto} {e : Exn} (hx : ∀ e S, x ≠ .ex e S) (hk : ∀ a S, ∀ e S', k a S ≠ .ex e S') : x.then k ≠ .ex e S' := by
  cases x with
  | ok a S => exact hk a S e S'
  | ex e S => exact absurd rfl (hx e S)
  | bad => intro h; cases h
theorem compL_nex {g : DG} {t : Env → M Bool} {e : Env → M D} {ρ : Env} : ∀ (ds : List D) (S : Sto) (x : Exn) (S' : Sto), compL g t e ρ ds S ≠ .ex x S'
  | [], S, x, S' => by intro h; cases h
  | d :: r, S, x, S' => by
    cases q : g d ρ with
    | none => intro h; unfold compL at h; rw [q] at h; cases h
    | some ρ1 =>
      rw [compL_cons q]
      refine then_nex (fun e S h => nox_nex h) fun c S1 e1 S2 => ?_
      cases c with
      | false => exact compL_nex r S1 e1 S2
      | true =>
        refine then_nex (x := nox (e ρ1) S1) (fun e S h => nox_nex h) fun y S3 e3 S4 => ?_
        exact then_nex (x := compL g t e ρ r S3) (fun e S => compL_nex r S3 e S) fun ys S5 e5 S6 h => by cases h
def compL2 (g : DG) (t : Env → M Bool) (fi1 : Env → M (List D)) (g1 : DG) (t1 : Env → M Bool) (e : Env → M D) (vs1 : List Nat) (ρ : Env) : List D → M (List D)
  | [] => mret []
  | d :: r => match g d ρ with
    | none => mbad
    | some ρ2 => mbind (nox (t ρ2)) fun c => if c then mbind (nox (fi1 ρ2)) fun its => mbind (compL g1 t1 e (dwipe ρ2 vs1) its) fun ys => mbind (compL2 g t fi1 g1 t1 e vs1 ρ r) fun zs => mret (ys ++ zs)
      else compL2 g t fi1 g1 t1 e vs1 ρ r
theorem compL2_cons {g : DG} {t : Env → M Bool} {fi1 : Env → M (List D)} {g1 : DG} {t1 : Env → M Bool} {e : Env → M D} {vs1 : List Nat} {ρ ρ2 : Env} {d : D} {r : List D} {S : Sto} (h : g d ρ = some ρ2) :
    compL2 g t fi1 g1 t1 e vs1 ρ (d :: r) S = (nox (t ρ2) S).then fun c => if c then mbind (nox (fi1 ρ2)) fun its => mbind (compL g1 t1 e (dwipe ρ2 vs1) its) fun ys => mbind (compL2 g t fi1 g1 t1 e vs1 ρ r) fun zs => mret (ys ++ zs)
      else compL2 g t fi1 g1 t1 e vs1 ρ r := by
  show (match g d ρ with
    | none => mbad
    | some ρ2 => mbind (nox (t ρ2)) fun c => if c then mbind (nox (fi1 ρ2)) fun its => mbind (compL g1 t1 e (dwipe ρ2 vs1) its) fun ys => mbind (compL2 g t fi1 g1 t1 e vs1 ρ r) fun zs => mret (ys ++ zs)
      else compL2 g t fi1 g1 t1 e vs1 ρ r) S = _
  rw [h]
  rfl
theorem compL2_nex {g : DG} {t : Env → M Bool} {fi1 : Env → M (List D)} {g1 : DG} {t1 : Env → M Bool} {e : Env → M D} {vs1 : List Nat} {ρ : Env} : ∀ (ds : List D) (S : Sto) (x : Exn) (S' : Sto), compL2 g t fi1 g1 t1 e vs1 ρ ds S ≠ .ex x S'
  | [], S, x, S' => by intro h; cases h
  | d :: r, S, x, S' => by
    cases q : g d ρ with
    | none => intro h; unfold compL2 at h; rw [q] at h; cases h
    | some ρ2 =>
      rw [compL2_cons q]
      refine then_nex (fun e S h => nox_nex h) fun c S1 e1 S2 => ?_
      cases c with
      | false => exact compL2_nex r S1 e1 S2
      | true =>
        refine then_nex (x := nox (fi1 ρ2) S1) (fun e S h => nox_nex h) fun its S3 e3 S4 => ?_
        refine then_nex (x := compL g1 t1 e (dwipe ρ2 vs1) its S3) (fun e S => compL_nex its S3 e S) fun ys S5 e5 S6 => ?_
        exact then_nex (x := compL2 g t fi1 g1 t1 e vs1 ρ r S5) (fun e S => compL2_nex r S5 e S) fun zs S7 e7 S8 h => by cases h
def finL (ds : List D) : M D := if ds.length ≤ sizeLine then mret (.lst ds) else mbad
@[simp] def dComp2 (fi : Env → M (List D)) (g : DG) (t : Env → M Bool) (fi1 : Env → M (List D)) (g1 : DG) (t1 : Env → M Bool) (e : Env → M D) (vs vs1 : List Nat) : Env → M D := fun ρ =>
  mbind (fi ρ) fun items => mbind (compL2 g t fi1 g1 t1 e vs1 (dwipe ρ vs) items) finL
theorem then_assoc {α β γ : Type} (x : Out α) (f : α → M β) (k : β → M γ) : (x.then f).then k = x.then fun a S => (f a S).then k := by cases x <;> rfl
section
variable {K : PySem.W.Frag} {mg : Str → Option Value} {W : WX}
/-- the end of the run is not too long -/
theorem post_len {b m : List Addr} {H : Hp} {σ : L2.St} {Q : VK} {x : Out (List D)} {acc : List D} (hx : ∀ e S, x ≠ .ex e S) (h : Post K mg W b m H σ (RV K) (x.then fun zs => finL (acc ++ zs)) Q) : acc.length ≤ sizeLine := by
  cases x with
  | bad => exact h.elim
  | ex e S => exact absurd rfl (hx e S)
  | ok zs S =>
    by_cases hz : (acc ++ zs).length ≤ sizeLine
    · rw [List.length_append] at hz; omega
    · have h' : Post K mg W b m H σ (RV K) (finL (acc ++ zs) S) Q := h
      unfold finL at h'
      rw [if_neg hz] at h'
      exact h'.elim
/-- what is left within one turn of the outer for -/
def inL (g : DG) (t : Env → M Bool) (fi1 : Env → M (List D)) (g1 : DG) (t1 : Env → M Bool) (e : Env → M D) (vs1 : List Nat) (ρ ρ' : Env) (r r1 : List D) (S : Sto) (acc : List D) : Out D :=
  (compL g1 t1 e ρ' r1 S).then fun ys S' => (compL2 g t fi1 g1 t1 e vs1 ρ r S').then fun zs => finL (acc ++ (ys ++ zs))
variable {g g1 : DG} {t t1 : Env → M Bool} {fi fi1 : Env → M (List D)} {e : Env → M D}
theorem inL_len {vs1 : List Nat} {ρ ρ' : Env} {r r1 : List D} {S : Sto} {acc : List D} {b m : List Addr} {H : Hp} {σ : L2.St} {Q : VK} (h : Post K mg W b m H σ (RV K) (inL g t fi1 g1 t1 e vs1 ρ ρ' r r1 S acc) Q) : acc.length ≤ sizeLine := by
  unfold inL at h
  cases q : compL g1 t1 e ρ' r1 S with
  | bad => rw [q] at h; exact h.elim
  | ex x S' => exact absurd q (compL_nex r1 S x S')
  | ok ys S' =>
    rw [q] at h
    have h' : Post K mg W b m H σ (RV K) ((compL2 g t fi1 g1 t1 e vs1 ρ r S').then fun zs => finL ((acc ++ ys) ++ zs)) Q := by
      have e1 : (fun zs => finL ((acc ++ ys) ++ zs)) = fun zs => finL (acc ++ (ys ++ zs)) := by funext zs; rw [List.append_assoc]
      rw [e1]
      exact h
    have := post_len (fun x S2 => compL2_nex r S' x S2) h'
    rw [List.length_append] at this
    omega
theorem inL_start {vs1 : List Nat} {ρ ρ2 : Env} {r its : List D} {S : Sto} {acc : List D} :
    ((mbind (compL g1 t1 e (dwipe ρ2 vs1) its) fun ys => mbind (compL2 g t fi1 g1 t1 e vs1 ρ r) fun zs => mret (ys ++ zs)) S).then (fun l => finL (acc ++ l)) = inL g t fi1 g1 t1 e vs1 ρ (dwipe ρ2 vs1) r its S acc := by
  unfold inL mbind
  cases compL g1 t1 e (dwipe ρ2 vs1) its S with
  | bad => rfl
  | ex x S' => rfl
  | ok ys S' =>
    show ((compL2 g t fi1 g1 t1 e vs1 ρ r S').then fun zs => mret (ys ++ zs)).then _ = (compL2 g t fi1 g1 t1 e vs1 ρ r S').then _
    cases compL2 g t fi1 g1 t1 e vs1 ρ r S' <;> rfl
theorem inL_nil {vs1 : List Nat} {ρ ρ' : Env} {r : List D} {S : Sto} {acc : List D} : inL g t fi1 g1 t1 e vs1 ρ ρ' r [] S acc = (compL2 g t fi1 g1 t1 e vs1 ρ r S).then fun zs => finL (acc ++ zs) := rfl
theorem inL_more {vs1 : List Nat} {ρ ρ' : Env} {r r1 : List D} {S : Sto} {acc : List D} {dy : D} :
    ((mbind (compL g1 t1 e ρ' r1) fun ys => mret (dy :: ys)) S).then (fun ys S' => (compL2 g t fi1 g1 t1 e vs1 ρ r S').then fun zs => finL (acc ++ (ys ++ zs))) = inL g t fi1 g1 t1 e vs1 ρ ρ' r r1 S (acc ++ [dy]) := by
  unfold inL mbind
  cases compL g1 t1 e ρ' r1 S with
  | bad => rfl
  | ex x S' => rfl
  | ok ys S' =>
    show ((compL2 g t fi1 g1 t1 e vs1 ρ r S').then fun zs => finL (acc ++ ((dy :: ys) ++ zs))) = (compL2 g t fi1 g1 t1 e vs1 ρ r S').then fun zs => finL ((acc ++ [dy]) ++ (ys ++ zs))
    congr 1
    funext zs
    congr 1
    simp
theorem lc2_den {ws ws1 vs vs1 : List Nat} (hw : ∀ i ∈ ws, i ∈ vs) (hw1 : ∀ i ∈ ws1, i ∈ vs1) {σ : L2.St} {H : Hp} {Q : VK} (h : tG K mg W (RV K) (dComp2 fi g t fi1 g1 t1 e vs vs1) σ H Q) :
    tLc2 (tG K mg W (RIt K) fi) (tGt K ws g) (tG K mg WF ReqB t) (tG K mg WF (RIt K) fi1) (tGt K ws1 g1) (tG K mg WF ReqB t1) (tG K mg WF (RV K) e) vs vs1 σ H Q := by
  obtain ⟨b, m, ρ, S, hv, hs, h⟩ := h
  refine ⟨b, m, ρ, S, hv, hs, Post.then h fun items S1 m1 H1 J e1 tr1 s1 r1 h1 => ?_⟩
  intro Dd hDd
  have v1 := hv.tr tr1
  have h0 : Post K mg W b m1 H1 σ (RV K) ((compL2 g t fi1 g1 t1 e vs1 (dwipe ρ vs) (items.drop 0) S1).then fun zs => finL ([] ++ zs)) Q := h1
  refine ⟨fun i n H => n = items.length - i ∧ i ≤ items.length ∧ ∃ m' S accV accD, Tr m1 H1 m' H ∧ EnvR K (Dd :: b) m' H (wipe σ vs) (dwipe ρ vs) ∧ StoR K (Dd :: b) m' H S ∧ H Dd = some (.lst accV) ∧ Reps K (Dd :: b) m' H accV accD ∧
      Post K mg W b m1 H1 σ (RV K) ((compL2 g t fi1 g1 t1 e vs1 (dwipe ρ vs) (items.drop i) S).then fun zs => finL (accD ++ zs)) Q,
    ⟨items.length, rfl, Nat.zero_le _, m1, S1, [], [], (Tr.refl).side hDd, (v1.wipe vs).apart hDd, s1.apart hDd, upd_same, .nil, h0⟩, ?_⟩
  rintro i n H2 ⟨rfl, hil, m2, S2, accV, accD, t2, v2, s2, eD, ra, h2⟩
  have bn : Bn b H1 (Dd :: b) := Bn.cons hDd
  obtain ⟨rgo, rstop⟩ := r1 (Dd :: b) m2 H2 t2.rch bn
  by_cases hlt : i < items.length
  · obtain ⟨go, yld⟩ := rgo i items[i] (List.getElem?_eq_getElem hlt)
    rw [List.drop_eq_getElem_cons hlt] at h2
    cases q : g items[i] (dwipe ρ vs) with
    | none =>
      have : compL2 g t fi1 g1 t1 e vs1 (dwipe ρ vs) (items[i] :: items.drop (i + 1)) S2 = .bad := by
        show (match g items[i] (dwipe ρ vs) with
          | none => mbad
          | some ρ2 => _) S2 = _
        rw [q]; rfl
      rw [this] at h2
      exact h2.elim
    | some ρ3 =>
      rw [compL2_cons q] at h2
      refine .inr ⟨go, fun H' => ∃ m' S accV accD, Tr m1 H1 m' H' ∧ EnvR K (Dd :: b) m' H' (wipe σ vs) (dwipe ρ vs) ∧ StoR K (Dd :: b) m' H' S ∧ H' Dd = some (.lst accV) ∧ Reps K (Dd :: b) m' H' accV accD ∧
        Post K mg W b m1 H1 σ (RV K) ((compL2 g t fi1 g1 t1 e vs1 (dwipe ρ vs) (items.drop (i + 1)) S).then fun zs => finL (accD ++ zs)) Q, fun H' ⟨m3, S3, aV, aD, x⟩ => ⟨items.length - (i + 1), by omega, rfl, hlt, m3, S3, aV, aD, x⟩, fun x H3 hy => ?_⟩
      obtain ⟨sm, rx⟩ := yld x H3 hy
      have t3 : Tr m2 H2 m2 H3 := Same.tr sm
      refine ⟨Dd :: b, m2, _, items[i], ρ3, v2.tr t3, rx, q, fun σ4 v4 o4 => ⟨?_, ?_⟩⟩
      · rw [← wipe_wipe σ vs]
        exact wipe_eq ⟨o4.1, fun j hj => o4.2 j fun z => hj (hw j z)⟩
      · refine ⟨Dd :: b, m2, ρ3, S2, v4, s2.same sm, ?_⟩
        have eD3 : H3 Dd = some (.lst accV) := sm.old _ _ eD
        have nDm : Dd ∉ m2 := (s2.ban Dd List.mem_cons_self).1
        have ra3 := ra.tr t3
        have v3 := v2.tr t3
        cases q2 : t ρ3 S2 with
        | bad => rw [show nox (t ρ3) S2 = .bad by unfold nox; rw [q2]] at h2; exact h2.elim
        | ex x S5 => rw [show nox (t ρ3) S2 = .bad by unfold nox; rw [q2]] at h2; exact h2.elim
        | ok c S5 =>
          rw [show nox (t ρ3) S2 = .ok c S5 by unfold nox; rw [q2]] at h2
          intro m6 H6 y t6 s6 ey
          obtain rfl : y = c := ey
          have T6 : Tr m1 H1 m6 H6 := (t2.trans t3).trans t6
          have eD6 : H6 Dd = some (.lst accV) := t6.keptL eD3 nDm
          cases y with
          | false => exact iteF ⟨m6, S5, accV, accD, T6, v3.tr t6, s6, eD6, ra3.tr t6, h2⟩
          | true =>
            refine iteT ⟨Dd :: b, m6, ρ3, S5, v4.tr t6, s6, ?_⟩
            have h3 : Post K mg W b m1 H1 σ (RV K) (((nox (fi1 ρ3) S5).then fun its => mbind (compL g1 t1 e (dwipe ρ3 vs1) its) fun ys => mbind (compL2 g t fi1 g1 t1 e vs1 (dwipe ρ vs) (items.drop (i + 1))) fun zs => mret (ys ++ zs)).then fun zs => finL (accD ++ zs)) Q := h2
            cases q3 : fi1 ρ3 S5 with
            | bad => rw [show nox (fi1 ρ3) S5 = .bad by unfold nox; rw [q3]] at h3; exact h3.elim
            | ex x S7 => rw [show nox (fi1 ρ3) S5 = .bad by unfold nox; rw [q3]] at h3; exact h3.elim
            | ok its S7 =>
              rw [show nox (fi1 ρ3) S5 = .ok its S7 by unfold nox; rw [q3]] at h3
              have h4 : Post K mg W b m1 H1 σ (RV K) (inL g t fi1 g1 t1 e vs1 (dwipe ρ vs) (dwipe ρ3 vs1) (items.drop (i + 1)) (its.drop 0) S7 accD) Q := by
                rw [List.drop_zero, ← inL_start]
                exact h3
              intro m8 H8 J1 t8 s8 r8
              have nD6 : Dd ∉ m6 := (s6.ban Dd List.mem_cons_self).1
              have T8 : Tr m1 H1 m8 H8 := T6.trans t8
              refine ⟨fun j k H => k = its.length - j ∧ j ≤ its.length ∧ ∃ m' S aV aD, Tr m1 H1 m' H ∧ Rch (Dd :: b) m8 H8 m' H ∧ EnvR K (Dd :: b) m' H (wipe σ vs) (dwipe ρ vs) ∧ EnvR K (Dd :: b) m' H σ4 ρ3 ∧ StoR K (Dd :: b) m' H S ∧ H Dd = some (.lst aV) ∧ Reps K (Dd :: b) m' H aV aD ∧
                  Post K mg W b m1 H1 σ (RV K) (inL g t fi1 g1 t1 e vs1 (dwipe ρ vs) (dwipe ρ3 vs1) (items.drop (i + 1)) (its.drop j) S aD) Q,
                ⟨its.length, rfl, Nat.zero_le _, m8, S7, accV, accD, T8, Rch.refl, (v3.tr t6).tr t8, (v4.tr t6).tr t8, s8, t8.keptL eD6 nD6, (ra3.tr t6).tr t8, h4⟩, ?_⟩
              rintro j k H9 ⟨rfl, hjl, m9, S9, aV, aD, T9, t9, u9, w9, s9, eD9, ra9, h9⟩
              have nD9 : Dd ∉ m9 := (s9.ban Dd List.mem_cons_self).1
              obtain ⟨rgo1, rstop1⟩ := r8 (Dd :: b) m9 H9 t9 Bn.refl
              by_cases hlt1 : j < its.length
              · obtain ⟨go1, yld1⟩ := rgo1 j its[j] (List.getElem?_eq_getElem hlt1)
                rw [List.drop_eq_getElem_cons hlt1] at h9
                unfold inL at h9
                cases qg : g1 its[j] (dwipe ρ3 vs1) with
                | none =>
                  have : compL g1 t1 e (dwipe ρ3 vs1) (its[j] :: its.drop (j + 1)) S9 = .bad := by
                    show (match g1 its[j] (dwipe ρ3 vs1) with
                      | none => mbad
                      | some ρ1 => _) S9 = _
                    rw [qg]; rfl
                  rw [this] at h9
                  exact h9.elim
                | some ρ5 =>
                  rw [compL_cons qg] at h9
                  refine .inr ⟨go1, fun H' => ∃ m' S aV aD, Tr m1 H1 m' H' ∧ Rch (Dd :: b) m8 H8 m' H' ∧ EnvR K (Dd :: b) m' H' (wipe σ vs) (dwipe ρ vs) ∧ EnvR K (Dd :: b) m' H' σ4 ρ3 ∧ StoR K (Dd :: b) m' H' S ∧ H' Dd = some (.lst aV) ∧ Reps K (Dd :: b) m' H' aV aD ∧
                    Post K mg W b m1 H1 σ (RV K) (inL g t fi1 g1 t1 e vs1 (dwipe ρ vs) (dwipe ρ3 vs1) (items.drop (i + 1)) (its.drop (j + 1)) S aD) Q, fun H' ⟨m3, S3, a1, a2, x⟩ => ⟨its.length - (j + 1), by omega, rfl, hlt1, m3, S3, a1, a2, x⟩, fun x1 H10 hy1 => ?_⟩
                  obtain ⟨sm1, rx1⟩ := yld1 x1 H10 hy1
                  have t10 : Tr m9 H9 m9 H10 := Same.tr sm1
                  have v10 : EnvR K (Dd :: b) m9 H10 (wipe σ4 vs1) (dwipe ρ3 vs1) := (w9.tr t10).wipe vs1
                  refine ⟨Dd :: b, m9, _, its[j], ρ5, v10, rx1, qg, fun σ5 v5 o5 => ⟨?_, ?_⟩⟩
                  · rw [← wipe_wipe σ4 vs1]
                    exact wipe_eq ⟨o5.1, fun i hi => o5.2 i fun z => hi (hw1 i z)⟩
                  · refine ⟨Dd :: b, m9, ρ5, S9, v5, s9.same sm1, ?_⟩
                    have eD10 : H10 Dd = some (.lst aV) := sm1.old _ _ eD9
                    have ra10 := ra9.tr t10
                    cases q4 : t1 ρ5 S9 with
                    | bad => rw [show nox (t1 ρ5) S9 = .bad by unfold nox; rw [q4]] at h9; exact h9.elim
                    | ex x S11 => rw [show nox (t1 ρ5) S9 = .bad by unfold nox; rw [q4]] at h9; exact h9.elim
                    | ok c1 S11 =>
                      rw [show nox (t1 ρ5) S9 = .ok c1 S11 by unfold nox; rw [q4]] at h9
                      intro m12 H12 y1 t12 s12 ey1
                      obtain rfl : y1 = c1 := ey1
                      have eD12 : H12 Dd = some (.lst aV) := t12.keptL eD10 nD9
                      have T12 : Tr m1 H1 m12 H12 := (T9.trans t10).trans t12
                      have R12 : Rch (Dd :: b) m8 H8 m12 H12 := (t9.tr t10).tr t12
                      cases y1 with
                      | false => exact iteF ⟨m12, S11, aV, aD, T12, R12, (u9.tr t10).tr t12, (w9.tr t10).tr t12, s12, eD12, ra10.tr t12, h9⟩
                      | true =>
                        refine iteT ⟨Dd :: b, m12, ρ5, S11, v5.tr t12, s12, ?_⟩
                        have h10 : Post K mg W b m1 H1 σ (RV K) (((nox (e ρ5) S11).then fun y => mbind (compL g1 t1 e (dwipe ρ3 vs1) (its.drop (j + 1))) fun ys => mret (y :: ys)).then fun ys S' => (compL2 g t fi1 g1 t1 e vs1 (dwipe ρ vs) (items.drop (i + 1)) S').then fun zs => finL (aD ++ (ys ++ zs))) Q := h9
                        cases q5 : e ρ5 S11 with
                        | bad => rw [show nox (e ρ5) S11 = .bad by unfold nox; rw [q5]] at h10; exact h10.elim
                        | ex x S13 => rw [show nox (e ρ5) S11 = .bad by unfold nox; rw [q5]] at h10; exact h10.elim
                        | ok dy S13 =>
                          rw [show nox (e ρ5) S11 = .ok dy S13 by unfold nox; rw [q5]] at h10
                          have h11 : Post K mg W b m1 H1 σ (RV K) (inL g t fi1 g1 t1 e vs1 (dwipe ρ vs) (dwipe ρ3 vs1) (items.drop (i + 1)) (its.drop (j + 1)) S13 (aD ++ [dy])) Q := by
                            rw [← inL_more]
                            exact h10
                          have hle := inL_len h11
                          rw [List.length_append, List.length_singleton] at hle
                          intro m14 H14 y2 t14 s14 ry2
                          have nD12 : Dd ∉ m12 := (s12.ban Dd List.mem_cons_self).1
                          have eD14 : H14 Dd = some (.lst aV) := t14.keptL eD12 nD12
                          have ra14 := (ra10.tr t12).tr t14
                          have hlen : aV.length = aD.length := ra14.length
                          exact ⟨aV, eD14, by omega, m14, S13, aV ++ [y2], aD ++ [dy], (T12.trans t14).side hDd, (R12.tr t14).side List.mem_cons_self eD14, (((u9.tr t10).tr t12).tr t14).side eD14 List.mem_cons_self, (((w9.tr t10).tr t12).tr t14).side eD14 List.mem_cons_self, s14.side eD14 List.mem_cons_self, upd_same, (ra14.append (.cons ry2 .nil)).side eD14 List.mem_cons_self, h11⟩
              · have ej : j = its.length := by omega
                subst ej
                rw [List.drop_length, inL_nil] at h9
                exact .inl ⟨rstop1, m9, S9, aV, aD, T9, u9, s9, eD9, ra9, h9⟩
  · have ei : i = items.length := by omega
    subst ei
    rw [List.drop_length] at h2
    refine .inl ⟨rstop, ?_⟩
    have h2' : Post K mg W b m1 H1 σ (RV K) (finL (accD ++ []) S2) Q := h2
    rw [List.append_nil] at h2'
    unfold finL at h2'
    by_cases hz : accD.length ≤ sizeLine
    · rw [if_pos hz] at h2'
      refine h2' m2 H2 _ t2 s2.unapart (.lst eD (s2.ban Dd List.mem_cons_self).1 (fun z => ?_) ra.unapart)
      obtain ⟨_, o, e⟩ := s1.ban Dd z
      rw [hDd] at e
      cases e
    · rw [if_neg hz] at h2'; exact h2'.elim
end
section
variable {X : Cx} {W : WX} {elt tg iter tg1 iter1 : Expr} {ifs ifs1 : List Expr} {scope : Scope} {own : List (Str × Nat)} {vs1 ws ws1 : List Nat} {pos : Pos} {fi fi1 : Env → M (List D)} {g g1 : DG} {ft ft1 : Env → M Bool} {fe : Env → M D}
theorem pd_comp2 (hc : X.calm = true) (hN : X.N.Nodup) (hi : ID X W tg iter fi) (ok : BlkOk X.N X.env.scope scope own) (hv : ∀ i ∈ vs1, i ∈ own.map (·.2)) (hw : ∀ i ∈ ws, i ∈ own.map (·.2)) (hw1 : ∀ i ∈ ws1, i ∈ vs1)
    (hg : ∀ (s : Shared) (H : Hp) (C : Addr) (cl : List (Str × Addr)) (fp : List Addr), GD (X.blk s H scope (compEnvC scope cl C X.env) fp) tg ws g) (ht : ∀ (s : Shared) (H : Hp) (C : Addr) (cl : List (Str × Addr)) (fp : List Addr), TsD (X.blk s H scope (compEnvC scope cl C X.env) fp) WF ifs ft)
    (hi1 : ∀ (s : Shared) (H : Hp) (C : Addr) (cl : List (Str × Addr)) (fp : List Addr), ID (X.blk s H scope (compEnvC scope cl C X.env) fp) WF tg1 iter1 fi1)
    (hg1 : ∀ (s : Shared) (H : Hp) (C : Addr) (cl : List (Str × Addr)) (fp : List Addr), GD (X.blk s H scope (compEnvC scope cl C X.env) fp) tg1 ws1 g1) (ht1 : ∀ (s : Shared) (H : Hp) (C : Addr) (cl : List (Str × Addr)) (fp : List Addr), TsD (X.blk s H scope (compEnvC scope cl C X.env) fp) WF ifs1 ft1)
    (he : ∀ (s : Shared) (H : Hp) (C : Addr) (cl : List (Str × Addr)) (fp : List Addr), PD (X.blk s H scope (compEnvC scope cl C X.env) fp) WF elt fe) (hs : ∀ x, foldedSetIterable iter X.env x = pure x := by intro _; rfl) (hs1 : ∀ env x, foldedSetIterable iter1 env x = pure x := by intro _ _; rfl) :
    PD X W (.ListComp elt [⟨tg, iter, ifs, 0⟩, ⟨tg1, iter1, ifs1, 0⟩] scope pos) (dComp2 fi g ft fi1 g1 ft1 fe (own.map (·.2)) vs1) :=
  PE.imp (pe_lc2 (g := tGt X.K ws g) (g1 := tGt X.K ws1 g1) (tt := tG X.K X.mg WF ReqB ft) (tt1 := tG X.K X.mg WF ReqB ft1) (wi1 := tG X.K X.mg WF (RIt X.K) fi1) (te := tG X.K X.mg WF (RV X.K) fe) hc hN hi ok hv hg ht hi1 hg1 ht1 he hs hs1) fun σ H Q h => lc2_den hw hw1 h
theorem sd_setComp2 (i : Nat) {y : Str} {py spos : Pos} (hc : X.calm = true) (hN : X.N.Nodup) (hy : X.N[i]? = some y) (hyl : X.env.scope.names.lookup y = some .local)
    (hsw : swapsWith (.ListComp elt [⟨tg, iter, ifs, 0⟩, ⟨tg1, iter1, ifs1, 0⟩] scope pos) (some (.Name y py)) spos.line X.env = pure true) (hi : ID X W tg iter fi) (ok : BlkOk X.N X.env.scope scope own) (hv : ∀ i ∈ vs1, i ∈ own.map (·.2)) (hw : ∀ i ∈ ws, i ∈ own.map (·.2)) (hw1 : ∀ i ∈ ws1, i ∈ vs1)
    (hg : ∀ (s : Shared) (H : Hp) (C : Addr) (cl : List (Str × Addr)) (fp : List Addr), GD (X.blk s H scope (compEnvC scope cl C X.env) fp) tg ws g) (ht : ∀ (s : Shared) (H : Hp) (C : Addr) (cl : List (Str × Addr)) (fp : List Addr), TsD (X.blk s H scope (compEnvC scope cl C X.env) fp) WF ifs ft)
    (hi1 : ∀ (s : Shared) (H : Hp) (C : Addr) (cl : List (Str × Addr)) (fp : List Addr), ID (X.blk s H scope (compEnvC scope cl C X.env) fp) WF tg1 iter1 fi1)
    (hg1 : ∀ (s : Shared) (H : Hp) (C : Addr) (cl : List (Str × Addr)) (fp : List Addr), GD (X.blk s H scope (compEnvC scope cl C X.env) fp) tg1 ws1 g1) (ht1 : ∀ (s : Shared) (H : Hp) (C : Addr) (cl : List (Str × Addr)) (fp : List Addr), TsD (X.blk s H scope (compEnvC scope cl C X.env) fp) WF ifs1 ft1)
    (he : ∀ (s : Shared) (H : Hp) (C : Addr) (cl : List (Str × Addr)) (fp : List Addr), PD (X.blk s H scope (compEnvC scope cl C X.env) fp) WF elt fe) (hs : ∀ x, foldedSetIterable iter X.env x = pure x := by intro _; rfl) (hs1 : ∀ env x, foldedSetIterable iter1 env x = pure x := by intro _ _; rfl) :
    SD X W (.Assign [.Name y py] (.ListComp elt [⟨tg, iter, ifs, 0⟩, ⟨tg1, iter1, ifs1, 0⟩] scope pos) spos) (sAsg (dComp2 fi g ft fi1 g1 ft1 fe (own.map (·.2)) vs1) (gtName i)) :=
  PS.imp (ps_setLc2 (g := tGt X.K ws g) (g1 := tGt X.K ws1 g1) (tt := tG X.K X.mg WF ReqB ft) (tt1 := tG X.K X.mg WF ReqB ft1) (wi1 := tG X.K X.mg WF (RIt X.K) fi1) (te := tG X.K X.mg WF (RV X.K) fe) hc hN hy hyl hsw hi ok hv hg ht hi1 hg1 ht1 he hs hs1) fun E σ H h => by
    obtain ⟨b, m, ρ, S, hv', hs, h⟩ := asg_den (ws := [i]) h
    refine lc2_den hw hw1 ⟨b, m, ρ, S, hv', hs, Post.imp h fun y H' ⟨b, m, ρ, d, ρ', hv', r, e, q⟩ => ?_⟩
    cases e
    exact q _ (hv'.set i r) ⟨by simp, fun j hj => List.getElem?_set_ne (fun z => hj (by simp [z]))⟩
end
end DL
set_option Elab.async false
set_option linter.all false
set_option maxRecDepth 100000
namespace DL
open PySem PySem.Spec PyProof.Rows L2
/-! ### the end of a law -/
def spEnd (K : PySem.W.Frag) : Sp := fun vs H Q _ => ∃ (a : Addr) (ns : List Int), vs = [.ref a] ∧ Only H ∧ TabsOk K H ∧ SqL K H a (ns.map V.int) ∧ ns.length ≤ 63 ∧ ∀ H', Q (.bl true) H'
theorem spEnd_sp {K : PySem.W.Frag} {mg : Str → Option Value} {F : List D → M D} (hF : ∀ ns : List Int, ns.length ≤ 63 → ∃ S, F [scriptD ns] [] = .ok (.bl true) S) {vs : List V} {H : Hp} {Q : VK} {E : XK} (h : spEnd K vs H Q E) : SpD K mg 1 F vs H Q E := by
  obtain ⟨a, ns, rfl, o, tb, hS, hl, hq⟩ := h
  obtain ⟨S, e⟩ := hF ns hl
  refine ⟨[], [], [scriptD ns], [], rfl, .cons (.flst (SqL.f hS fun xs z => ?_) (reps_ints ns)) .nil, ⟨rfl, by simp, fun n a c e1 _ => by simp at e1, fun a ha => by simp at ha, tb⟩, ?_⟩
  · rcases o a with q | ⟨u, ys, q⟩ <;> rw [q] at z <;> cases z
  · rw [e]
    exact fun m' H' y t s r => by cases r; exact hq _
theorem rep_kTup {K : PySem.W.Frag} {a : Addr} {o : Obj} {its : Array Value} {n : Nat} {xs : List V} {ds : List D} (l : K.lookup a = some o) (hc : o.cls = .type "tuple") (hd : o.data = .seq its n) (hs : its.size ≤ sizeLine) (v : Vals xs its.toList) (r : ∀ b m H, Reps K b m H xs ds) :
    ∀ b m H, Rep K b m H (.ref a) (.ctup ds) := fun b m H => .ctup (.inr ⟨o, its, n, l, hc, hd, hs, v⟩) (r b m H)
theorem tbl_nil {K : PySem.W.Frag} {w : World} {a : Addr} : TblOk K w a [] := fun z d h => by cases h
theorem tbl_cons {K : PySem.W.Frag} {w : World} {a : Addr} {t : List (Str × D)} {d0 : D} (z0 : Str) (h : ∃ v, KDct K w a z0 v ∧ ∀ b m H, Rep K b m H v d0) (r : TblOk K w a t) : TblOk K w a ((z0, d0) :: t) := fun z d e => by
  rw [List.lookup_cons] at e
  cases q : (z == z0) with
  | true => rw [q] at e; cases e; rw [beq_iff_eq.mp q]; exact h
  | false => rw [q] at e; exact r z d e
theorem cx_end {P : Program} (w : World) (H : Hp) (s : Shared) (e : Value) (s' : Shared) (h : L2.CX P w [] H s (fun _ _ _ => False) e s') : False := by
  obtain ⟨_, _, _, _, _, _, _, _, _, _, _, _, z⟩ := h
  exact z
end DL
set_option Elab.async false
set_option linter.all false
set_option maxRecDepth 100000
namespace DL
open PySem PySem.Spec PyProof.Rows L2

/-! ### a body that runs in a known place -/
section
variable {CX : CXT} {P : Program} {w : World} {K : PySem.W.Frag} {mg : Str → Option Value} {base : Heap} {k : Nat} {f : Addr} {name qual : Str} {params : Arguments} {body : List Stmt} {scope : Scope} {dV kV doc pm cdv ct oc : Value} {an od : Option Addr} {osl : Array (Option Value)} {N ps : List Str}
theorem run_at (lk : K.lookup f = some ⟨oc, od, .func (PySem.W.fnOf name qual params body scope dV kV doc pm an cdv ct), osl⟩) (hcd : PySem.W.codeIn K cdv qual = true) (sc : FnScope N ps scope) {A : Around} {outer : List PySem.Env} {s : Shared} {H : Hp} {args : Args} {us : List Value} {vs : List V} {Q : VK} {E : XK}
    (room : Room (k + 1) A) (e0 : Env0 P w K mg base A outer s H) (bnd : BindsTo s (PySem.W.fnOf name qual params body scope dV kV doc pm an cdv ct) args (ps.zip us)) (rv : Vals vs us) (hl : vs.length = ps.length) {t : TS}
    (ht : PSs (cxOf CX P w K mg base N qual scope f cdv A outer s H E) body t) (hq : t { nx := fun _ H' => Q .non H', rt := Q } (start N vs) H) :
    codeAny (model P w) A (.call (.ref f) args) (CR CX outer P w H s Q E) s := by
  have stays : ∀ b o, base.get? b = some o → s.heap.get? b = some o := fun b o e => (e0.bs b o e).1
  have kin : K.In s.heap := e0.mod.kin.keeps stays
  have kinds : ∀ y ∈ ps.zip us, scope.names.lookup y.1 = some .local ∨ (scope.names.lookup y.1 = some .cell ∧ ((cellsFrom (s.heap.objs.size + 1) scope.names []).lookup y.1).isSome = true) := by
    rintro ⟨n, v⟩ hy
    have hn := (List.of_mem_zip hy).1
    exact (sc.par n hn).imp id fun q => ⟨q, PySem.W.cellsFrom_some _ _ _ (.inl q)⟩
  apply codeAny_call_function room.depth (kin _ _ lk) rfl sc.co sc.gen rfl (PySem.W.codeRec_of kin hcd)
  apply bnd
  apply wpAny_newFunctionEnv_cells sc.kind kinds
  rintro env rfl s1 x
  refine ⟨(e0.mod.nolimit.keeps stays).keeps x.toInCall.keep, codeAny_func ?_⟩
  have I0 := inv_start (CX := CX) (E := E) sc room.hd e0 hl rv x
  refine wpAny_mono (ht.run [] s1 (start N vs) H _ I0 hq) ?_ fun e s' z => z
  intro fl s' z
  cases fl with
  | brk => obtain ⟨_, _, _, z⟩ := z; exact z.elim
  | cont => obtain ⟨_, _, _, z⟩ := z; exact z.elim
  | next =>
    obtain ⟨_, H', J, z⟩ := z
    exact ⟨V.non, H', J.os, J.bare, J.base, J.hok, rfl, z⟩
  | ret u =>
    obtain ⟨v, _, H', J, r, z⟩ := z
    exact ⟨v, H', J.os, J.bare, J.base, J.hok, r, z⟩
end
/-! ### the head of a law whose body runs as it is called -/
theorem head_at {P : Program} {w : World} {K : PySem.W.Frag} {mg mb : Str → Option Value} {CX : CXT} {fa a : Addr} {s₁ : Shared} {vs : List Value} {ns : List Int} (KX : K.In s₁.heap) (g1 : s₁.heap.Ns mainGlobals mg) (g2 : s₁.heap.Ns builtinsNs mb)
    (g3 : ∀ x : Str, x ≠ "__name__" → mb x = bootBuiltins x) (g4 : s₁.heap.NoLimit) (g5 : s₁.gens = #[]) (ha : s₁.heap.get? a = some { cls := .type "list", data := .seq vs.toArray }) (hi : IntsAre vs ns) (hl : ns.length ≤ sizeLine)
    (run : ∀ (base : Heap) (H : Hp), K.In base → base.Ns mainGlobals mg → Env0 P w K mg base callerA [] s₁ H → Only H → SqL K H a (ns.map V.int) → codeAny (model P w) callerA (.call (.ref fa) ⟨[.ref a], []⟩) (CR CX [] P w H s₁ (fun v _ => v = .bl true) fun _ _ _ => False) s₁)
    (never : ∀ H e s', CX [] H s₁ (fun _ _ _ => False) e s' → False) :
    codeAny (model P w) callerA (.call (.ref fa) ⟨[.ref a], []⟩) (fun r s' => r = .ok (.ret (.bool true)) ∧ OldK s₁.heap s'.heap ∧ s'.os = s₁.os ∧ AllBare s'.gens) s₁ := by
  have goal : ∀ H : Hp, Only H → SqL K H a (ns.map V.int) → HOk P w H s₁.heap → (∀ b, H b ≠ none → b = a ∧ K.lookup a = none) →
      codeAny (model P w) callerA (.call (.ref fa) ⟨[.ref a], []⟩) (fun r s' => r = .ok (.ret (.bool true)) ∧ OldK s₁.heap s'.heap ∧ s'.os = s₁.os ∧ AllBare s'.gens) s₁ := by
    intro H only sq ok own
    have free : ∀ b o, s₁.heap.get? b = some o → (b = a → False) → H b = none := fun b o e n => by
      cases q : H b with
      | none => rfl
      | some u => exact (n (own b (by rw [q]; simp)).1).elim
    have dict : ∀ {b : Addr} {m : Str → Option Value}, s₁.heap.Ns b m → (hidT s₁.heap H).Ns b m := by
      rintro b m ⟨o, es, ep, e, d, r⟩
      refine ⟨o, es, ep, hidT_get e (free b o e fun z => ?_), d, r⟩
      rw [z, ha] at e
      cases e
      have : Data.seq vs.toArray 0 = Data.dict es ep := d
      cases this
    have kb : K.In (hidT s₁.heap H) := fun b o e => hidT_get (KX b o e) (by
      cases q : H b with
      | none => rfl
      | some u =>
        obtain ⟨z1, z2⟩ := own b (by rw [q]; simp)
        rw [z1, z2] at e
        cases e)
    have e0 : Env0 P w K mg (hidT s₁.heap H) callerA [] s₁ H :=
      ⟨rfl, ⟨kb, dict g1, ⟨mb, dict g2, g3⟩, g4.elim fun mc z => ⟨mc, dict z.1, z.2⟩⟩, fun b o e => of_hidT e, Nat.le_of_eq (hidT_size _ _), trivial, fun b z => absurd (show b ∈ ([] : List Addr) from z) (by simp), ok, .of_eq g5⟩
    refine codeAny_mono (run _ H kb (dict g1) e0 only sq) ?_
    intro r s' z
    cases r with
    | error e => exact (never H e s' z).elim
    | ok fl =>
      cases fl with
      | next => exact z.elim
      | brk => exact z.elim
      | cont => exact z.elim
      | ret u =>
        obtain ⟨v, H', os, bare, un, ok', r, q⟩ := z
        obtain rfl : v = V.bl true := q
        obtain rfl : u = Value.bool true := r
        refine ⟨rfl, OldK.of_keep fun b o e => ?_, os, bare⟩
        rcases only b with q | ⟨ob, xs, q⟩
        · exact un.keep b o e q (fun z => absurd (show b ∈ ([] : List Addr) from z) (by simp)) (by simp)
        · obtain ⟨e1, _⟩ := ok b _ q
          obtain ⟨e2, _⟩ := ok' b _ (un.frzs b ob _ q)
          exact (e1.symm.trans e) ▸ e2
  have vi := vals_ints hi
  cases hk : K.lookup a with
  | some o =>
    have e := (KX a o hk).symm.trans ha
    cases e
    refine goal (fun _ => none) (fun _ => .inl rfl) (.inr ⟨_, vs.toArray, _, hk, rfl, rfl, rfl, ?_, by simpa using vi⟩) (fun b u z => nomatch z) fun b z => (z rfl).elim
    rw [List.size_toArray, hi.length]
    exact hl
  | none =>
    have at_a : ∀ b u, (if b = a then some (HO.frz { cls := .type "list", data := .seq vs.toArray } (.lst (ns.map V.int))) else none) = some u → b = a ∧ u = HO.frz { cls := .type "list", data := .seq vs.toArray } (.lst (ns.map V.int)) := fun b u z => by
      by_cases q : b = a
      · rw [if_pos q] at z; cases z; exact ⟨q, rfl⟩
      · rw [if_neg q] at z; cases z
    refine goal (fun b => if b = a then some (HO.frz { cls := .type "list", data := .seq vs.toArray } (.lst (ns.map V.int))) else none) (fun b => ?_) (.inl (.inr ⟨_, if_pos rfl⟩)) (fun b u z => ?_) fun b z => ?_
    · by_cases q : b = a
      · exact .inr ⟨_, _, if_pos q⟩
      · exact .inl (if_neg q)
    · obtain ⟨rfl, rfl⟩ := at_a b u z
      exact ⟨ha, by rw [List.length_map]; exact hl, vs, _, vi, ha⟩
    · by_cases q : b = a
      · exact ⟨q, hk⟩
      · exact (z (if_neg q)).elim
/-! ### repr, where nothing is being shown -/
section
variable {X : Cx}
def rRep (K : PySem.W.Frag) : List V → Hp → VK → Prop := fun xs H Q => ∃ x p, xs = [x] ∧ Dp K H x p ∧ p.showable = true ∧ p.hasDict = false ∧ p.shown.length ≤ sizeLine ∧ p.depth ≤ 60 ∧ Q (.str p.shown) H
theorem call_repr (hg : X.A.guards = some []) (hu : X.A.units + 64 < cLine) : CallR X (.builtin "repr") (rRep X.K) := by
  intro pins s σ H xs us Q I rx h
  obtain ⟨x, p, rfl, dp, hs, hd, hl, hz, q⟩ := h
  cases rx with
  | cons r rr =>
    rename_i u us'
    cases rr
    obtain ⟨as, rd⟩ := Dp.reads I p x u dp r
    cases rd with
    | none => exact PySem.P.repr_of_none ⟨.str _, H, I.tok _, ⟨_, rfl⟩, q⟩
    | bool b => exact PySem.P.repr_of_bool ⟨.str _, H, I.tok _, ⟨_, rfl⟩, by cases b <;> exact q⟩
    | int i t => exact PySem.P.repr_of_int (by simpa [PyData.showable] using hs) ⟨.str _, H, I.tok _, ⟨_, rfl⟩, q⟩
    | str y t => exact PySem.P.repr_of_str ⟨.str _, H, I.tok _, ⟨_, rfl⟩, q⟩ hl
    | list h1 h2 h3 h4 => exact repr_of_reads' (.list h1 h2 h3 h4) hs (fun z => by rw [hd] at z; cases z) hg (by omega) (fun _ _ e => e) (fun h' t tk k => ⟨.str _, H, I.kept k, ⟨_, rfl⟩, q⟩) hl
    | tuple h1 h2 h3 h4 => exact repr_of_reads' (.tuple h1 h2 h3 h4) hs (fun z => by rw [hd] at z; cases z) hg (by omega) (fun _ _ e => e) (fun h' t tk k => ⟨.str _, H, I.kept k, ⟨_, rfl⟩, q⟩) hl
    | dict h1 h2 h3 h4 h5 => cases hd
end
def cRepr : GC := fun S ds => match ds with
  | [d] => match pyS S d with
    | some p => if p.showable = true ∧ p.hasDict = false ∧ p.shown.length ≤ sizeLine ∧ p.depth ≤ 60 then some (.str p.shown) else none
    | none => none
  | _ => none
theorem den_repr {K : PySem.W.Frag} : CallDen K (rRep K) cRepr := by
  intro b m H S xs ds d Q hs r e q
  unfold cRepr at e
  split at e
  · rename_i d0
    obtain ⟨v, rfl, rv⟩ := r.one
    cases q1 : pyS S d0 with
    | none => simp only [q1] at e; cases e
    | some p =>
      simp only [q1] at e
      split at e
      · rename_i hp
        cases e
        exact ⟨v, p, rfl, pyS_dp hs rv q1, hp.1, hp.2.1, hp.2.2.1, hp.2.2.2, q _ _ (Same.refl _) (.str _)⟩
      · cases e
  · cases e
/-! ### a law whose body is read where it is called -/
section
variable {P : Program} {w : World} {K : PySem.W.Frag} {mg : Str → Option Value} {base : Heap}
theorem law_at {st : Stmt} {f : Addr} {fd : FuncData} {N : List Str} {x : Str} {k : Nat} (F : Fun K "law" "law" st f fd) (sc : FnScope N [x] (defScope st)) (G : DS) (room : Room (k + 1) callerA)
    (hb : ∀ (cdv : Value) (s : Shared) (H : Hp) (E : XK), Room k (callerA.deeper (envOfC "law" (defScope st) s.heap.objs.size f cdv)) → BD (cxOf (L2.CX P w) P w K mg base N "law" (defScope st) f cdv callerA [] s H E) (WD0 E) (defBody st) G)
    (hG : ∀ ns : List Int, ns.length ≤ 63 → ∃ S, mkF N.length G [scriptD ns] [] = .ok (.bl true) S) (bnd : ∀ (s : Shared) (v : Value), BindsTo s fd ⟨[v], []⟩ [(x, v)])
    (s : Shared) (H : Hp) (a : Addr) (ns : List Int) (hl : ns.length ≤ 63) (e0 : Env0 P w K mg base callerA [] s H) (o : ∀ xs, H a = some (.lst xs) → False) (tb : TabsOk K H) (hS : SqL K H a (ns.map V.int)) :
    codeAny (model P w) callerA (.call (.ref f) ⟨[.ref a], []⟩) (CR (L2.CX P w) [] P w H s (fun v _ => v = .bl true) fun _ _ _ => False) s := by
  obtain ⟨oc, od, kV, doc, pm, an, cdv, ct, osl, rfl, lk, hcd⟩ := F.ex
  obtain ⟨S, hS'⟩ := hG ns hl
  have reps : Reps K [] [] H [.ref a] [scriptD ns] := .cons (.flst (SqL.f hS o) (reps_ints ns)) .nil
  refine run_at (us := [Value.ref a]) lk hcd sc room e0 (bnd s (.ref a)) (.cons rfl .nil : Vals [V.ref a] [Value.ref a]) rfl (hb cdv s H _ (room.deeper _)) ?_
  refine ⟨[], [], startE N.length [scriptD ns], [], startR reps, ⟨rfl, by simp, fun n a c e1 _ => by simp at e1, fun a ha => by simp at ha, tb⟩, ?_⟩
  unfold mkF at hS'
  cases q : G (startE N.length [scriptD ns]) [] with
  | bad => rw [q] at hS'; cases hS'
  | ex e ρ S1 => rw [q] at hS'; cases hS'
  | ok fl S1 =>
    rw [q] at hS'
    cases fl with
    | rt d =>
      cases hS'
      exact fun m' H' v t s r => by cases r; rfl
    | _ => cases hS'
end
theorem walk_at {l : PySem.W.OpenLaw} {n : Nat} {q : Program} {loose : List Str} {XP : (Str → Option Value) → Heap → Prop} {YP : World → Heap → Prop} {d : DefRec} {K : Params → PySem.W.Frag} (most : l.most = some n) (fits : n ≤ sizeLine) (plain : d.params.defaults = [])
    (kin : ∀ (w : World) (h : Heap), YP w h → (K w.params).In h)
    (F : ∀ (w : World) (mg : Str → Option Value) (fa : Addr) (h : Heap), (K w.params).In h → h.Ns mainGlobals mg → mg d.name = some (.ref fa) → ∀ (s : Shared) (base : Heap) (H : Hp) (a : Addr) (ns : List Int), ns.length ≤ n → (K w.params).In base → base.Ns mainGlobals mg →
      Env0 l.prog w (K w.params) mg base callerA [] s H → Only H → SqL (K w.params) H a (ns.map V.int) → codeAny (model l.prog w) callerA (.call (.ref fa) ⟨[.ref a], []⟩) (CR (L2.CX l.prog w) [] l.prog w H s (fun v _ => v = .bl true) fun _ _ _ => False) s) :
    PySem.W.WalkO q loose XP YP l.row.toRowW d [] (fun f vs => PySem.call f vs) :=
  Att.attach_call most plain fun w _ s1 mg mb fa o _ _ _ a vs ns top Y _ _ _ at_fa at_a whole short bare =>
    head_at (kin w _ Y) top.T.g top.T.b top.T.builtins top.T.nolimit bare at_a whole (Nat.le_trans short fits) (fun base H kb nb e0 only sq => F w mg fa _ (kin w _ Y) top.T.g at_fa s1 base H a ns short kb nb e0 only sq) fun H e s' => cx_end w H s1 e s'
/-! ### == and != of texts -/
def gEqS : G2 := fun _ x y => match x, y with
  | .str i, .str j => some (.bl (decide (i = j)))
  | _, _ => none
def gNeS : G2 := fun _ x y => match x, y with
  | .str i, .str j => some (.bl (decide (i ≠ j)))
  | _, _ => none
theorem den_eqS {K : PySem.W.Frag} : OpDen K rEq gEqS := by
  intro b m H S x y dx dy d Q hs rx ry e q
  unfold gEqS at e
  split at e
  · cases e
    cases rx; cases ry
    rename_i i j
    refine ⟨rfl, ?_⟩
    have : decide (V.str i = V.str j) = decide (i = j) := by simp
    rw [this]
    exact q _ _ (Same.refl _) (.bl _)
  · cases e
theorem den_neS {K : PySem.W.Frag} : OpDen K rNe gNeS := by
  intro b m H S x y dx dy d Q hs rx ry e q
  unfold gNeS at e
  split at e
  · cases e
    cases rx; cases ry
    rename_i i j
    refine ⟨rfl, ?_⟩
    have : (!decide (V.str i = V.str j)) = decide (i ≠ j) := by simp
    rw [this]
    exact q _ _ (Same.refl _) (.bl _)
  · cases e
/-! ### list(..) that will be written to -/
def mlistP (ds : List D) : M D := fun S => match ds with
  | [d] => match seqA S d with
    | some xs => mnew xs S
    | none => .bad
  | _ => .bad
@[simp] def dListP (f : Env → M (List D)) : Env → M D := fun ρ => mbind (f ρ) mlistP
theorem pd_listP {X : Cx} {W : WX} {x : Str} {e : Expr} {es : List Expr} {p pos : Pos} {f : Env → M (List D)} (hg : Gl X x) (hm : X.mg x = none) (hv : bootBuiltins x = some (.type "list")) (ha : AD X W (e :: es) f) (hn : x ≠ "__name__" := by decide) (hdb : (x == ("__debug__" : Str)) = false := by decide)
    (he : starEach (e :: es) X.env = (false, eval e X.env) :: starEach es X.env := by rfl) (hpl : (backTo pos (starEach es X.env)).any (·.1) = false := by rfl) : PD X W (.Call (.Name x p) (e :: es) [] pos) (dListP f) :=
  PE.imp (pe_callTy call_list_of hg hm hv ha hn hdb he hpl) fun σ H Q h => by
    obtain ⟨b, m, ρ, S, hv, hs, h⟩ := h
    refine ⟨b, m, ρ, S, hv, hs, Post.then h fun ds S1 m1 H1 xs e1 t1 s1 r1 h1 => ?_⟩
    unfold mlistP at h1
    split at h1
    · rename_i d
      obtain ⟨v, rfl, rv⟩ := r1.one
      cases q : seqA S1 d with
      | none => simp only [q] at h1; exact h1.elim
      | some zs =>
        simp only [q] at h1
        obtain ⟨a, ys, rfl, h2, h3⟩ := seqA_rep s1 rv q
        exact ⟨a, ys, rfl, h2, fun l hl => h1 _ _ _ (Tr.new hl) (s1.new hl h3) (newPtr s1)⟩
    · exact h1.elim
end DL
set_option Elab.async false
set_option linter.all false
set_option maxRecDepth 100000
namespace DL
open PySem PySem.Spec PyProof.Rows L2
/-! ### small data are shown -/
mutual
def Fn : D → Bool
  | .non => true
  | .bl _ => true
  | .int i => decide (i.natAbs < 10 ^ 18)
  | .str x => decide ((reprText x).length ≤ 100)
  | .tup ds => Fns ds
  | .lst ds => Fns ds
  | _ => false
def Fns : List D → Bool
  | [] => true
  | d :: ds => Fn d && Fns ds
end
mutual
def wt : D → Nat
  | .tup ds => wts ds + 4
  | .lst ds => wts ds + 4
  | _ => 100
def wts : List D → Nat
  | [] => 0
  | d :: ds => wt d + 2 + wts ds
end
mutual
def dpt : D → Nat
  | .tup ds => dpts ds + 1
  | .lst ds => dpts ds + 1
  | _ => 0
def dpts : List D → Nat
  | [] => 0
  | d :: ds => max (dpt d) (dpts ds)
end
theorem textFrom_le : ∀ (ts : List Str) (k : Nat) (acc : Str), (textFrom k acc ts).length ≤ acc.length + piled ts
  | [], k, acc => Nat.le_refl _
  | t :: r, k, acc => by
    have ih := textFrom_le r (k + 1) (acc ++ (if k > 0 then ", " else "" : String) ++ t)
    have e : (acc ++ (if k > 0 then ", " else "" : String) ++ t).length = acc.length + (if k > 0 then 2 else 0) + t.length := by
      rw [strLen_append, strLen_append]
      congr 2
      split <;> rfl
    rw [e] at ih
    have : piled (t :: r) = t.length + 2 + piled r := by simp [piled]
    show (textFrom (k + 1) (acc ++ (if k > 0 then ", " else "" : String) ++ t) r).length ≤ _
    rw [this]
    have h2 : (if k > 0 then 2 else 0) ≤ 2 := by split <;> omega
    omega
theorem listText_le (ts : List Str) : (listText ts).length ≤ piled ts + 2 := by
  unfold listText
  rw [strLen_append]
  have := textFrom_le ts 0 "["
  have e1 : (("[" : String) : Str).length = 1 := rfl
  have e2 : (("]" : String) : Str).length = 1 := rfl
  omega
theorem tupleText_le (ts : List Str) : (tupleText ts).length ≤ piled ts + 4 := by
  unfold tupleText
  rw [strLen_append, strLen_append]
  have e1 : (("(" : String) : Str).length = 1 := rfl
  have e2 : ((if ts.length == 1 then ",)" else ")" : String) : Str).length ≤ 2 := by split <;> decide
  have e3 : (Str.join ", " ts).length ≤ piled ts := by
    by_cases h : ts = []
    · subst h; decide +kernel
    · have := join_length_add ts h; omega
  omega
mutual
theorem fn_py : ∀ d : D, Fn d = true → ∃ p, d.py = some p ∧ p.showable = true ∧ p.hasDict = false ∧ p.shown.length ≤ wt d ∧ p.depth ≤ dpt d
  | .non, _ => ⟨.none, rfl, rfl, rfl, by decide +kernel, Nat.le_refl _⟩
  | .bl b, _ => ⟨.bool b, rfl, rfl, rfl, by cases b <;> decide +kernel, Nat.le_refl _⟩
  | .int i, h => by
    have h := of_decide_eq_true h
    refine ⟨.int i, rfl, ?_, rfl, ?_, Nat.le_refl _⟩
    · simp only [PyData.showable, decide_eq_true_eq]
      by_cases hz : i.natAbs = 0
      · rw [hz]; decide
      · exact (Nat.log2_lt hz).mpr (Nat.lt_trans h (by decide +kernel))
    · have := int_text_length_le10 (a := i) (k := 18) (by decide) h
      show (Str.ofString (toString i)).length ≤ 100
      rw [PySem.ofString_length]
      omega
  | .str x, h => ⟨.str x, rfl, rfl, rfl, of_decide_eq_true h, Nat.le_refl _⟩
  | .tup ds, h => by
    obtain ⟨ps, e1, e2, e3, e4, e5⟩ := fns_py ds h
    refine ⟨.tuple ps, by unfold D.py; rw [e1], e2, e3, ?_, ?_⟩
    · show (tupleText (PyData.shownAll ps)).length ≤ wts ds + 4
      have := tupleText_le (PyData.shownAll ps)
      omega
    · show PyData.depthAll ps + 1 ≤ dpts ds + 1
      omega
  | .lst ds, h => by
    obtain ⟨ps, e1, e2, e3, e4, e5⟩ := fns_py ds h
    refine ⟨.list ps, by unfold D.py; rw [e1], e2, e3, ?_, ?_⟩
    · show (listText (PyData.shownAll ps)).length ≤ wts ds + 4
      have := listText_le (PyData.shownAll ps)
      omega
    · show PyData.depthAll ps + 1 ≤ dpts ds + 1
      omega
  | .ty _, h => by cases h
  | .flst _, h => by cases h
  | .ptr _, h => by cases h
  | .obj _, h => by cases h
theorem fns_py : ∀ ds : List D, Fns ds = true → ∃ ps, D.pys ds = some ps ∧ PyData.showableAll ps = true ∧ PyData.hasDictAll ps = false ∧ piled (PyData.shownAll ps) ≤ wts ds ∧ PyData.depthAll ps ≤ dpts ds
  | [], _ => ⟨[], rfl, rfl, rfl, Nat.le_refl _, Nat.le_refl _⟩
  | d :: ds, h => by
    have h : Fn d = true ∧ Fns ds = true := Bool.and_eq_true_iff.mp h
    obtain ⟨p, a1, a2, a3, a4, a5⟩ := fn_py d h.1
    obtain ⟨ps, e1, e2, e3, e4, e5⟩ := fns_py ds h.2
    refine ⟨p :: ps, by unfold D.pys; rw [a1, e1], by simp [PyData.showableAll, a2, e2], by simp [PyData.hasDictAll, a3, e3], ?_, ?_⟩
    · show piled (p.shown :: PyData.shownAll ps) ≤ wt d + 2 + wts ds
      rw [piled_cons]
      omega
    · show max p.depth (PyData.depthAll ps) ≤ max (dpt d) (dpts ds)
      omega
end
/-- repr of small data: one text, whatever the store -/
theorem v_repr (d : D) (h : Fn d = true) (hw : wt d ≤ 16777216) (hd : dpt d ≤ 60) : ∃ t, ∀ S, cRepr S [d] = some (.str t) := by
  obtain ⟨p, e1, e2, e3, e4, e5⟩ := fn_py d h
  refine ⟨p.shown, fun S => ?_⟩
  have hS : pyS S d = some p := by
    cases d with
    | ptr n => cases h
    | _ => exact e1
  have hl : p.shown.length ≤ sizeLine := by rw [sizeLine_eq]; omega
  show (match pyS S d with
    | some p => if p.showable = true ∧ p.hasDict = false ∧ p.shown.length ≤ sizeLine ∧ p.depth ≤ 60 then some (D.str p.shown) else none
    | none => none) = _
  rw [hS]
  exact if_pos ⟨e2, e3, hl, by omega⟩
end DL
set_option Elab.async false
set_option linter.all false
set_option maxRecDepth 100000
set_option maxHeartbeats 4000000
/-! more of the shared defs: sizes, panels, ways, bent values; a def of one name has one text in all laws -/
namespace DL.Pre
open PySem PySem.Spec PyProof.Rows L2 DL
def c_MOTIONS : List (Str × D) := [("stay", (.ctup [(.int 0), (.int 0)])), ("turn", (.ctup [(.int 1), (.int 0)])), ("tumble", (.ctup [(.int 0), (.int 1)])), ("spin", (.ctup [(.int 1), (.int 1)]))]
def G_side_up : DS := (sSeq (sAsg (dVar 0) (gtTup 2 (gtCons (gtName 1) (gtCons (gtName 2) gtNil))))
  (sRet (dIfE (dTest (dOp2 gEq (dVar 1) (dVar 2))) (dC (.str "front")) (dC (.str "back")))))
def F_side_up : List D → M D := fzF (mkF 3 G_side_up)
def G_after_turn : DS := (sSeq (sAsg (dVar 0) (gtTup 2 (gtCons (gtName 2) (gtCons (gtName 3) gtNil))))
  (sSeq (sAsg (dTbl c_MOTIONS (dVar 1)) (gtTup 2 (gtCons (gtName 4) (gtCons (gtName 5) gtNil))))
  (sRet (dTup (aCons (dOp2 gXor (dVar 2) (dVar 4)) (aCons (dOp2 gXor (dVar 3) (dVar 5)) aNil))))))
def F_after_turn : List D → M D := fzF (mkF 6 G_after_turn)
def G__law_motions : DS := (sRet (dTup (aCons (dC (.str "stay")) (aCons (dC (.str "turn")) (aCons (dC (.str "tumble")) (aCons (dC (.str "spin")) aNil))))))
def F__law_motions : List D → M D := fzF (mkF 0 G__law_motions)
def G__law_way_after : DS := (sSeq (sAsg (dIfE (dTest (dOp2 gIn (dVar 1) (dTup (aCons (dC (.str "turn")) (aCons (dC (.str "spin")) aNil))))) (dC (.int 1)) (dC (.int 0))) (gtName 2))
  (sSeq (sAsg (dIfE (dTest (dOp2 gIn (dVar 1) (dTup (aCons (dC (.str "tumble")) (aCons (dC (.str "spin")) aNil))))) (dC (.int 1)) (dC (.int 0))) (gtName 3))
  (sRet (dTup (aCons (dOp2 gMod (dCallB cInt (aCons (dOp2 gAdd (dOp2 gIx (dVar 0) (dC (.int 0))) (dVar 2)) aNil)) (dC (.int 2))) (aCons (dOp2 gMod (dCallB cInt (aCons (dOp2 gAdd (dOp2 gIx (dVar 0) (dC (.int 1))) (dVar 3)) aNil)) (dC (.int 2))) aNil))))))
def F__law_way_after : List D → M D := fzF (mkF 4 G__law_way_after)
def G_is_between : DS := (sRet (dAndV (dOp2 gIsTy (dCallB cType (aCons (dVar 0) aNil)) (dC (.ty "int"))) (dChain gLe gLe (dVar 1) (dVar 0) (dVar 2))))
def F_is_between : List D → M D := fzF (mkF 3 G_is_between)
def G_is_tuple_of : DS := (sRet (dAndV (dOp2 gIsTy (dCallB cType (aCons (dVar 0) aNil)) (dC (.ty "tuple"))) (dOp2 gEq (dCallB cLen (aCons (dVar 0) aNil)) (dVar 1))))
def F_is_tuple_of : List D → M D := fzF (mkF 2 G_is_tuple_of)
def G_panels : DS := (sSeq (sAsg (dVar 0) (gtTup 2 (gtCons (gtName 1) (gtCons (gtName 2) gtNil))))
  (sRet (dComp2 (iArgs rng1 (aCons (dVar 1) aNil)) (gtName 3) dYes (iArgs rng1 (aCons (dVar 2) aNil)) (gtName 4) dYes (dTup (aCons (dVar 3) (aCons (dVar 4) aNil))) [3, 4] [4])))
def F_panels : List D → M D := fzF (mkF 5 G_panels)
def G__law_is_integer : DS := (sRet (dAndV (dCallB cIsi (aCons (dVar 0) (aCons (dC (.ty "int")) aNil))) (dNotV (dCallB cIsi (aCons (dVar 0) (aCons (dC (.ty "bool")) aNil))))))
def F__law_is_integer : List D → M D := fzF (mkF 1 G__law_is_integer)
def G_is_size : DS := (sSeq (sIf (dNot (dTrue (dCall 2 F_is_tuple_of (aCons (dVar 0) (aCons (dC (.int 2)) aNil))))) (sRet (dC (.bl false))) sNil)
  (sSeq (sAsg (dVar 0) (gtTup 2 (gtCons (gtName 1) (gtCons (gtName 2) gtNil))))
  (sSeq (sIf (dOr (dNot (dTrue (dCall 3 F_is_between (aCons (dVar 1) (aCons (dC (.int 1)) (aCons (dC (.int 16)) aNil)))))) (dNot (dTrue (dCall 3 F_is_between (aCons (dVar 2) (aCons (dC (.int 1)) (aCons (dC (.int 16)) aNil))))))) (sRet (dC (.bl false))) sNil)
  (sRet (dOp2 gLe (dOp2 gMul (dVar 1) (dVar 2)) (dC (.int 64)))))))
def F_is_size : List D → M D := fzF (mkF 3 G_is_size)
def G__law_booled (F__law_booled_ : List D → M D) : DS := (sSeq (sIf (dTrue (dCallB cIsi (aCons (dVar 0) (aCons (dC (.ty "tuple")) aNil)))) (sRet (dCallB cTuple (aCons (dComp (iTupD (dVar 0)) (gtName 1) dYes (dCall 1 F__law_booled_ (aCons (dVar 1) aNil)) [1]) aNil))) sNil)
  (sRet (dIfE (dAnd (dTrue (dCall 1 F__law_is_integer (aCons (dVar 0) aNil))) (dAnd (dTest (dOp2 gLe (dC (.int 0)) (dVar 0))) (dTest (dOp2 gLt (dVar 0) (dC (.int 2)))))) (dOp2 gIx (dTup (aCons (dC (.bl false)) (aCons (dC (.bl true)) aNil))) (dVar 0)) (dVar 0))))
def F__law_booled : Nat → List D → M D
  | 0 => fun _ => mbad
  | n + 1 => fzF (mkF 2 (G__law_booled (F__law_booled n)))
def G__law_is_number : DS := (sRet (dAndV (dCall 1 F__law_is_integer (aCons (dVar 0) aNil)) (dAndV (dOp2 gLe (dC (.int 0)) (dVar 0)) (dOp2 gLe (dVar 0) (dVar 1)))))
def F__law_is_number : List D → M D := fzF (mkF 2 G__law_is_number)
def G__law_bent (F__law_bent_ : List D → M D) : DS := (sSeq (sIf (dAnd (dTrue (dCallB cIsi (aCons (dVar 1) (aCons (dC (.ty "tuple")) aNil)))) (dAnd (dTest (dOp2 gGt (dCallB cLen (aCons (dVar 1) aNil)) (dC (.int 0)))) (dTest (dOp2 gGt (dCall 2 F__law_draw (aCons (dVar 0) (aCons (dC (.int 3)) aNil))) (dC (.int 0)))))) (sSeq (sAsg (dCall 2 F__law_draw (aCons (dVar 0) (aCons (dCallB cLen (aCons (dVar 1) aNil)) aNil))) (gtName 3))
  (sRet (dOp2 gAdd (dOp2 gAdd (dSlice (dVar 1) oNone (oSome (dVar 3))) (dTup (aCons (dCall 2 F__law_bent_ (aCons (dVar 0) (aCons (dOp2 gIx (dVar 1) (dVar 3)) aNil))) aNil))) (dSlice (dVar 1) (oSome (dOp2 gAdd (dVar 3) (dC (.int 1)))) oNone)))) sNil)
  (sSeq (sAsg (dCall 2 F__law_draw (aCons (dVar 0) (aCons (dC (.int 9)) aNil))) (gtName 2))
  (sSeq (sIf (dTest (dOp2 gEq (dVar 2) (dC (.int 0)))) (sRet (dOp2 gIx (dTup (aCons (dC (.str "x")) (aCons (dC (.bl true)) (aCons (dTup aNil) (aCons (dC (.int 0)) (aCons (dNeg (dC (.int 1))) (aCons (dC .non) (aCons (dC (.bl false)) (aCons (dLst aNil) aNil))))))))) (dCall 2 F__law_draw (aCons (dVar 0) (aCons (dC (.int 8)) aNil))))) sNil)
  (sSeq (sIf (dTrue (dCall 1 F__law_is_integer (aCons (dVar 1) aNil))) (sRet (dOp2 gAdd (dVar 1) (dOp2 gIx (dTup (aCons (dC (.int 1)) (aCons (dNeg (dC (.int 1))) (aCons (dC (.int 2)) (aCons (dC (.int 0)) aNil))))) (dCall 2 F__law_draw (aCons (dVar 0) (aCons (dC (.int 4)) aNil)))))) sNil)
  (sSeq (sIf (dTrue (dCallB cIsi (aCons (dVar 1) (aCons (dC (.ty "str")) aNil)))) (sRet (dOp2 gIx (dTup (aCons (dOp2 gAdd (dVar 1) (dC (.str "a"))) (aCons (dSlice (dVar 1) (oSome (dC (.int 1))) oNone) (aCons (dOp2 gAdd (dVar 1) (dC (.str "A"))) (aCons (dOp2 gAdd (dVar 1) (dC (.str " "))) (aCons (dSlice (dVar 1) oNone (oSome (dC (.int 1)))) aNil)))))) (dCall 2 F__law_draw (aCons (dVar 0) (aCons (dC (.int 5)) aNil))))) sNil)
  (sSeq (sIf (dOr (dNot (dTrue (dCallB cIsi (aCons (dVar 1) (aCons (dC (.ty "tuple")) aNil))))) (dTest (dOp2 gEq (dCallB cLen (aCons (dVar 1) aNil)) (dC (.int 0))))) (sRet (dIfE (dTest (dOp2 gLt (dVar 2) (dC (.int 5)))) (dTup (aCons (dVar 1) (aCons (dC (.int 0)) aNil))) (dTup aNil))) sNil)
  (sSeq (sAsg (dCall 2 F__law_draw (aCons (dVar 0) (aCons (dCallB cLen (aCons (dVar 1) aNil)) aNil))) (gtName 3))
  (sSeq (sIf (dTest (dOp2 gLt (dVar 2) (dC (.int 3)))) (sRet (dOp2 gAdd (dSlice (dVar 1) oNone (oSome (dVar 3))) (dSlice (dVar 1) (oSome (dOp2 gAdd (dVar 3) (dC (.int 1)))) oNone))) sNil)
  (sSeq (sIf (dTest (dOp2 gLt (dVar 2) (dC (.int 5)))) (sRet (dOp2 gAdd (dOp2 gAdd (dSlice (dVar 1) oNone (oSome (dVar 3))) (dTup (aCons (dOp2 gIx (dVar 1) (dVar 3)) aNil))) (dSlice (dVar 1) (oSome (dVar 3)) oNone))) sNil)
  (sSeq (sIf (dTest (dOp2 gEq (dVar 2) (dC (.int 5)))) (sRet (dCallB cList (aCons (dVar 1) aNil))) sNil)
  (sSeq (sAsg (dCall 2 F__law_draw (aCons (dVar 0) (aCons (dCallB cLen (aCons (dVar 1) aNil)) aNil))) (gtName 4))
  (sSeq (sAsg (dListP (aCons (dVar 1) aNil)) (gtName 5))
  (sSeq (sSetIx (dVar 5) (dVar 3) (dOp2 gIx (dVar 1) (dVar 4)))
  (sSeq (sSetIx (dVar 5) (dVar 4) (dOp2 gIx (dVar 1) (dVar 3)))
  (sRet (dCallB cTuple (aCons (dVar 5) aNil)))))))))))))))))
def F__law_bent : Nat → List D → M D
  | 0 => fun _ => mbad
  | n + 1 => fzF (mkF 6 (G__law_bent (F__law_bent n)))
def G__law_size : DS := (sSeq (sAsg (dOp2 gAdd (dC (.int 1)) (dCall 2 F__law_draw (aCons (dVar 0) (aCons (dC (.int 4)) aNil)))) (gtName 2))
  (sSeq (sAsg (dOp2 gAdd (dC (.int 1)) (dCall 2 F__law_draw (aCons (dVar 0) (aCons (dC (.int 4)) aNil)))) (gtName 3))
  (sSeq (sWh (dTest (dOp2 gGt (dOp2 gMul (dVar 2) (dVar 3)) (dVar 1))) (sIf (dTest (dOp2 gGt (dVar 2) (dVar 3))) (sAsg (dOp2 gSub (dVar 2) (dC (.int 1))) (gtName 2)) (sAsg (dOp2 gSub (dVar 3) (dC (.int 1))) (gtName 3))) fuel)
  (sRet (dOp2 gIx (dTup (aCons (dTup (aCons (dVar 2) (aCons (dVar 3) aNil))) (aCons (dTup (aCons (dVar 3) (aCons (dVar 2) aNil))) aNil))) (dCall 2 F__law_draw (aCons (dVar 0) (aCons (dC (.int 2)) aNil))))))))
def F__law_size : List D → M D := fzF (mkF 4 G__law_size)
def G__law_is_size : DS := (sSeq (sIf (dOr (dNot (dTrue (dCallB cIsi (aCons (dVar 0) (aCons (dC (.ty "tuple")) aNil))))) (dTest (dOp2 gNe (dCallB cLen (aCons (dVar 0) aNil)) (dC (.int 2))))) (sRet (dC (.bl false))) sNil)
  (sSeq (sIf (dTest (dOp2 gGt (dCallB cLen (aCons (dComp (iTupD (dVar 0)) (gtName 1) (dOr (dNot (dTrue (dCall 2 F__law_is_number (aCons (dVar 1) (aCons (dC (.int 16)) aNil))))) (dTest (dOp2 gEq (dVar 1) (dC (.int 0))))) (dVar 1) [1]) aNil)) (dC (.int 0)))) (sRet (dC (.bl false))) sNil)
  (sRet (dOp2 gLe (dOp2 gMul (dOp2 gIx (dVar 0) (dC (.int 0))) (dOp2 gIx (dVar 0) (dC (.int 1)))) (dC (.int 64))))))
def F__law_is_size : List D → M D := fzF (mkF 2 G__law_is_size)
/-! ### statements, step by step -/
theorem sFor_ok {fi : DL.Env → M (List D)} {g : DG} {f : DS} {ρ : DL.Env} {S S' : Sto} {ds : List D} (h : fi ρ S = .ok ds S') : sFor fi g f ρ S = sLoop g f ds ρ S' := by
  show sbind (fi ρ S) ρ _ = _
  rw [h]
  rfl
theorem dComp_ok {fi : DL.Env → M (List D)} {g : DG} {t : DL.Env → M Bool} {e : DL.Env → M D} {vs : List Nat} {ρ : DL.Env} {S S1 S2 : Sto} {items ds : List D} (h1 : fi ρ S = .ok items S1) (h2 : items.length ≤ sizeLine) (h3 : compL g t e (dwipe ρ vs) items S1 = .ok ds S2) : dComp fi g t e vs ρ S = .ok (.lst ds) S2 := by
  show (fi ρ S).then _ = _
  rw [h1]
  show (if items.length ≤ sizeLine then mbind (compL g t e (dwipe ρ vs) items) fun ds => mret (.lst ds) else mbad : M D) S1 = _
  rw [if_pos h2]
  show (compL g t e (dwipe ρ vs) items S1).then _ = _
  rw [h3]
  rfl
theorem sAsg_ok {fe : DL.Env → M D} {g : DG} {ρ ρ' : DL.Env} {S S' : Sto} {d : D} (h : fe ρ S = .ok d S') (h2 : g d ρ = some ρ') : sAsg fe g ρ S = .ok (.nx ρ') S' := by
  show sbind (fe ρ S) ρ _ = _
  rw [h]
  simp only [sbind_ok, h2]
theorem sRet_ok {fe : DL.Env → M D} {ρ : DL.Env} {S S' : Sto} {d : D} (h : fe ρ S = .ok d S') : sRet fe ρ S = .ok (.rt d) S' := by
  show sbind (fe ρ S) ρ _ = _
  rw [h]
  rfl
def btw (lo hi : Int) : D → Bool
  | .int i => decide (lo ≤ i) && decide (i ≤ hi)
  | _ => false
def tupn (n : Int) : D → Bool
  | .tup ds => decide ((ds.length : Int) = n)
  | _ => false
def ple : D → D → Bool
  | .int r, .int c => decide (r * c ≤ 64)
  | _, _ => false
def isz : D → Bool
  | .tup [a, b] => btw 1 16 a && btw 1 16 b && ple a b
  | _ => false
theorem btw_int {lo hi : Int} {x : D} (h : btw lo hi x = true) : ∃ i, x = .int i ∧ lo ≤ i ∧ i ≤ hi := by
  cases x with
  | int i => simp [btw] at h; exact ⟨i, rfl, h⟩
  | _ => cases h
theorem v_between (x : D) (lo hi : Int) (S : Sto) (h : Plain x = true) : F_is_between [x, .int lo, .int hi] S = .ok (.bl (btw lo hi x)) S := by
  cases x with
  | int i => by_cases h1 : lo ≤ i <;> by_cases h2 : i ≤ hi <;> simp -implicitDefEqProofs [F_is_between, G_is_between, btw, h1, h2]
  | non => simp -implicitDefEqProofs [F_is_between, G_is_between, btw]
  | bl b => simp -implicitDefEqProofs [F_is_between, G_is_between, btw]
  | str y => simp -implicitDefEqProofs [F_is_between, G_is_between, btw]
  | tup ds => simp -implicitDefEqProofs [F_is_between, G_is_between, btw]
  | lst ds => simp -implicitDefEqProofs [F_is_between, G_is_between, btw]
  | _ => cases h
theorem v_tuple_of (x : D) (n : Int) (S : Sto) (h : Plain x = true) : F_is_tuple_of [x, .int n] S = .ok (.bl (tupn n x)) S := by
  cases x with
  | tup ds => by_cases hn : (ds.length : Int) = n <;> simp -implicitDefEqProofs [F_is_tuple_of, G_is_tuple_of, tupn, hn]
  | int i => simp -implicitDefEqProofs [F_is_tuple_of, G_is_tuple_of, tupn]
  | non => simp -implicitDefEqProofs [F_is_tuple_of, G_is_tuple_of, tupn]
  | bl b => simp -implicitDefEqProofs [F_is_tuple_of, G_is_tuple_of, tupn]
  | str y => simp -implicitDefEqProofs [F_is_tuple_of, G_is_tuple_of, tupn]
  | lst ds => simp -implicitDefEqProofs [F_is_tuple_of, G_is_tuple_of, tupn]
  | _ => cases h
theorem size_no (x : D) (S : Sto) (h : Plain x = true) (h1 : tupn 2 x = false) : F_is_size [x] S = .ok (.bl false) S := by
  have e := nox_ok (v_tuple_of x 2 S h)
  rw [h1] at e
  simp -implicitDefEqProofs [F_is_size, G_is_size, e]
theorem v_is_size (x : D) (S : Sto) (h : Plain x = true) : F_is_size [x] S = .ok (.bl (isz x)) S := by
  by_cases ht : tupn 2 x = true
  · obtain ⟨a, b, rfl⟩ : ∃ a b, x = .tup [a, b] := by
      cases x with
      | tup ds =>
        match ds, ht with
        | [a, b], _ => exact ⟨a, b, rfl⟩
        | [], ht => simp [tupn] at ht
        | [_], ht => simp [tupn] at ht
        | _ :: _ :: _ :: r, ht => simp [tupn] at ht; omega
      | _ => cases ht
    have e := nox_ok (v_tuple_of _ 2 S h)
    rw [ht] at e
    simp only [Plain, Plains, Bool.and_eq_true] at h
    have e1 := nox_ok (v_between a 1 16 S h.1.1)
    have e2 := nox_ok (v_between b 1 16 S h.1.2.1)
    cases q1 : btw 1 16 a with
    | false =>
      rw [q1] at e1
      simp -implicitDefEqProofs [F_is_size, G_is_size, e, e1, isz, q1]
    | true =>
      rw [q1] at e1
      cases q2 : btw 1 16 b with
      | false =>
        rw [q2] at e2
        simp -implicitDefEqProofs [F_is_size, G_is_size, e, e1, e2, isz, q1, q2]
      | true =>
        rw [q2] at e2
        obtain ⟨i, rfl, i1, i2⟩ := btw_int q1
        obtain ⟨j, rfl, j1, j2⟩ := btw_int q2
        have m1 : (-18446744073709551616 : Int) < i ∧ i < 18446744073709551616 := by omega
        simp -implicitDefEqProofs [F_is_size, G_is_size, e, e1, e2, isz, q1, q2, m1, ple]
  · have ht : tupn 2 x = false := by simpa using ht
    rw [size_no x S h ht]
    have : isz x = false := by
      cases x with
      | tup ds =>
        match ds, ht with
        | [a, b], ht => simp [tupn] at ht
        | [], _ => rfl
        | [_], _ => rfl
        | _ :: _ :: _ :: _, _ => rfl
      | _ => rfl
    rw [this]
def isint : D → Bool
  | .int _ => true
  | _ => false
theorem v_is_integer (x : D) (S : Sto) (h : Plain x = true) : F__law_is_integer [x] S = .ok (.bl (isint x)) S := by
  cases x with
  | int i => simp -implicitDefEqProofs [F__law_is_integer, G__law_is_integer, isint]
  | non => simp -implicitDefEqProofs [F__law_is_integer, G__law_is_integer, isint]
  | bl b => simp -implicitDefEqProofs [F__law_is_integer, G__law_is_integer, isint]
  | str y => simp -implicitDefEqProofs [F__law_is_integer, G__law_is_integer, isint]
  | tup ds => simp -implicitDefEqProofs [F__law_is_integer, G__law_is_integer, isint]
  | lst ds => simp -implicitDefEqProofs [F__law_is_integer, G__law_is_integer, isint]
  | _ => cases h
theorem v_is_number (x : D) (top : Int) (S : Sto) (h : Plain x = true) : F__law_is_number [x, .int top] S = .ok (.bl (btw 0 top x)) S := by
  have e := nox_ok (v_is_integer x S h)
  cases x with
  | int i => by_cases h1 : 0 ≤ i <;> by_cases h2 : i ≤ top <;> simp -implicitDefEqProofs [F__law_is_number, G__law_is_number, btw, e, h1, h2, isint]
  | non => simp -implicitDefEqProofs [F__law_is_number, G__law_is_number, btw, e, isint]
  | bl b => simp -implicitDefEqProofs [F__law_is_number, G__law_is_number, btw, e, isint]
  | str y => simp -implicitDefEqProofs [F__law_is_number, G__law_is_number, btw, e, isint]
  | tup ds => simp -implicitDefEqProofs [F__law_is_number, G__law_is_number, btw, e, isint]
  | lst ds => simp -implicitDefEqProofs [F__law_is_number, G__law_is_number, btw, e, isint]
  | _ => cases h
theorem odd_items (ds : List D) (S : Sto) (h : Plains ds = true) :
    compL (gtName 1) (dOr (dNot (dTrue (dCall 2 F__law_is_number (aCons (dVar 1) (aCons (dC (.int 16)) aNil))))) (dTest (dOp2 gEq (dVar 1) (dC (.int 0))))) (dVar 1) [some (.tup ds), none] ds S = .ok ((ds.filter fun d => !btw 1 16 d).map id) S := by
  refine compL_pure (fun d => !btw 1 16 d) id ds fun d hd => ⟨[some (.tup ds), some d], rfl, ?_, fun _ => rfl⟩
  have hp := plains_mem h d hd
  have e := nox_ok (v_is_number d 16 S hp)
  cases q : btw 0 16 d with
  | false =>
    rw [q] at e
    have : btw 1 16 d = false := by
      cases d with
      | int i => simp [btw] at q ⊢; omega
      | _ => rfl
    simp -implicitDefEqProofs [e, this]
  | true =>
    rw [q] at e
    obtain ⟨i, rfl, i1, i2⟩ := btw_int q
    by_cases hi : i = 0
    · subst hi
      simp -implicitDefEqProofs [e, btw]
    · have : btw 1 16 (.int i) = true := by simp [btw]; omega
      simp -implicitDefEqProofs [e, this, hi]
theorem v_law_is_size (x : D) (S : Sto) (h : Plain x = true) : F__law_is_size [x] S = .ok (.bl (isz x)) S := by
  cases x with
  | tup ds =>
    by_cases hl : ds.length = 2
    · match ds, hl with
      | [a, b], _ =>
        have hp : Plains [a, b] = true := by simp only [Plain, Bool.and_eq_true] at h; exact h.1
        have c := odd_items [a, b] S hp
        simp -implicitDefEqProofs [F__law_is_size, G__law_is_size, dwipe, c]
        cases q1 : btw 1 16 a <;> cases q2 : btw 1 16 b <;> simp -implicitDefEqProofs [q1, q2, isz]
        obtain ⟨i, rfl, i1, i2⟩ := btw_int q1
        obtain ⟨j, rfl, j1, j2⟩ := btw_int q2
        have m1 : (-18446744073709551616 : Int) < i ∧ i < 18446744073709551616 := by omega
        simp -implicitDefEqProofs [m1, ple]
    · have h2 : ¬ ((ds.length : Int) = 2) := by omega
      have : isz (.tup ds) = false := by
        match ds, hl with
        | [a, b], hl => simp at hl
        | [], _ => rfl
        | [_], _ => rfl
        | _ :: _ :: _ :: _, _ => rfl
      simp -implicitDefEqProofs [F__law_is_size, G__law_is_size, h2, this]
  | int i => simp -implicitDefEqProofs [F__law_is_size, G__law_is_size, isz]
  | non => simp -implicitDefEqProofs [F__law_is_size, G__law_is_size, isz]
  | bl b => simp -implicitDefEqProofs [F__law_is_size, G__law_is_size, isz]
  | str y => simp -implicitDefEqProofs [F__law_is_size, G__law_is_size, isz]
  | lst ds => simp -implicitDefEqProofs [F__law_is_size, G__law_is_size, isz]
  | _ => cases h
def Ok (d : D) : Prop := Plain d = true ∧ Fn d = true ∧ wt d ≤ 16777216 ∧ dpt d ≤ 60
theorem sSeq_nx {f g : DS} {ρ ρ' : DL.Env} {S S' : Sto} (h : f ρ S = .ok (.nx ρ') S') : sSeq f g ρ S = g ρ' S' := by rw [sSeq_eq, h]
theorem v_same_b (b : Bool) (S : Sto) : nox (F__law_same 60 [.bl b, .bl b]) S = .ok (.bl true) S := nox_ok (same_refl 60 _ S rfl (by show 0 < 60; decide))
/-! ### bent values -/
theorem dr {ds : List D} (hp : PoolOk ds) (many : Int) (h0 : 0 < many) (h1 : many < 1073741824) : ∃ k ds', PoolOk ds' ∧ 0 ≤ k ∧ k < many ∧ nox (F__law_draw [.ptr 0, .int many]) [.lst ds] = .ok (.int k) [.lst ds'] := by
  obtain ⟨k, ds', h2, h3, h4, h5⟩ := draw_ok (S := [.lst ds]) (p := 0) rfl hp h0 h1
  exact ⟨k, ds', h2, h3, h4, nox_ok h5⟩
theorem atI_6 {α : Type} (xs : List α) : atI xs 6 = xs[6]? := atI_n xs 6
theorem atI_7 {α : Type} (xs : List α) : atI xs 7 = xs[7]? := atI_n xs 7
/-- a small part of a value -/
def Sm (d : D) : Prop := Plain d = true ∧ Fn d = true ∧ wt d ≤ 120 ∧ dpt d ≤ 1 ∧ noPtr 1 d = true
theorem sm_int {i : Int} (h : i.natAbs < 10 ^ 18) : Sm (.int i) := ⟨rfl, decide_eq_true h, by show 100 ≤ 120; decide, by show 0 ≤ 1; decide, rfl⟩
theorem bent_int (n : Nat) (i : Int) (hi : i.natAbs < 1000) {ds : List D} (hp : PoolOk ds) : ∃ d ds', PoolOk ds' ∧ Sm d ∧ F__law_bent (n + 1) [.ptr 0, .int i] [.lst ds] = .ok d [.lst ds'] := by
  obtain ⟨k1, ds1, p1, a1, b1, e1⟩ := dr hp 9 (by decide) (by decide)
  by_cases hk : k1 = 0
  · subst hk
    obtain ⟨k2, ds2, p2, a2, b2, e2⟩ := dr p1 8 (by decide) (by decide)
    have c : k2 = 0 ∨ k2 = 1 ∨ k2 = 2 ∨ k2 = 3 ∨ k2 = 4 ∨ k2 = 5 ∨ k2 = 6 ∨ k2 = 7 := by omega
    have t : ∀ d : D, Sm d → ([.str "x", .bl true, .tup [], .int 0, .int (-1), .non, .bl false, .lst []] : List D)[k2.toNat]? = some d → ∃ d ds', PoolOk ds' ∧ Sm d ∧ F__law_bent (n + 1) [.ptr 0, .int i] [.lst ds] = .ok d [.lst ds'] := fun d hd hg => by
      have e3 : atI ([.str "x", .bl true, .tup [], .int 0, .int (-1), .non, .bl false, .lst []] : List D) k2 = some d := atI_in a2 hg
      refine ⟨d, ds2, p2, hd, ?_⟩
      simp -implicitDefEqProofs [F__law_bent, G__law_bent, e1, e2, e3]
      exact finO_ok' _ _ rfl
    rcases c with rfl | rfl | rfl | rfl | rfl | rfl | rfl | rfl
    · exact t (.str "x") ⟨by decide +kernel, by decide +kernel, by decide, by decide, rfl⟩ rfl
    · exact t (.bl true) ⟨rfl, rfl, by decide, by decide, rfl⟩ rfl
    · exact t (.tup []) ⟨by decide +kernel, rfl, by decide, by decide, rfl⟩ rfl
    · exact t (.int 0) (sm_int (by decide)) rfl
    · exact t (.int (-1)) (sm_int (by decide)) rfl
    · exact t .non ⟨rfl, rfl, by decide, by decide, rfl⟩ rfl
    · exact t (.bl false) ⟨rfl, rfl, by decide, by decide, rfl⟩ rfl
    · exact t (.lst []) ⟨by decide +kernel, rfl, by decide, by decide, rfl⟩ rfl
  · obtain ⟨k2, ds2, p2, a2, b2, e2⟩ := dr p1 4 (by decide) (by decide)
    have c : k2 = 0 ∨ k2 = 1 ∨ k2 = 2 ∨ k2 = 3 := by omega
    have e4 := nox_ok (v_is_integer (.int i) [.lst ds1] rfl)
    have t : ∀ j : Int, j.natAbs ≤ 2 → ([.int 1, .int (-1), .int 2, .int 0] : List D)[k2.toNat]? = some (.int j) → ∃ d ds', PoolOk ds' ∧ Sm d ∧ F__law_bent (n + 1) [.ptr 0, .int i] [.lst ds] = .ok d [.lst ds'] := fun j hj hg => by
      have e3 : atI ([.int 1, .int (-1), .int 2, .int 0] : List D) k2 = some (.int j) := atI_in a2 hg
      refine ⟨.int (i + j), ds2, p2, sm_int (by omega), ?_⟩
      simp -implicitDefEqProofs [F__law_bent, G__law_bent, e1, e2, e3, hk, e4, isint]
      exact finO_ok' _ _ rfl
    rcases c with rfl | rfl | rfl | rfl
    · exact t 1 (by decide) rfl
    · exact t (-1) (by decide) rfl
    · exact t 2 (by decide) rfl
    · exact t 0 (by decide) rfl
theorem sm_list : ∀ ds : List D, (∀ d ∈ ds, Sm d) → Plains ds = true ∧ Fns ds = true ∧ wts ds ≤ 122 * ds.length ∧ dpts ds ≤ 1 ∧ noPtrs 1 ds = true
  | [], _ => ⟨rfl, rfl, Nat.le_refl _, Nat.zero_le _, rfl⟩
  | d :: ds, h => by
    obtain ⟨a1, a2, a3, a4, a5⟩ := h d List.mem_cons_self
    obtain ⟨b1, b2, b3, b4, b5⟩ := sm_list ds fun x hx => h x (List.mem_cons_of_mem _ hx)
    refine ⟨by simp [Plains, a1, b1], by simp [Fns, a2, b2], ?_, ?_, by simp [noPtrs, a5, b5]⟩
    · show wt d + 2 + wts ds ≤ 122 * (ds.length + 1)
      omega
    · show max (dpt d) (dpts ds) ≤ 1
      omega
/-- a value that is tried, with nothing of the store's in it -/
def Tr1 (d : D) : Prop := Ok d ∧ noPtr 1 d = true
theorem tr_sm {d : D} (h : Sm d) : Tr1 d := ⟨⟨h.1, h.2.1, by have := h.2.2.1; omega, by have := h.2.2.2.1; omega⟩, h.2.2.2.2⟩
theorem tr_tup {ds : List D} (h : ∀ d ∈ ds, Sm d) (hl : ds.length ≤ 10) : Tr1 (.tup ds) := by
  obtain ⟨b1, b2, b3, b4, b5⟩ := sm_list ds h
  refine ⟨⟨?_, b2, ?_, ?_⟩, b5⟩
  · simp only [Plain, b1, Bool.true_and, decide_eq_true_eq]; omega
  · show wts ds + 4 ≤ 16777216; omega
  · show dpts ds + 1 ≤ 60; omega
theorem tr_lst {ds : List D} (h : ∀ d ∈ ds, Sm d) (hl : ds.length ≤ 10) : Tr1 (.lst ds) := by
  obtain ⟨b1, b2, b3, b4, b5⟩ := sm_list ds h
  refine ⟨⟨?_, b2, ?_, ?_⟩, b5⟩
  · simp only [Plain, b1, Bool.true_and, decide_eq_true_eq]; omega
  · show wts ds + 4 ≤ 16777216; omega
  · show dpts ds + 1 ≤ 60; omega
theorem sl0 (S : Sto) (x y : D) : gSl S none (some 0) (.tup [x, y]) = some (.tup []) := rfl
theorem sl1 (S : Sto) (x y : D) : gSl S none (some 1) (.tup [x, y]) = some (.tup [x]) := rfl
theorem sr0 (S : Sto) (x y : D) : gSl S (some 0) none (.tup [x, y]) = some (.tup [x, y]) := rfl
theorem sr1 (S : Sto) (x y : D) : gSl S (some 1) none (.tup [x, y]) = some (.tup [y]) := rfl
theorem sr2 (S : Sto) (x y : D) : gSl S (some 2) none (.tup [x, y]) = some (.tup []) := rfl
theorem nop_ints (k : Nat) : ∀ ns : List Int, noPtrs k (ns.map D.int) = true
  | [] => rfl
  | n :: ns => by
    show (noPtr k (.int n) && noPtrs k (ns.map D.int)) = true
    rw [nop_ints k ns]
    rfl
theorem pool_nop {ds : List D} (hp : PoolOk ds) : noPtrC 1 (.lst ds) = true := by
  obtain ⟨scr, cur, val, cnt, salt, rfl, _, _⟩ := hp
  show (noPtrs 1 (scr.map D.int) && true) = true
  rw [nop_ints]
  rfl
theorem fin2 {ds : List D} {c : Cell} {d : D} (hp : PoolOk ds) (h : noPtr 1 d = true) : finO 1 (.ok d [.lst ds, c]) = .ok d [.lst ds] := by
  have e1 : ¬ ([.lst ds, c] : Sto).length = 1 := by simp
  have e2 : (([.lst ds, c] : Sto).take 1).all (noPtrC 1) = true := by simp [pool_nop hp]
  have e3 : fz [.lst ds, c] 1 d = some d := if_pos h
  simp only [finO]
  rw [if_neg e1, if_pos e2]
  simp only [e3]
  rfl
theorem st0 (c : Cell) (x y d : D) : setAt [c, .lst [x, y]] (.ptr 1) (.int 0) d = some [c, .lst [d, y]] := rfl
theorem st1 (c : Cell) (x y d : D) : setAt [c, .lst [x, y]] (.ptr 1) (.int 1) d = some [c, .lst [x, d]] := rfl
theorem ct1 (c : Cell) (xs : List D) : cTuple [c, .lst xs] [.ptr 1] = some (.tup xs) := rfl
theorem bent_pair (n : Nat) (a b : Int) (ha : a.natAbs < 1000) (hb : b.natAbs < 1000) {ds : List D} (hp : PoolOk ds) :
    ∃ d ds', PoolOk ds' ∧ Tr1 d ∧ F__law_bent (n + 2) [.ptr 0, .tup [.int a, .int b]] [.lst ds] = .ok d [.lst ds'] := by
  have sa : Sm (.int a) := sm_int (by omega)
  have sb : Sm (.int b) := sm_int (by omega)
  obtain ⟨k0, ds0, p0, a0, b0, e0⟩ := dr hp 3 (by decide) (by decide)
  by_cases h0 : 0 < k0
  · obtain ⟨k1, ds1, p1, a1, b1, e1⟩ := dr p0 2 (by decide) (by decide)
    have c : k1 = 0 ∨ k1 = 1 := by omega
    rcases c with rfl | rfl
    · obtain ⟨d, ds2, p2, sd, e2⟩ := bent_int n a ha p1
      have e3 := nox_ok e2
      refine ⟨.tup [d, .int b], ds2, p2, tr_tup (by simp [sd, sb]) (by simp), ?_⟩
      rw [F__law_bent]
      simp -implicitDefEqProofs [G__law_bent, e0, h0, e1, e3, sl0, sr1]
      exact finO_ok' _ _ rfl
    · obtain ⟨d, ds2, p2, sd, e2⟩ := bent_int n b hb p1
      have e3 := nox_ok e2
      refine ⟨.tup [.int a, d], ds2, p2, tr_tup (by simp [sd, sa]) (by simp), ?_⟩
      rw [F__law_bent]
      simp -implicitDefEqProofs [G__law_bent, e0, h0, e1, e3, sl1, sr2]
      exact finO_ok' _ _ rfl
  · obtain ⟨k2, ds2, p2, a2, b2, e2⟩ := dr p0 9 (by decide) (by decide)
    have ei := nox_ok (v_is_integer (.tup [.int a, .int b]) [.lst ds2] rfl)
    by_cases hk : k2 = 0
    · subst hk
      obtain ⟨k3, ds3, p3, a3, b3, e3⟩ := dr p2 8 (by decide) (by decide)
      have c : k3 = 0 ∨ k3 = 1 ∨ k3 = 2 ∨ k3 = 3 ∨ k3 = 4 ∨ k3 = 5 ∨ k3 = 6 ∨ k3 = 7 := by omega
      have t : ∀ d : D, Sm d → ([.str "x", .bl true, .tup [], .int 0, .int (-1), .non, .bl false, .lst []] : List D)[k3.toNat]? = some d → ∃ d ds', PoolOk ds' ∧ Tr1 d ∧ F__law_bent (n + 2) [.ptr 0, .tup [.int a, .int b]] [.lst ds] = .ok d [.lst ds'] := fun d hd hg => by
        have e4 : atI ([.str "x", .bl true, .tup [], .int 0, .int (-1), .non, .bl false, .lst []] : List D) k3 = some d := atI_in a3 hg
        refine ⟨d, ds3, p3, tr_sm hd, ?_⟩
        rw [F__law_bent]
        simp -implicitDefEqProofs [G__law_bent, e0, h0, e2, e3, e4]
        exact finO_ok' _ _ rfl
      rcases c with rfl | rfl | rfl | rfl | rfl | rfl | rfl | rfl
      · exact t (.str "x") ⟨by decide +kernel, by decide +kernel, by decide, by decide, rfl⟩ rfl
      · exact t (.bl true) ⟨rfl, rfl, by decide, by decide, rfl⟩ rfl
      · exact t (.tup []) ⟨by decide +kernel, rfl, by decide, by decide, rfl⟩ rfl
      · exact t (.int 0) (sm_int (by decide)) rfl
      · exact t (.int (-1)) (sm_int (by decide)) rfl
      · exact t .non ⟨rfl, rfl, by decide, by decide, rfl⟩ rfl
      · exact t (.bl false) ⟨rfl, rfl, by decide, by decide, rfl⟩ rfl
      · exact t (.lst []) ⟨by decide +kernel, rfl, by decide, by decide, rfl⟩ rfl
    · obtain ⟨k3, ds3, p3, a3, b3, e3⟩ := dr p2 2 (by decide) (by decide)
      have c : k3 = 0 ∨ k3 = 1 := by omega
      by_cases g3 : k2 < 3
      · rcases c with rfl | rfl
        · refine ⟨.tup [.int b], ds3, p3, tr_tup (by simp [sb]) (by simp), ?_⟩
          rw [F__law_bent]
          simp -implicitDefEqProofs [G__law_bent, e0, h0, e2, hk, ei, isint, e3, g3, sl0, sr1]
          exact finO_ok' _ _ rfl
        · refine ⟨.tup [.int a], ds3, p3, tr_tup (by simp [sa]) (by simp), ?_⟩
          rw [F__law_bent]
          simp -implicitDefEqProofs [G__law_bent, e0, h0, e2, hk, ei, isint, e3, g3, sl1, sr2]
          exact finO_ok' _ _ rfl
      · by_cases g5 : k2 < 5
        · rcases c with rfl | rfl
          · refine ⟨.tup [.int a, .int a, .int b], ds3, p3, tr_tup (by simp [sa, sb]) (by simp), ?_⟩
            rw [F__law_bent]
            simp -implicitDefEqProofs [G__law_bent, e0, h0, e2, hk, ei, isint, e3, g3, g5, sl0, sr0]
            exact finO_ok' _ _ rfl
          · refine ⟨.tup [.int a, .int b, .int b], ds3, p3, tr_tup (by simp [sa, sb]) (by simp), ?_⟩
            rw [F__law_bent]
            simp -implicitDefEqProofs [G__law_bent, e0, h0, e2, hk, ei, isint, e3, g3, g5, sl1, sr1]
            exact finO_ok' _ _ rfl
        · by_cases g6 : k2 = 5
          · refine ⟨.lst [.int a, .int b], ds3, p3, tr_lst (by simp [sa, sb]) (by simp), ?_⟩
            rw [F__law_bent]
            simp -implicitDefEqProofs [G__law_bent, e0, h0, e2, hk, ei, isint, e3, g3, g5, g6]
            exact finO_ok' _ _ rfl
          · obtain ⟨k4, ds4, p4, a4, b4, e4⟩ := dr p3 2 (by decide) (by decide)
            have c4 : k4 = 0 ∨ k4 = 1 := by omega
            rcases c with rfl | rfl <;> rcases c4 with rfl | rfl
            · refine ⟨.tup [.int a, .int b], ds4, p4, tr_tup (by simp [sa, sb]) (by simp), ?_⟩
              rw [F__law_bent]
              simp -implicitDefEqProofs [G__law_bent, e0, h0, e2, hk, ei, isint, e3, g3, g5, g6, e4, mlistP, st0, st1, ct1]
              exact fin2 p4 rfl
            · refine ⟨.tup [.int b, .int a], ds4, p4, tr_tup (by simp [sa, sb]) (by simp), ?_⟩
              rw [F__law_bent]
              simp -implicitDefEqProofs [G__law_bent, e0, h0, e2, hk, ei, isint, e3, g3, g5, g6, e4, mlistP, st0, st1, ct1]
              exact fin2 p4 rfl
            · refine ⟨.tup [.int b, .int a], ds4, p4, tr_tup (by simp [sa, sb]) (by simp), ?_⟩
              rw [F__law_bent]
              simp -implicitDefEqProofs [G__law_bent, e0, h0, e2, hk, ei, isint, e3, g3, g5, g6, e4, mlistP, st0, st1, ct1]
              exact fin2 p4 rfl
            · refine ⟨.tup [.int a, .int b], ds4, p4, tr_tup (by simp [sa, sb]) (by simp), ?_⟩
              rw [F__law_bent]
              simp -implicitDefEqProofs [G__law_bent, e0, h0, e2, hk, ei, isint, e3, g3, g5, g6, e4, mlistP, st0, st1, ct1]
              exact fin2 p4 rfl
/-! ### booled -/
def boo (i : Int) : D := if i = 0 then .bl false else if i = 1 then .bl true else .int i
theorem v_booled_int (n : Nat) (i : Int) (h0 : 0 ≤ i) (S : Sto) : F__law_booled (n + 1) [.int i] S = .ok (boo i) S := by
  have e := nox_ok (v_is_integer (.int i) S rfl)
  rw [F__law_booled]
  by_cases h1 : i = 0
  · subst h1; simp -implicitDefEqProofs [G__law_booled, e, isint, boo]
  · by_cases h2 : i = 1
    · subst h2; simp -implicitDefEqProofs [G__law_booled, e, isint, boo]
    · have h3 : ¬ i < 2 := by omega
      simp -implicitDefEqProofs [G__law_booled, e, isint, boo, h0, h1, h2, h3]
theorem v_booled_pair (n : Nat) (a b : Int) (ha : 0 ≤ a) (hb : 0 ≤ b) (S : Sto) : F__law_booled (n + 2) [.tup [.int a, .int b]] S = .ok (.tup [boo a, boo b]) S := by
  rw [F__law_booled]
  have e1 := nox_ok (v_booled_int n a ha S)
  have e2 := nox_ok (v_booled_int n b hb S)
  have c : compL (gtName 1) dYes (dCall 1 (F__law_booled (n + 1)) (aCons (dVar 1) aNil)) [some (.tup [.int a, .int b]), none] [.int a, .int b] S = .ok [boo a, boo b] S := by
    rw [compL_cons (ρ1 := [some (.tup [.int a, .int b]), some (.int a)]) rfl]
    have f1 : nox (dCall 1 (F__law_booled (n + 1)) (aCons (dVar 1) aNil) [some (.tup [.int a, .int b]), some (.int a)]) S = .ok (boo a) S := nox_ok (by simp -implicitDefEqProofs [e1])
    have f2 : nox (dCall 1 (F__law_booled (n + 1)) (aCons (dVar 1) aNil) [some (.tup [.int a, .int b]), some (.int b)]) S = .ok (boo b) S := nox_ok (by simp -implicitDefEqProofs [e2])
    have f3 : compL (gtName 1) dYes (dCall 1 (F__law_booled (n + 1)) (aCons (dVar 1) aNil)) [some (.tup [.int a, .int b]), none] [.int b] S = .ok [boo b] S := by
      rw [compL_cons (ρ1 := [some (.tup [.int a, .int b]), some (.int b)]) rfl]
      simp -implicitDefEqProofs only [dYes, nox_mret, then_ok, if_true, mbind, f2, compL_nil, mret]
    simp -implicitDefEqProofs only [dYes, nox_mret, then_ok, if_true, mbind, f1, f3, mret]
  simp -implicitDefEqProofs [G__law_booled, dwipe, c]
theorem sm_boo {i : Int} (h : i.natAbs < 1000) : Sm (boo i) := by
  unfold boo
  split
  · exact ⟨rfl, rfl, by decide, by decide, rfl⟩
  · split
    · exact ⟨rfl, rfl, by decide, by decide, rfl⟩
    · exact sm_int (by omega)
/-! ### a size -/
abbrev cW : DL.Env → M Bool := dTest (dOp2 gGt (dOp2 gMul (dVar 2) (dVar 3)) (dVar 1))
abbrev bW : DS := (sIf (dTest (dOp2 gGt (dVar 2) (dVar 3))) (sAsg (dOp2 gSub (dVar 2) (dC (.int 1))) (gtName 2)) (sAsg (dOp2 gSub (dVar 3) (dC (.int 1))) (gtName 3)))
theorem while_ok (most : Int) (hm : 1 ≤ most) (x0 : Option D) (S : Sto) : ∀ (n : Nat) (r c : Int), 1 ≤ r → r ≤ 4 → 1 ≤ c → c ≤ 4 → r + c ≤ n → ∃ r' c', 1 ≤ r' ∧ r' ≤ 4 ∧ 1 ≤ c' ∧ c' ≤ 4 ∧
    sWh cW bW (n + 1) [x0, some (.int most), some (.int r), some (.int c)] S = .ok (.nx [x0, some (.int most), some (.int r'), some (.int c')]) S := by
  intro n
  induction n with
  | zero => intro r c h1 h2 h3 h4 h5; exact absurd h5 (by omega)
  | succ n ih =>
    intro r c h1 h2 h3 h4 h5
    have m1 : (-18446744073709551616 : Int) < r ∧ r < 18446744073709551616 := by omega
    by_cases hg : most < r * c
    · have hc : cW [x0, some (.int most), some (.int r), some (.int c)] S = .ok true S := by simp -implicitDefEqProofs [m1, hg]
      by_cases hr : c < r
      · obtain ⟨r', c', q1, q2, q3, q4, e⟩ := ih (r - 1) c (by omega) (by omega) h3 h4 (by omega)
        exact ⟨r', c', q1, q2, q3, q4, (sWh_true (ρ2 := [x0, some (.int most), some (.int (r - 1)), some (.int c)]) hc (by simp -implicitDefEqProofs [hr])).trans e⟩
      · have hc2 : 2 ≤ c := by
          by_cases z : c = 1
          · have : r = 1 := by omega
            subst z this
            omega
          · omega
        obtain ⟨r', c', q1, q2, q3, q4, e⟩ := ih r (c - 1) h1 h2 (by omega) (by omega) (by omega)
        exact ⟨r', c', q1, q2, q3, q4, (sWh_true (ρ2 := [x0, some (.int most), some (.int r), some (.int (c - 1))]) hc (by simp -implicitDefEqProofs [hr])).trans e⟩
    · have hc : cW [x0, some (.int most), some (.int r), some (.int c)] S = .ok false S := by simp -implicitDefEqProofs [m1, hg]
      exact ⟨r, c, h1, h2, h3, h4, sWh_false hc⟩
theorem size_ok (most : Int) (hm : 1 ≤ most) {ds : List D} (hp : PoolOk ds) : ∃ r c ds', PoolOk ds' ∧ 1 ≤ r ∧ r ≤ 4 ∧ 1 ≤ c ∧ c ≤ 4 ∧ F__law_size [.ptr 0, .int most] [.lst ds] = .ok (.tup [.int r, .int c]) [.lst ds'] := by
  obtain ⟨k1, ds1, p1, a1, b1, e1⟩ := dr hp 4 (by decide) (by decide)
  obtain ⟨k2, ds2, p2, a2, b2, e2⟩ := dr p1 4 (by decide) (by decide)
  obtain ⟨r, c, q1, q2, q3, q4, e⟩ := while_ok most hm (some (.ptr 0)) [.lst ds2] 999999 (1 + k1) (1 + k2) (by omega) (by omega) (by omega) (by omega) (by omega)
  obtain ⟨k3, ds3, p3, a3, b3, e3⟩ := dr p2 2 (by decide) (by decide)
  have key : ∀ x y : Int, ([.tup [.int r, .int c], .tup [.int c, .int r]] : List D)[k3.toNat]? = some (.tup [.int x, .int y]) → F__law_size [.ptr 0, .int most] [.lst ds] = .ok (.tup [.int x, .int y]) [.lst ds3] := fun x y hg => by
    have e4 : atI ([.tup [.int r, .int c], .tup [.int c, .int r]] : List D) k3 = some (.tup [.int x, .int y]) := atI_in a3 hg
    have g : G__law_size [some (.ptr 0), some (.int most), none, none] [.lst ds] = .ok (.rt (.tup [.int x, .int y])) [.lst ds3] := by
      unfold G__law_size
      refine (sSeq_nx (ρ' := [some (.ptr 0), some (.int most), some (.int (1 + k1)), none]) (S' := [.lst ds1]) ?_).trans ((sSeq_nx (ρ' := [some (.ptr 0), some (.int most), some (.int (1 + k1)), some (.int (1 + k2))]) (S' := [.lst ds2]) ?_).trans ((sSeq_nx e).trans ?_))
      · simp -implicitDefEqProofs [e1]
      · simp -implicitDefEqProofs [e2]
      · refine sRet_ok ?_
        simp -implicitDefEqProofs [e3, e4]
    show finO 1 (outS (G__law_size [some (.ptr 0), some (.int most), none, none] [.lst ds])) = _
    rw [g]
    exact finO_ok' _ _ rfl
  have c3 : k3 = 0 ∨ k3 = 1 := by omega
  rcases c3 with rfl | rfl
  · exact ⟨r, c, ds3, p3, q1, q2, q3, q4, key r c rfl⟩
  · exact ⟨c, r, ds3, p3, q3, q4, q1, q2, key c r rfl⟩
/-! ### panels -/
def pair (i j : D) : D := .tup [i, j]
def pan (rs cs : List D) : List D := rs.flatMap fun i => cs.map fun j => pair i j
theorem pan_len (rs cs : List D) : (pan rs cs).length = rs.length * cs.length := by
  unfold pan
  induction rs with
  | nil => simp
  | cons r rs ih => rw [List.flatMap_cons, List.length_append, ih, List.length_map, List.length_cons, Nat.succ_mul]; omega
theorem row_ok (x0 x1 x2 : Option D) (i : D) (S : Sto) (cs : List D) : compL (gtName 4) dYes (dTup (aCons (dVar 3) (aCons (dVar 4) aNil))) [x0, x1, x2, some i, none] cs S = .ok (cs.map fun j => pair i j) S := by
  have := compL_pure (g := gtName 4) (t := dYes) (e := dTup (aCons (dVar 3) (aCons (dVar 4) aNil))) (ρ := [x0, x1, x2, some i, none]) (S := S) (fun _ => true) (fun j => pair i j) cs fun j _ => ⟨[x0, x1, x2, some i, some j], rfl, rfl, fun _ => by simp -implicitDefEqProofs [pair]⟩
  rw [this, List.filter_eq_self.mpr fun _ _ => rfl]
theorem rows_ok (x0 x1 : Option D) (c : Int) (h0 : 0 ≤ c) (h1 : c ≤ 1000) (S : Sto) : ∀ rs : List D,
    compL2 (gtName 3) dYes (iArgs rng1 (aCons (dVar 2) aNil)) (gtName 4) dYes (dTup (aCons (dVar 3) (aCons (dVar 4) aNil))) [4] [x0, x1, some (.int c), none, none] rs S = .ok (pan rs (rangeD 0 c.toNat)) S
  | [] => rfl
  | i :: rs => by
    rw [compL2_cons (ρ2 := [x0, x1, some (.int c), some i, none]) rfl]
    have ih := rows_ok x0 x1 c h0 h1 S rs
    have hr := rng1_int c (by omega) (by omega)
    have f1 : nox (iArgs rng1 (aCons (dVar 2) aNil) [x0, x1, some (.int c), some i, none]) S = .ok (rangeD 0 c.toNat) S := nox_ok (by simp -implicitDefEqProofs [hr])
    have f2 := row_ok x0 x1 (some (.int c)) i S (rangeD 0 c.toNat)
    have f3 : dwipe [x0, x1, some (.int c), some i, none] [4] = [x0, x1, some (.int c), some i, none] := rfl
    simp -implicitDefEqProofs only [dYes, nox_mret, then_ok, if_true, mbind, f1, f3, f2, ih, mret]
    rfl
theorem v_panels (r c : Int) (h0 : 0 ≤ r) (h1 : r ≤ 100) (h2 : 0 ≤ c) (h3 : c ≤ 100) (S : Sto) : F_panels [.tup [.int r, .int c]] S = .ok (.lst (pan (rangeD 0 r.toNat) (rangeD 0 c.toNat))) S := by
  have hr := rng1_int r (by omega) (by omega)
  have e := rows_ok (some (.tup [.int r, .int c])) (some (.int r)) c h2 (by omega) S (rangeD 0 r.toNat)
  have hl : (pan (rangeD 0 r.toNat) (rangeD 0 c.toNat)).length ≤ 16777216 := by
    rw [pan_len, rangeD_len, rangeD_len]
    exact Nat.le_trans (Nat.mul_le_mul (show r.toNat ≤ 100 by omega) (show c.toNat ≤ 100 by omega)) (by decide)
  simp -implicitDefEqProofs [F_panels, G_panels, hr, dwipe]
  simp -implicitDefEqProofs [e, finL, hl]
theorem plain_pan (rs cs : List Int) : Plains (pan (rs.map D.int) (cs.map D.int)) = true := by
  have all : ∀ ds : List D, (∀ d ∈ ds, Plain d = true) → Plains ds = true := by
    intro ds
    induction ds with
    | nil => intro _; rfl
    | cons d ds ih => intro h; simp only [Plains, h d List.mem_cons_self, ih fun x hx => h x (List.mem_cons_of_mem _ hx), Bool.and_self]
  refine all _ fun d hd => ?_
  simp only [pan, List.mem_flatMap, List.mem_map] at hd
  obtain ⟨i, ⟨x, _, rfl⟩, j, ⟨y, _, rfl⟩, rfl⟩ := hd
  rfl
theorem deps_pan (rs cs : List Int) : deps (pan (rs.map D.int) (cs.map D.int)) ≤ 1 := by
  have all : ∀ ds : List D, (∀ d ∈ ds, dep d ≤ 1) → deps ds ≤ 1 := by
    intro ds
    induction ds with
    | nil => intro _; exact Nat.zero_le _
    | cons d ds ih =>
      intro h
      have h1 := h d List.mem_cons_self
      have h2 := ih fun x hx => h x (List.mem_cons_of_mem _ hx)
      show max (dep d) (deps ds) ≤ 1
      omega
  refine all _ fun d hd => ?_
  simp only [pan, List.mem_flatMap, List.mem_map] at hd
  obtain ⟨i, ⟨x, _, rfl⟩, j, ⟨y, _, rfl⟩, rfl⟩ := hd
  show 0 + 1 ≤ 1
  decide
theorem range_ints (n : Nat) : rangeD 0 n = ((List.range n).map fun i : Nat => (i : Int)).map D.int := by
  rw [rangeD0, List.map_map]
  rfl
/-! ### ways -/
def zo (a : Bool) : D := .int (if a then 1 else 0)
def wayD (w : Bool × Bool) : D := .tup [zo w.1, zo w.2]
def mot (m : Bool × Bool) : Str := match m with
  | (false, false) => "stay"
  | (true, false) => "turn"
  | (false, true) => "tumble"
  | (true, true) => "spin"
def xo (w m : Bool × Bool) : Bool × Bool := (w.1 ^^ m.1, w.2 ^^ m.2)
theorem v_side_up (a b : Bool) (S : Sto) : F_side_up [.tup [zo a, zo b]] S = .ok (.str (if a = b then "front" else "back")) S := by
  cases a <;> cases b <;> simp -implicitDefEqProofs [F_side_up, G_side_up, zo]
theorem v_after_turn (w m : Bool × Bool) (S : Sto) : F_after_turn [wayD w, .str (mot m)] S = .ok (wayD (xo w m)) S := by
  obtain ⟨a, b⟩ := w
  obtain ⟨c, d⟩ := m
  have e : c_MOTIONS.lookup (mot (c, d)) = some (.ctup [zo c, zo d]) := by cases c <;> cases d <;> rfl
  have x : ∀ a c : Bool, Builtin.bitXor (if a = true then 1 else 0) (if c = true then 1 else 0) = if (a ^^ c) = true then 1 else 0 := by decide
  simp -implicitDefEqProofs [F_after_turn, G_after_turn, wayD, e, zo, x, xo]
theorem v_motions (S : Sto) : F__law_motions [] S = .ok (.tup [.str "stay", .str "turn", .str "tumble", .str "spin"]) S := by
  simp -implicitDefEqProofs [F__law_motions, G__law_motions]
theorem v_way_after (w m : Bool × Bool) (S : Sto) : F__law_way_after [wayD w, .str (mot m)] S = .ok (wayD (xo w m)) S := by
  obtain ⟨a, b⟩ := w
  obtain ⟨c, d⟩ := m
  have h1 : gIn S (.str (mot (c, d))) (.tup [.str "turn", .str "spin"]) = some (.bl c) := by cases c <;> cases d <;> rfl
  have h2 : gIn S (.str (mot (c, d))) (.tup [.str "tumble", .str "spin"]) = some (.bl d) := by cases c <;> cases d <;> rfl
  have x : ∀ a c : Bool, ((if a = true then 1 else 0) + (if c = true then 1 else 0) : Int) % 2 = if (a ^^ c) = true then 1 else 0 := by decide
  cases c <;> cases d <;> (have h1 := h1; have h2 := h2; have x1 := x a true; have x0 := x a false; have y1 := x b true; have y0 := x b false; simp -implicitDefEqProofs at x1 x0 y1 y0; simp -implicitDefEqProofs [F__law_way_after, G__law_way_after, wayD, zo, xo, h1, h2, x1, x0, y1, y0])
theorem v_same (d : D) (S : Sto) (hp : Plain d = true) (hd : dep d < 60) : nox (F__law_same 60 [d, d]) S = .ok (.bl true) S := nox_ok (same_refl 60 d S hp hd)
theorem plain_way (w : Bool × Bool) : Plain (wayD w) = true := by obtain ⟨a, b⟩ := w; cases a <;> cases b <;> decide +kernel
theorem xo_xo (w m : Bool × Bool) : xo (xo w m) m = w := by obtain ⟨a, b⟩ := w; obtain ⟨c, d⟩ := m; cases a <;> cases b <;> cases c <;> cases d <;> rfl
def mots : List (Bool × Bool) := [(false, false), (true, false), (false, true), (true, true)]
def motD (m : Bool × Bool) : D := .str (mot m)
def tot : List (Bool × Bool) → Bool × Bool
  | [] => (false, false)
  | m :: ms => xo m (tot ms)
theorem xo_0 (w : Bool × Bool) : xo w (false, false) = w := by obtain ⟨a, b⟩ := w; cases a <;> cases b <;> rfl
theorem xo_a (u v w : Bool × Bool) : xo (xo u v) w = xo u (xo v w) := by
  obtain ⟨a, b⟩ := u; obtain ⟨c, d⟩ := v; obtain ⟨e, f⟩ := w
  simp [xo]
theorem xo_c (u v : Bool × Bool) : xo u v = xo v u := by
  obtain ⟨a, b⟩ := u; obtain ⟨c, d⟩ := v
  simp [xo, Bool.xor_comm]
theorem tot_app : ∀ xs ys : List (Bool × Bool), tot (xs ++ ys) = xo (tot xs) (tot ys)
  | [], ys => by rw [List.nil_append, tot, xo_c, xo_0]
  | x :: xs, ys => by rw [List.cons_append, tot, tot_app xs ys, tot, xo_a]
theorem tot_rev : ∀ xs : List (Bool × Bool), tot xs.reverse = tot xs
  | [] => rfl
  | x :: xs => by rw [List.reverse_cons, tot_app, tot_rev xs, tot, tot, tot, xo_0, xo_c]
theorem tot_take {xs : List (Bool × Bool)} {i : Nat} {m : Bool × Bool} (h : xs[i]? = some m) : tot (xs.take (i + 1)) = xo (tot (xs.take i)) m := by
  rw [List.take_add_one, h, tot_app]
  show xo _ (xo m (false, false)) = _
  rw [xo_0]
theorem rangeD_cons (lo : Int) (n : Nat) : rangeD lo (n + 1) = .int lo :: rangeD (lo + 1) n := by
  unfold rangeD
  rw [List.range_succ_eq_map, List.map_cons, List.map_map]
  congr 1
  · simp
  · refine List.map_congr_left fun i _ => ?_
    simp only [Function.comp_apply, Nat.succ_eq_add_one]
    congr 1
    omega
end DL.Pre
set_option Elab.async false
set_option linter.all false
set_option maxRecDepth 100000
/-! generator expressions: the code object, its table -/
namespace DL
open PySem PySem.Spec PyProof.Rows L2

theorem codeAmong_app {pos : Pos} {a b : Int} {v cv : Value} : ∀ (l : List Value), TriplesOk l → codeAmong pos (l ++ [rawInt a, rawInt b, v]) = some cv → codeAmong pos l = some cv ∨ cv = v := by
  intro l
  fun_induction TriplesOk l with
  | case1 =>
    intro _ h
    simp only [List.nil_append, codeAmong, rawInt] at h
    split at h
    · cases h; exact .inr rfl
    · simp [codeAmong] at h
  | case2 a t b u x rest ih =>
    intro h1 h
    simp only [List.cons_append, codeAmong] at h ⊢
    split at h
    · rename_i q; rw [if_pos q]; exact .inl h
    · rename_i q; rw [if_neg q]; exact ih h1 h
  | case3 l h1 h2 => intro h; exact h.elim
/-- the heap behind the making of a code object at c, its table at P'; it stands in the table at P -/
def madeH (H : Hp) (P : Addr) (ps' : Array Value) (P' c : Addr) (oc : Obj) : Hp := upd (upd (upd H P (.tbl ps')) P' (.tbl #[])) c (.frz oc (.own c))
structure MadeC (H : Hp) (P : Addr) (ps : Array Value) (P' c : Addr) : Prop where
  tab : H P = some (.tbl ps)
  nP : H P' = none
  nc : H c = none
  ne : c ≠ P'
section
variable {H : Hp} {P P' c : Addr} {ps ps' : Array Value} {oc : Obj}
theorem MadeC.at (x : MadeC H P ps P' c) {b : Addr} (h1 : b ≠ P) (h2 : b ≠ P') (h3 : b ≠ c) : madeH H P ps' P' c oc b = H b := by
  unfold madeH; rw [upd_ne h3, upd_ne h2, upd_ne h1]
theorem MadeC.held (x : MadeC H P ps P' c) {b : Addr} {o : HO} (e : H b = some o) (h : ∀ ps, o ≠ .tbl ps) : madeH H P ps' P' c oc b = some o := by
  rw [x.at (fun z => ?_) (ne_of_none e x.nP) (ne_of_none e x.nc)]
  · exact e
  · rw [z, x.tab] at e; cases e; exact h _ rfl
theorem MadeC.atP (x : MadeC H P ps P' c) : madeH H P ps' P' c oc P = some (.tbl ps') := by
  unfold madeH; rw [upd_ne (ne_of_none x.tab x.nc), upd_ne (ne_of_none x.tab x.nP), upd_same]
theorem MadeC.atP' (x : MadeC H P ps P' c) : madeH H P ps' P' c oc P' = some (.tbl #[]) := by
  unfold madeH; rw [upd_ne (Ne.symm x.ne), upd_same]
theorem MadeC.atc (x : MadeC H P ps P' c) : madeH H P ps' P' c oc c = some (.frz oc (.own c)) := upd_same
theorem MadeC.tr (x : MadeC H P ps P' c) {m : List Addr} : Tr m H m (madeH H P ps' P' c oc) where
  ext := ⟨[], by simp⟩
  fresh := fun _ h h' => absurd h h'
  kept := fun a o e _ h => x.held e h
  there := fun a o e _ => by
    by_cases z : a = P
    · exact ⟨_, by rw [z]; exact x.atP⟩
    · exact ⟨o, by rw [x.at z (ne_of_none e x.nP) (ne_of_none e x.nc)]; exact e⟩
  tups := fun a xs h => by
    rcases h with h | ⟨o, h⟩
    · exact .inl (x.held h fun _ z => nomatch z)
    · exact .inr ⟨o, x.held h fun _ z => nomatch z⟩
  frzs := fun a o u h => x.held h fun _ z => nomatch z
  tupH := fun a xs h => x.held h fun _ z => nomatch z
theorem MadeC.tabs (x : MadeC H P ps P' c) {K : PySem.W.Frag} {pos : Pos} (ht : TabsOk K H) (hT : TriplesOk ps.toList) (ho : CodeOb oc P') : TabsOk K (madeH H P (ps ++ #[rawInt pos.line, rawInt pos.col, .ref c]) P' c oc) := by
  have made : ∀ {c1 P1}, MadeAt H c1 P1 → MadeAt (madeH H P (ps ++ #[rawInt pos.line, rawInt pos.col, .ref c]) P' c oc) c1 P1 := fun ⟨o1, e1, r⟩ => ⟨o1, x.held e1 (fun _ z => nomatch z), r⟩
  have lift : ∀ {Q}, TabG H Q → TabG (madeH H P (ps ++ #[rawInt pos.line, rawInt pos.col, .ref c]) P' c oc) Q := fun {Q} ⟨qs, e1, e2, e3⟩ => by
    by_cases z : Q = P
    · subst z
      rw [x.tab] at e1
      cases e1
      refine ⟨_, x.atP, ?_, fun pos' cv e => ?_⟩
      · simp only [Array.toList_append]
        exact TriplesOk_snoc _ _ _ _ hT
      · simp only [Array.toList_append] at e
        rcases codeAmong_app _ hT e with e | e
        · obtain ⟨c1, P1, r1, r2⟩ := e3 pos' cv e
          exact ⟨c1, P1, r1, made r2⟩
        · exact ⟨c, P', e, oc, x.atc, ho, x.ne⟩
    · refine ⟨qs, ?_, e2, fun pos' cv e => ?_⟩
      · rw [x.at z (ne_of_none e1 x.nP) (ne_of_none e1 x.nc)]; exact e1
      · obtain ⟨c1, P1, r1, r2⟩ := e3 pos' cv e
        exact ⟨c1, P1, r1, made r2⟩
  intro c0 P0 h
  rcases h with h | ⟨o0, h1, h2, h3⟩
  · exact lift (ht c0 P0 (.inl h))
  · by_cases z : c0 = c
    · subst z
      rw [x.atc] at h1
      have eo : oc = o0 := by
        have := Option.some.inj h1
        injection this
      subst eo
      have eP : P0 = P' := by
        obtain ⟨vs, _, _, _, _, _, _, _, _, q1, q2, _⟩ := h2
        obtain ⟨vs', _, _, _, _, _, _, _, _, q1', q2', _⟩ := ho
        rw [q1] at q1'
        cases q1'
        rw [q2] at q2'
        cases q2'
        rfl
      subst eP
      exact ⟨#[], x.atP', trivial, fun pos' cv e => by simp [codeAmong] at e⟩
    · have z1 : c0 ≠ P := fun q => by rw [q, x.atP] at h1; cases h1
      have z2 : c0 ≠ P' := fun q => by rw [q, x.atP'] at h1; cases h1
      rw [x.at z1 z2 z] at h1
      exact lift (ht c0 P0 (.inr ⟨o0, h1, h2, h3⟩))
theorem StoR.made (x : MadeC H P ps P' c) {K : PySem.W.Frag} {b m : List Addr} {S : Sto} {pos : Pos} (h : StoR K b m H S) (hT : TriplesOk ps.toList) (ho : CodeOb oc P') : StoR K b m (madeH H P (ps ++ #[rawInt pos.line, rawInt pos.col, .ref c]) P' c oc) S := by
  refine ⟨h.len, h.nd, fun n a cl e1 e2 => ?_, fun a ha => ?_, x.tabs h.tabs hT ho⟩
  · have := h.cell n a cl e1 e2
    cases cl with
    | lst ds =>
      obtain ⟨xs, h1, h2⟩ := this
      exact ⟨xs, x.held h1 (fun _ z => nomatch z), h2.tr x.tr⟩
    | dct l u ds =>
      obtain ⟨xs, h1, hl, h2⟩ := this
      exact ⟨xs, h1.imp fun o z nt => x.held z nt, hl, h2.tr x.tr⟩
  · obtain ⟨h1, o, h2⟩ := h.ban a ha
    obtain ⟨o', h3⟩ := (x.tr (m := m) (ps' := ps ++ #[rawInt pos.line, rawInt pos.col, .ref c]) (oc := oc)).there a o h2 h1
    exact ⟨h1, o', h3⟩
end
/-- the object behind it -/
theorem inv_made {X : Cx} {pins : List (Addr × Obj)} {σ : L2.St} {H : Hp} {s : Shared} {P P' c : Addr} {oc : Obj} {ps more : Array Value} {h' : Heap} {t' : Nat} (I : Inv X pins σ H s) (x : MadeC H P ps P' c) (k : ∀ b o, b ≠ P → s.heap.get? b = some o → h'.get? b = some o)
    (hm : h'.get? P = some { cls := .none, data := .fields (ps ++ more) }) (hc : s.heap.objs.size ≤ c) (hP' : s.heap.objs.size ≤ P') (ho : h'.get? c = some oc) (ht : h'.get? P' = some { cls := .none, data := .fields #[] }) :
    Inv X pins σ (madeH H P (ps ++ more) P' c oc) { s with heap := h', toks := t' } := by
  have nP : ∀ b u, H b = some u → (∀ q, u ≠ .tbl q) → b ≠ P := fun b u e q z => by
    rw [z, x.tab] at e
    exact q ps (Option.some.inj e).symm
  have nN : ∀ b, H b = none → b ≠ P := fun b e z => by
    rw [z, x.tab] at e
    cases e
  have ltc : ∀ b o, s.heap.get? b = some o → b ≠ c := fun b o e z => by
    rw [z] at e
    exact Nat.lt_irrefl _ (Nat.lt_of_lt_of_le (Heap.lt_size e) hc)
  have ltP : ∀ b o, s.heap.get? b = some o → b ≠ P' := fun b o e z => by
    rw [z] at e
    exact Nat.lt_irrefl _ (Nat.lt_of_lt_of_le (Heap.lt_size e) hP')
  refine I.step (g' := s.gens) (d' := s.drawn) (ch := []) (fun b hb => absurd hb (by simp)) (fun b o _ _ _ e n => k b o (nN b n) e) (fun b o _ _ _ e n => ⟨o.slots, k b o (nN b n) e⟩)
    (fun b o _ e n => by rw [x.at (nN b n) (ltP b o e) (ltc b o e)]; exact n) (fun b o _ e => ?_) (fun b xs e => x.held e fun _ z => nomatch z) (fun b o u e => x.held e fun _ z => nomatch z) (fun b qs e => ?_) (fun m hn => ?_) (fun b u e => ?_) I.bare
  · by_cases hb : b = P
    · rw [hb]
      exact ⟨_, hm⟩
    · exact ⟨o, k b o hb e⟩
  · by_cases hb : b = P
    · rw [hb, x.tab] at e
      cases e
      rw [hb, x.atP]
      exact ⟨more, rfl⟩
    · rw [x.at hb (ne_of_none e x.nP) (ne_of_none e x.nc), e]
      exact ⟨#[], by simp⟩
  · obtain ⟨ob, es, ep, ho, r⟩ := hn
    exact ⟨ob, es, ep, k _ ob (nN _ I.free) ho, r⟩
  · by_cases hb : b = c
    · rw [hb, x.atc] at e
      cases e
      rw [hb]
      exact ⟨ho, oc, ho⟩
    · by_cases hb2 : b = P
      · rw [hb2, x.atP] at e
        cases e
        rw [hb2]
        exact hm
      · by_cases hb3 : b = P'
        · rw [hb3, x.atP'] at e
          cases e
          rw [hb3]
          exact ht
        · rw [x.at hb2 hb3 hb] at e
          refine (I.hok b u e).stay (fun d v hd q => k d v ?_ q) (fun d q => x.held q fun _ z => nomatch z) fun d xs q => x.held q fun _ z => nomatch z
          rcases hd with z | z
          · rw [z]; exact hb2
          · exact nP d _ z (fun _ z => nomatch z)
/-- where the module's builtins stand -/
structure Bmain (base : Heap) (mg : Str → Option Value) : Prop where
  bm : ∃ bm ob, mg "__builtins__" = some (.ref bm) ∧ bm ≠ builtinsNs ∧ base.get? bm = some ob ∧ ob.cls = .type "module" ∧ ob.dict = some builtinsNs ∧ ob.data = .plain
/-- the running code's object is known -/
def CodeX (X : Cx) : Prop := ∃ c P, X.env.code = .ref c ∧ (((c, P) ∈ rootsOf X.K ∧ PySem.W.codeHdIn X.K c P = true) ∨ MadeAt X.H_0 c P)
theorem CodeX.at {X : Cx} (x : CodeX X) {pins : List (Addr × Obj)} {σ : L2.St} {H : Hp} {s : Shared} (I : Inv X pins σ H s) : ∃ c P, X.env.code = .ref c ∧ CodeAt X.K H c P ∧ PySem.W.CodeHd s.heap c P := by
  obtain ⟨c, P, h1, h2⟩ := x
  rcases h2 with h2 | ⟨oc, h2, h3, h4⟩
  · exact ⟨c, P, h1, .inl h2, PySem.W.codeHd_of_K I.kIn h2.2⟩
  · have h5 := I.base.frzs _ _ _ h2
    exact ⟨c, P, h1, .inr ⟨oc, h5, h3, h4⟩, h3.hd (I.hok _ _ h5).1 h4⟩
/-- the code object of a generator expression: it stands there, or it is made -/
theorem gcode {X : Cx} {pins : List (Addr × Obj)} {σ : L2.St} {H : Hp} {s : Shared} {pos : Pos} {q : Str} {scope : Scope} {Q : Value → Shared → Prop} {E : Value → Shared → Prop} (B : Bmain X.base X.mg) (cx : CodeX X) (ht : TabsOk X.K H) (I : Inv X pins σ H s)
    (h : ∀ (c : Addr) (H' : Hp) (s' : Shared) (P' : Addr), Inv X pins σ H' s' → MadeAt H' c P' → (∀ b o, s.heap.get? b = some o → H b = none → s'.heap.get? b = some o ∧ H' b = none) → s'.gens = s.gens → s'.os = s.os → (∀ m, Tr m H m H') → (∀ (b m : List Addr) (S : Sto), StoR X.K b m H S → StoR X.K b m H' S) →
      Q (.ref c) s') :
    wpAny (model X.prog X.w) X.A (genexprCode X.env pos q scope) Q E s := by
  obtain ⟨c, P, hc, ca, cd⟩ := cx.at I
  obtain ⟨ps, eP, hT, hin⟩ := ht c P ca
  have hP : s.heap.get? P = some { cls := .none, data := .fields ps } := I.hok P _ eP
  cases hf : codeAmong pos ps.toList with
  | some cv =>
    obtain ⟨c', P', rfl, hm⟩ := hin pos cv hf
    exact wpAny_genexprCode_hit hc (cd.code hP hT) hf (h c' H s P' I hm (fun b o e n => ⟨e, n⟩) rfl rfl (fun m => Tr.refl) fun b m S z => z)
  | none =>
    refine wpAny_genexprCodeX hc (cd.code hP hT) (cd.tab hP) hf fun c' h' tk hx hge hlt _ _ htab hnew => ?_
    obtain ⟨P', hP', hco, htb⟩ := hnew
    obtain ⟨oc, e1, e2, e3⟩ := CodeOb.of (PySem.W.CodeHd.of hco htb)
    have x : MadeC H P ps P' c' := ⟨eP, I.hok.fresh hP', I.hok.fresh hge, e3⟩
    refine h c' _ _ P' (inv_made (t' := tk) I x (fun b o hb e => hx b o hb e) htab.2 hge hP' e1 htb.2) ⟨oc, x.atc, e2, e3⟩ (fun b o e n => ⟨hx b o (fun z => by rw [z, eP] at n; cases n) e, ?_⟩) rfl rfl (fun m => x.tr) fun b m S z => z.made x hT e2
    have hl := Heap.lt_size e
    rw [x.at (fun z => by rw [z, eP] at n; cases n) (Nat.ne_of_lt (Nat.lt_of_lt_of_le hl hP')) (Nat.ne_of_lt (Nat.lt_of_lt_of_le hl hge))]
    exact n
end DL
set_option Elab.async false
set_option linter.all false
set_option maxRecDepth 100000
/-! generator expressions: the frame -/
namespace DL
open PySem PySem.Spec PyProof.Rows L2

/-- a generator expression's frame -/
theorem newGenEnv {M : Model} {A : Around} {E : Value → Shared → Prop} {s : Shared} {scope : Scope} {globals : Addr} {cl : List (Str × Addr)} {qual : Str} {code it : Value} {bi : Addr} {Q : PySem.Env → Shared → Prop}
    (hk : scope.kind = .function) (h0 : scope.names.lookup (".0" : Str) = some NameKind.local)
    (h : ∀ h', h'.Ns s.heap.objs.size (fun y => if y = ".0" then some it else none) → Heap.SameBut s.heap.objs.size (pushCells (s.heap.push { cls := .type "frame", data := .dict #[] }) scope.names) h' →
      Q (newEnv scope s.heap.objs.size globals (cellsFrom (s.heap.objs.size + 1) scope.names cl) qual none code none bi) { s with heap := h', toks := s.toks + 1 }) :
    wpAny M A (newFunctionEnv scope globals cl [(".0", it)] qual none code none bi) Q E s := by
  simp only [newFunctionEnv, Option.isSome_none, Bool.false_eq_true, if_false]
  refine wpAny_bind (wpAny_alloc ?_)
  refine wpAny_bind (wpAny_layCells _ (fun name kind cells => by cases hkc : kind == NameKind.cell <;> simp [hkc]) _ _ _ _ ?_)
  rw [show ({ s with heap := s.heap.push { cls := .type "frame", data := .dict #[] } } : Shared).heap.objs.size = s.heap.objs.size + 1 from Heap.size_push ..]
  rw [List.forIn_cons]
  refine wpAny_bind (wpAny_bind (wpAny_bind (wpAny_storeName_local (m := fun _ => none) h0 ?_ (fun h' hn' hs => ?_) (by rw [hk]; rfl))))
  · exact (Heap.Ns.new s.heap (.type "frame")).keeps (pushCells_keeps _ _)
  · refine wpAny_pure ?_
    dsimp only
    rw [List.forIn_nil]
    exact wpAny_pure (wpAny_pure (h h' hn' hs))

/-- the context of a generator expression's frame -/
abbrev gx (X : Cx) (A : Around) (s : Shared) (H : Hp) (scope : Scope) (C : Addr) (cl : List (Str × Addr)) (code : Value) (fp : List Addr) (pn : List (Addr × Obj)) : Cx :=
  { X with A := A, s_0 := s, H_0 := H, env := genEnv scope cl C code builtinsNs X.env, outer := X.stack, stack := genEnv scope cl C code builtinsNs X.env :: X.stack, ex := fp, fn := fun x => scope.names.lookup x == some .cell, pn := pn, xe := fun _ _ => False }
section
variable {X : Cx} {pins : List (Addr × Obj)} {σ : L2.St} {H : Hp} {s : Shared}
theorem gx_start {A : Around} {scope : Scope} {own : List (Str × Nat)} {fp : List Addr} {code it : Value} {h' : Heap} {t' : Nat} (I : Inv X pins σ H s) (ok : BlkOk X.N X.env.scope scope own) (hN : X.N.Nodup) (hfp : ∀ b ∈ fp, FpOk X pins H b ∧ b < s.heap.objs.size) (hA : A.handled = none)
    (hAf : A.frames = some (genEnv scope (cellsFrom (s.heap.objs.size + 1) scope.names (cloFrom X.env.cells scope.names [])) s.heap.objs.size code builtinsNs X.env :: X.stack))
    (hns : h'.Ns s.heap.objs.size (fun y => if y = ".0" then some it else none)) (hsb : Heap.SameBut s.heap.objs.size (pushCells (s.heap.push { cls := .type "frame", data := .dict #[] }) scope.names) h') :
    Inv (gx X A s H scope s.heap.objs.size (cellsFrom (s.heap.objs.size + 1) scope.names (cloFrom X.env.cells scope.names [])) code fp []) [] (wipe σ (own.map (·.2))) H { s with heap := h', toks := t' } := by
  have hfree : ∀ y ∈ scope.names, y.2 = .free → ∃ c, X.env.cells.lookup y.1 = some c := fun y hy e => by
    rcases ok.free y hy e with k | k
    · exact I.ok.has _ (.inl k)
    · exact I.ok.has _ (.inr k)
  generalize hcl : cellsFrom (s.heap.objs.size + 1) scope.names (cloFrom X.env.cells scope.names []) = cl at hAf ⊢
  have kp0 : ∀ b o, s.heap.get? b = some o → (pushCells (s.heap.push { cls := .type "frame", data := .dict #[] }) scope.names).get? b = some o := fun b o e => pushCells_keeps _ _ _ _ (Heap.get?_push_of_some _ e)
  have kp : ∀ b o, s.heap.get? b = some o → h'.get? b = some o := fun b o e => hsb.extBut b o (Nat.ne_of_lt (Heap.lt_size e)) (kp0 b o e)
  have hcl := hcl.symm
  rw [← Heap.size_push s.heap { cls := .type "frame", data := .dict #[] }] at hcl
  have cm : ∀ {y c}, (y, c) ∈ cloFrom X.env.cells scope.names [] → X.env.cells.lookup y = some c ∧ c < s.heap.objs.size := fun {y c} hm => by
    rcases cloFrom_mem hm with hm | ⟨h1, rfl⟩
    · cases hm
    · obtain ⟨c, hc⟩ := hfree _ h1 rfl
      rw [hc]
      obtain ⟨w, z⟩ := I.cell _ _ hc
      exact ⟨rfl, z.lt⟩
  have mem : ∀ {y c}, cl.lookup y = some c → (X.env.cells.lookup y = some c ∧ c < s.heap.objs.size) ∨ (s.heap.objs.size + 1 ≤ c ∧ CellAt h' c none) := fun {y c} e => by
    rw [hcl] at e
    rcases cells_mem (PySem.mem_of_lookup e) with hm | ⟨_, h2, h3⟩
    · exact .inl (cm hm)
    · rw [Heap.size_push] at h2
      exact .inr ⟨h2, h3.sameBut hsb (Nat.ne_of_gt h2)⟩
  have look : ∀ {y}, scope.names.lookup y = some .free → ∃ c, cl.lookup y = some c ∧ X.env.cells.lookup y = some c := fun {y} hl => by
    have hy : (y, NameKind.free) ∈ scope.names := PySem.mem_of_lookup hl
    obtain ⟨c', e'⟩ := mem_lookup (cells_acc (names := scope.names) (n := (s.heap.push { cls := .type "frame", data := .dict #[] }).objs.size) (cloFrom_has (cells := X.env.cells) (acc := []) hy))
    rw [← hcl] at e'
    refine ⟨c', e', ?_⟩
    rw [hcl] at e'
    rcases cells_mem (PySem.mem_of_lookup e') with hm | ⟨h1, _, _⟩
    · exact (cm hm).1
    · have := ok.uniq _ h1
      rw [hl] at this; cases this
  have okB : (gx X A s H scope s.heap.objs.size cl code fp []).Ok := by
    refine ⟨I.ok.mod, ok.kind, I.ok.glob, rfl, Nat.le_refl _,
      fun y z c e1 e2 => ?_, fun y hy => ?_, fun y c z e => ?_, fun _ => hA, hAf, .inr ⟨rfl, rfl⟩, fun b hb => ⟨?_, fun y c e z => ?_⟩, I.bs, Nat.le_trans I.ok.bsz I.sz, fun b o e hb => ?_, fun b hb z => ?_, I.stack, I.stkFree⟩
    · have e1 : cl.lookup y = some c := e1
      have e2 : cl.lookup z = some c := e2
      rw [hcl] at e1 e2
      refine cells_inj (fun p hp => ?_) (fun y z c a b => I.ok.inj y z c (cm a).1 (cm b).1) (PySem.mem_of_lookup e1) (PySem.mem_of_lookup e2)
      rw [Heap.size_push]
      exact Nat.lt_succ_of_lt (cm (y := p.1) (c := p.2) hp).2
    · show ∃ c, cl.lookup y = some c
      have key : ∀ k, scope.names.lookup y = some k → (k = .cell ∨ k = .free) → ∃ c, cl.lookup y = some c := fun k e hk' => by
        rcases hk' with rfl | rfl
        · obtain ⟨c, hm⟩ := cells_has (n := (s.heap.push { cls := .type "frame", data := .dict #[] }).objs.size) (acc := cloFrom X.env.cells scope.names []) (PySem.mem_of_lookup e)
          obtain ⟨c', e'⟩ := mem_lookup hm
          exact ⟨c', by rw [hcl]; exact e'⟩
        · obtain ⟨c, h1, _⟩ := look e
          exact ⟨c, h1⟩
      rcases hy with hy | hy
      · exact key _ hy (.inl rfl)
      · exact key _ hy (.inr rfl)
    · have z : (scope.names.lookup y == some NameKind.cell) = true := z
      have z : scope.names.lookup y = some .cell := by simpa using z
      have e : cl.lookup y = some c := e
      rw [hcl] at e
      rcases cells_mem (PySem.mem_of_lookup e) with hm | ⟨_, h2, _⟩
      · rcases cloFrom_mem hm with hm | ⟨h1, _⟩
        · cases hm
        · have q := ok.uniq _ h1
          rw [z] at q; cases q
      · rw [Heap.size_push] at h2
        exact Nat.le_of_succ_le h2
    · exact Nat.ne_of_lt (hfp b hb).2
    · have e : cl.lookup y = some c := e
      rcases mem e with ⟨h1, _⟩ | ⟨h1, _⟩
      · exact (hfp b hb).1.2.2.2.2.1 y c h1 z
      · have h2 : s.heap.objs.size + 1 ≤ b := by rw [← z]; exact h1
        exact absurd (Nat.lt_of_lt_of_le (hfp b hb).2 (Nat.le_of_succ_le h2)) (Nat.lt_irrefl _)
    · rcases (hfp b hb).1.2.2.2.1 with z | z
      · exact I.ok.noex b o e z
      · exact absurd (Nat.lt_of_lt_of_le (Heap.lt_size e) (Nat.le_trans I.ok.bsz z)) (Nat.lt_irrefl _)
    · rcases List.mem_cons.mp (I.stkSub b z) with z | z
      · exact (hfp b hb).1.2.1 z
      · exact (hfp b hb).1.2.2.1 z
  refine ⟨okB, rfl, I.bare, Un.kept kp, ⟨_, hns, fun i y av e1 e2 e3 => ?_⟩, fun y c e => ?_, I.hok.fresh (Nat.le_refl _), fun y c e => ?_, fun p hp => ?_, I.hok.kept kp, by rw [wipe_length]; exact I.len⟩
  · obtain ⟨e2, hne⟩ := wipe_some e2
    have hfr : scope.names.lookup y = some .free := by
      have no : ∀ k', scope.names.lookup y = some k' → ¬ (k' = .local ∨ k' = .cell) := fun k' e hh => by
        rcases ok.own _ (PySem.mem_of_lookup e) hh with e' | e'
        · obtain ⟨p, hp, hpy⟩ := List.mem_map.mp e'
          have e3 := ok.ix p hp
          have : p.1 = y := hpy
          rw [this] at e3
          exact hne (List.mem_map.mpr ⟨p, hp, nodup_ix hN e3 e1⟩)
        · exact e' (List.mem_of_getElem? e1)
      have e3 : Vis scope y := e3
      rcases e3 with e3 | e3 | e3
      · exact absurd (.inl rfl) (no _ e3)
      · exact absurd (.inr rfl) (no _ e3)
      · exact e3
    obtain ⟨m, hn, hl⟩ := I.loc
    have hvis : Vis X.env.scope y := (ok.free _ (PySem.mem_of_lookup hfr) rfl).elim (fun k => .inr (.inl k)) (fun k => .inr (.inr k))
    obtain ⟨w, r, q⟩ := hl i y av e1 e2 hvis
    refine ⟨w, r, .inr ⟨.inr hfr, ?_⟩⟩
    obtain ⟨c, h1, h2⟩ := look hfr
    rcases q with ⟨k, _⟩ | ⟨_, c', e', z⟩
    · have k : X.env.scope.names.lookup y = some .local := k
      rcases ok.free _ (PySem.mem_of_lookup hfr) rfl with k' | k' <;> rw [show X.env.scope.names.lookup y = _ from k'] at k <;> cases k
    · rw [h2] at e'; cases e'
      exact ⟨c, h1, z.keeps kp⟩
  · have e : cl.lookup y = some c := e
    rcases mem e with ⟨h1, _⟩ | ⟨_, z⟩
    · obtain ⟨w, z⟩ := I.cell y c h1
      exact ⟨w, z.keeps kp⟩
    · exact ⟨_, z⟩
  · have e : cl.lookup y = some c := e
    rcases mem e with ⟨h1, _⟩ | ⟨h1, _⟩
    · exact I.freeC y c h1
    · exact I.hok.fresh (Nat.le_of_succ_le h1)
  · exact absurd (show p ∈ ([] : List (Addr × Obj)) ++ [] from hp) (by simp)
end
/-- pins more in a generator's context -/
theorem gx_pinned {X : Cx} {A : Around} {s s1 : Shared} {H H' : Hp} {scope : Scope} {C : Addr} {cl : List (Str × Addr)} {code : Value} {fp : List Addr} {pn pins : List (Addr × Obj)} {σ : L2.St}
    (I : Inv (gx X A s H scope C cl code fp []) [] σ H' s1) (h : ∀ p ∈ pn ++ pins, s1.heap.get? p.1 = some p.2 ∧ H' p.1 = none ∧ p.1 ≠ C ∧ p.1 ∉ frs X.stack ∧ ∀ v, p.2.data ≠ .cell v) :
    Inv (gx X A s H scope C cl code fp pn) pins σ H' s1 :=
  ⟨⟨I.ok.mod, I.ok.kind, I.ok.glob, I.ok.blt, I.ok.above, I.ok.inj, I.ok.has, I.ok.cab, I.ok.hd, I.ok.frames, I.ok.stk, I.ok.exf, I.ok.bs, I.ok.bsz, I.ok.noex, I.ok.exfs, I.ok.funs, I.ok.frf⟩, I.os, I.bare, I.base, I.loc, I.cell, I.free, I.freeC, h, I.hok, I.len⟩
end DL
set_option Elab.async false
set_option linter.all false
set_option maxRecDepth 100000
set_option maxHeartbeats 1000000
/-! generator expressions: what runs, turn by turn -/
namespace DL
open PySem PySem.Spec PyProof.Rows L2 GenW

/-- while a generator sleeps: its consumer writes to the objects at Sx alone -/
structure SleptC (Sx : List Addr) (s s' : Shared) : Prop where
  os : s'.os = s.os
  bare : AllBare s'.gens
  keep : ∀ b o, b ∉ Sx → s.heap.get? b = some o → s'.heap.get? b = some o
  own : ∀ b ∈ Sx, ∃ o, s'.heap.get? b = some o ∧ ∀ v, o.data ≠ .cell v
/-- the consumer's objects: younger than the frame's making, none of its own -/
def ApartC (X : Cx) (Sx : List Addr) : Prop := ∀ b ∈ Sx, X.s_0.heap.objs.size ≤ b ∧ b ≠ X.env.locals ∧ (∀ x c, X.env.cells.lookup x = some c → c ≠ b) ∧ (∀ p ∈ X.pn, p.1 ≠ b) ∧ b ∉ X.ex
theorem slept_inv {X : Cx} {Sx : List Addr} {pl : List (Addr × Obj)} {σ : L2.St} {H : Hp} {s s' : Shared} (hA : ApartC X Sx) (I : Inv X (pinsAt Sx s.heap ++ pl) σ H s) (ho : ∀ b ∈ Sx, ∃ o, s.heap.get? b = some o) (hpl : ∀ p ∈ pl, p.1 ∉ Sx) (z : SleptC Sx s s') :
    Inv X (pinsAt Sx s'.heap ++ pl) σ H s' := by
  have at_ : ∀ b ∈ Sx, H b = none ∧ b ∉ X.fs := fun b hb => by
    obtain ⟨o, e⟩ := ho b hb
    obtain ⟨_, h2, _, h4, _⟩ := I.pin (b, o) (List.mem_append_right _ (List.mem_append_left _ (mem_pinsAt hb e)))
    exact ⟨h2, h4⟩
  have I0 : Inv X pl σ H s := I.pins_of fun p hp => I.pin p (List.mem_append_right _ (List.mem_append_right _ hp))
  have nt : ∀ b u, H b = some u → b ∉ Sx := fun b u q hb => by rw [(at_ b hb).1] at q; cases q
  obtain ⟨z1, z2, z3, z4⟩ := z
  obtain ⟨hh, g, d, t, o⟩ := s'
  have ho' : o = s.os := z1
  subst ho'
  have J : Inv X pl σ H { s with heap := hh, gens := g, drawn := d, toks := t } := by
    refine I0.step (g' := g) (t' := t) (d' := d) (ch := Sx) (fun b hb => ?_)
      (fun b ob _ _ hc q _ => z3 b ob hc q) (fun b ob _ _ hc q _ => ⟨ob.slots, z3 b ob hc q⟩) (fun _ _ _ _ n => n) (fun b ob hc q => ⟨ob, z3 b ob hc q⟩)
      (fun _ _ q => q) (fun _ _ _ q => q) (fun b ps q => ⟨#[], by rw [q]; simp⟩) (fun m hm => ?_) (fun b u q => ?_) z2
    · obtain ⟨a1, a2, a3, a4, a5⟩ := hA b hb
      refine ⟨.inr a1, a2, a3, fun p hp => ?_⟩
      rcases List.mem_append.mp hp with hp | hp
      · exact a4 p hp
      · exact fun e => hpl p hp (by rw [e]; exact hb)
    · obtain ⟨ob, es, ep, ho, r⟩ := hm
      exact ⟨ob, es, ep, z3 _ ob (fun hb => (hA _ hb).2.1 rfl) ho, r⟩
    · refine (I0.hok b u q).stay (fun c v hc y => z3 c v ?_ y) (fun _ y => y) fun _ _ y => y
      rcases hc with y | y
      · rw [y]; exact nt b u q
      · exact nt c _ y
  refine J.pins_of fun p hp => ?_
  rcases List.mem_append.mp hp with hp | hp
  · obtain ⟨hb, e⟩ := of_pinsAt hp
    obtain ⟨h1, h2⟩ := at_ p.1 hb
    refine ⟨e, h1, (hA _ hb).2.1, h2, fun v q => ?_⟩
    obtain ⟨o, e', d⟩ := z4 p.1 hb
    rw [show hh.get? p.1 = some p.2 from e] at e'
    cases e'
    exact d v q
  · exact J.pin p (List.mem_append_right _ hp)
/-- pins that still hold -/
theorem pins_kept {X : Cx} {Sx : List Addr} {pl pl' : List (Addr × Obj)} {σ : L2.St} {H : Hp} {s s' : Shared} (I : Inv X (pinsAt Sx s.heap ++ pl) σ H s') (hpl : ∀ p ∈ pl', p ∈ pl) (ho : ∀ b ∈ Sx, ∃ o, s.heap.get? b = some o) : Inv X (pinsAt Sx s'.heap ++ pl') σ H s' := by
  refine I.pins_of fun p hp => ?_
  rcases List.mem_append.mp hp with hp | hp
  · obtain ⟨hb, e⟩ := of_pinsAt hp
    obtain ⟨o, e0⟩ := ho p.1 hb
    have q := I.pin (p.1, o) (List.mem_append_right _ (List.mem_append_left _ (mem_pinsAt hb e0)))
    have : o = p.2 := by
      have := q.1
      rw [e] at this
      exact (Option.some.inj this).symm
    subst this
    exact q
  · exact I.pin p (List.mem_append_right _ (List.mem_append_right _ (hpl p hp)))
theorem kept_at {X : Cx} {Sx : List Addr} {pl : List (Addr × Obj)} {σ : L2.St} {H : Hp} {s s' : Shared} (I : Inv X (pinsAt Sx s.heap ++ pl) σ H s') : ∀ b ∈ Sx, ∀ o, s.heap.get? b = some o → s'.heap.get? b = some o ∧ H b = none := fun b hb o e =>
  let z := I.pin (b, o) (List.mem_append_right _ (List.mem_append_left _ (mem_pinsAt hb e)))
  ⟨z.1, z.2.1⟩

/-- what a consumer asks: N, the most items; go, when it goes on; RQ of an item, EQ of the end -/
structure Wish where
  N : Nat
  go : V → Prop
  RQ : List V → V → Hp → Prop
  EQ : List V → Hp → Prop
def GrE (X : Cx) (Sx : List Addr) (CR : List V → Heap → Prop) (W : Wish) : GenEnd := fun n s₀ r s => r = .ok .next ∧ ∃ ys σ H, n + ys.length = W.N ∧ Inv X (pinsAt Sx s.heap) σ H s ∧ (∀ b ∈ Sx, H b = none) ∧ CR ys s.heap ∧ W.EQ ys H
def GrY (X : Cx) (Sx : List Addr) (CR : List V → Heap → Prop) (W : Wish) : Protocol := fun n s₀ v s kap =>
  ∃ ys x σ H pl, n + 1 + ys.length = W.N ∧ RelV x v ∧ Inv X (pinsAt Sx s.heap ++ pl) σ H s ∧ (∀ b ∈ Sx, H b = none) ∧ CR ys s.heap ∧ W.RQ ys x H ∧ ∀ s', W.go x → SleptC Sx s s' → CR (ys ++ [x]) s'.heap → kap (.send .none) s'
/-- what is asked of the run: Wv, by the turn, a measure, what is out -/
def TurnW (J : It) (g : TG) (tt : TT) (te : TE) (vs : List Nat) (σ : L2.St) (W : Wish) (Wv : Nat → Nat → List V → Hp → Prop) : Prop := ∀ i m ys H, Wv i m ys H →
  (J.stop i H ∧ W.EQ ys H) ∨ (J.go i H ∧ ∃ Nx : List V → Hp → Prop, (∀ ys' H', Nx ys' H' → ∃ m', m' < m ∧ Wv (i + 1) m' ys' H') ∧ ∀ x H', J.yld i H x H' → g x (wipe σ vs) H' fun σ2 H2 => wipe σ2 vs = wipe σ vs ∧ tt σ2 H2 fun b H3 =>
    if b = true then te σ2 H3 fun y H4 => ys.length < W.N ∧ W.RQ ys y H4 ∧ (W.go y → Nx (ys ++ [y]) H4) else Nx ys H3)

abbrev gLoop (elt tg iter : Expr) (ifs : List Expr) (scope : Scope) (pos : Pos) (it : Addr) (env : PySem.Env) : Code := .compLoop (.GeneratorExp elt [⟨tg, iter, ifs, 0⟩] scope pos) 0 (.ref it) .none env
abbrev gStart (elt tg iter : Expr) (ifs : List Expr) (scope : Scope) (pos : Pos) (it : Addr) (env : PySem.Env) : Code := .compStart (.GeneratorExp elt [⟨tg, iter, ifs, 0⟩] scope pos) 0 (.ref it) .none env
theorem over_gLoop {A : Around} {elt tg iter : Expr} {ifs : List Expr} {scope : Scope} {pos : Pos} {it : Addr} {env : PySem.Env} : A.over (gLoop elt tg iter ifs scope pos it env) [] = A.deeper env := by
  first
    | rfl
    | (obtain ⟨hd, d, fr, gs, u⟩ := A; simp [Around.over, Around.deeper, marksOver, frameCount, unitsOf, envsOf, guardsOf, pushEnvs, pushGuards, Code.envs, Code.env?, Code.isFrame, Code.guards, Code.isGuard, Code.weight, Code.frames, Code.isCreation, Code.isCaller, Code.cUnits])
theorem over_gStart {A : Around} {elt tg iter : Expr} {ifs : List Expr} {scope : Scope} {pos : Pos} {it : Addr} {env : PySem.Env} : A.over (gStart elt tg iter ifs scope pos it env) [] = A.deeper env := by
  first
    | rfl
    | (obtain ⟨hd, d, fr, gs, u⟩ := A; simp [Around.over, Around.deeper, marksOver, frameCount, unitsOf, envsOf, guardsOf, pushEnvs, pushGuards, Code.envs, Code.env?, Code.isFrame, Code.guards, Code.isGuard, Code.weight, Code.frames, Code.isCreation, Code.isCaller, Code.cUnits])
section
variable {X : Cx} {elt tg iter : Expr} {ifs : List Expr} {scope : Scope} {pos : Pos} {it : Addr} {fp : List Addr} {tn : Nat → Heap → Prop} {J : It} {g : TG} {tt : TT} {te : TE} {vs : List Nat} {σ : L2.St} {W : Wish} {Wv : Nat → Nat → List V → Hp → Prop} {Sx : List Addr} {CR : List V → Heap → Prop} {A : Around}
theorem seg_gLoop (hover : A.deeper X.env = X.A) (hc : X.calm = true) (T : Turn X.prog X.w X.K tg J fp it tn) (hfp : ∀ b ∈ fp, b ∈ X.ex ∧ b ≠ X.env.locals ∧ b ∉ X.fs ∧ (∀ x c, X.env.cells.lookup x = some c → c ≠ b) ∧ (∀ p ∈ X.pn, p.1 ≠ b))
    (hg : PG X tg g) (ht : PTs X ifs tt) (he : PE X elt te) (hco : X.env.scope.isCoroutine = false) (hxe : X.xe = fun _ _ => False) (hA : ApartC X Sx) (stable : ∀ ys h h', CR ys h → (∀ b ∈ Sx, ∀ o, h.get? b = some o → h'.get? b = some o) → CR ys h') (turn : TurnW J g tt te vs σ W Wv) :
    ∀ (m i n : Nat) (ys : List V) (s₀ s : Shared) (H : Hp), n + ys.length = W.N → Wv i m ys H → Inv X (pinsAt Sx s.heap) (wipe σ vs) H s → (∀ b ∈ Sx, ∃ o, s.heap.get? b = some o) → tn i s.heap → (∀ b ∈ fp, H b = none) → CR ys s.heap →
      Seg (model X.prog X.w) A (GrE X Sx CR W) (GrY X Sx CR W) n s₀ (gLoop elt tg iter ifs scope pos it X.env) ((model X.prog X.w).den (gLoop elt tg iter ifs scope pos it X.env)) [] s := by
  have ov : A.over (gLoop elt tg iter ifs scope pos it X.env) [] = X.A := over_gLoop.trans hover
  have nS : ∀ b ∈ fp, b ∉ Sx := fun b hb hs => (hA b hs).2.2.2.2 (hfp b hb).1
  have stat : ∀ {h : Heap} {H' : Hp}, (∀ b ∈ fp, H' b = none) → ∀ b ∈ fp, FpOk X (pinsAt Sx h) H' b := fun {h H'} hn b hb => by
    obtain ⟨h1, h2, h3, h4, h5⟩ := hfp b hb
    refine ⟨hn b hb, h2, h3, .inl h1, h4, fun p hp => ?_⟩
    rcases List.mem_append.mp hp with hp | hp
    · exact h5 p hp
    · exact fun e => nS b hb (by rw [← e]; exact (of_pinsAt hp).1)
  have noX : ∀ {t : Sem PySem.Fin} {e : Value} {s : Shared} {n : Nat} {s₀ : Shared} {R : GenEnd} {Y : Protocol}, X.xe e s → Seg (model X.prog X.w) A R Y n s₀ (gLoop elt tg iter ifs scope pos it X.env) t [] s := fun h => by rw [hxe] at h; exact h.elim
  intro m
  induction m using Nat.strongRecOn with
  | ind m ih =>
    intro i n ys s₀ s H hn w I ho st nf cr
    show Seg _ A _ _ _ s₀ _ ((compTurn (.GeneratorExp elt [⟨tg, iter, ifs, 0⟩] scope pos) 0 (.ref it) .none X.env).onRaise (leaving X.env)) [] s
    rw [compTurn_gen, Sem.onRaise_eq_wrap]
    refine seg_bind_wrap (wpAny_standAt ?_)
    refine seg_bind_wrap ?_
    rw [ov]
    rcases turn i m ys H w with ⟨stop, eq⟩ | ⟨go, Nx, hNx, step⟩
    · refine thnF (T.done X rfl rfl rfl hc i _ s _ H (fun _ _ => False) I (stat nf) st stop) fun r s1 ⟨hr, I1⟩ => ?_
      subst hr
      have I1' := pins_kept (pl := []) (pl' := []) (s := s) (by rw [List.append_nil]; exact I1) (fun _ z => z) ho
      rw [List.append_nil] at I1'
      have kt := kept_at (pl := []) (s := s) (by rw [List.append_nil]; exact I1)
      exact seg_end (.ok .next) ⟨rfl, ys, _, H, hn, I1', fun b hb => (let ⟨o, e⟩ := ho b hb; (kt b hb o e).2), stable _ _ _ cr fun b hb o e => (kt b hb o e).1, eq⟩
    · refine thnF (T.item X rfl rfl rfl hc i _ s _ H (fun _ _ => False) I (stat nf) st go) fun r s1 ⟨u, hr, h1⟩ => ?_
      subst hr
      refine seg_bind_wrap ?_
      rw [ov]
      refine thnF h1 fun _ s2 ⟨x, H2, I2, r2, y2, st2, n2⟩ => ?_
      have I2' := I2.pinned (stat n2) (T.obj _ _ st2)
      refine seg_bind_wrap ?_
      rw [ov]
      refine wpAny_mono (hg.run _ s2 _ H2 x u _ I2' r2 (step x H2 y2)) (fun _ s3 ⟨σ3, H3, I3, hw3, q3⟩ => ?_) fun _ _ e => noX e
      refine seg_bind_wrap ?_
      rw [ov]
      refine wpAny_mono (ht.run _ s3 σ3 H3 _ I3 q3) (fun b s4 ⟨H4, I4, q4⟩ => ?_) fun _ _ e => noX e
      -- behind the turn
      have fin : ∀ {s' : Shared} {H' : Hp} {ys' : List V} {n' : Nat} {s₀' : Shared}, Inv X (pinsAt Sx s'.heap ++ pinsAt fp s2.heap) σ3 H' s' → (∀ b ∈ Sx, ∃ o, s'.heap.get? b = some o) → CR ys' s'.heap → Nx ys' H' → n' + ys'.length = W.N →
          Seg (model X.prog X.w) A (GrE X Sx CR W) (GrY X Sx CR W) n' s₀' (gLoop elt tg iter ifs scope pos it X.env) (.pure (.again (gLoop elt tg iter ifs scope pos it X.env))) [] s' := fun {s' H' ys' n' s₀'} I' ho' cr' nx hn' => by
        obtain ⟨m', hm, w'⟩ := hNx ys' H' nx
        have pin' : ∀ b ∈ fp, ∀ o, s2.heap.get? b = some o → s'.heap.get? b = some o ∧ H' b = none := fun b hb o e =>
          let z := I'.pin (b, o) (List.mem_append_right _ (List.mem_append_right _ (mem_pinsAt hb e)))
          ⟨z.1, z.2.1⟩
        have hl : (wipe σ vs).length = σ3.length := by rw [← hw3, wipe_length]
        refine seg_again rfl (ih m' hm (i + 1) n' ys' s₀' s' H' hn' w' ((I'.unpinned (pins := pinsAt Sx s'.heap)).weak hl (fun j v e => ?_)) ho' (T.keep _ _ _ st2 fun b hb o e => (pin' b hb o e).1) (fun b hb => ?_) cr')
        · rw [← hw3] at e
          exact (wipe_some e).1
        · obtain ⟨o, e, _⟩ := T.obj _ _ st2 b hb
          exact (pin' b hb o e).2
      have ho2 : ∀ b ∈ Sx, ∃ o, s.heap.get? b = some o := ho
      cases b with
      | false =>
        simp only [Bool.false_eq_true, if_false] at q4 ⊢
        have J4 := pins_kept (s := s) (pl' := pinsAt fp s2.heap) I4 (fun _ z => z) ho
        have kt := kept_at (s := s) I4
        exact fin J4 (fun b hb => let ⟨o, e⟩ := ho b hb; ⟨o, (kt b hb o e).1⟩) (stable _ _ _ cr fun b hb o e => (kt b hb o e).1) q4 hn
      | true =>
        simp only [if_true] at q4 ⊢
        have hy : ∀ v, yieldOut X.env v = yieldValue v := fun v => by simp only [yieldOut, hco, Bool.false_eq_true, if_false]
        simp only [hy]
        rw [Sem.bind_eq_wrap', Sem.bind_eq_wrap', Sem.wrap_wrap, Sem.wrap_wrap]
        refine seg_wrap ?_
        rw [ov]
        refine wpAny_mono (he.run _ s4 σ3 H4 _ I4 q4) (fun v s5 ⟨y, H5, I5, r5, hlt, rq, nx⟩ => ?_) fun _ _ e => noX e
        obtain ⟨n', rfl⟩ : ∃ n', n = n' + 1 := ⟨n - 1, by omega⟩
        have J5 := pins_kept (s := s) (pl' := pinsAt fp s2.heap) I5 (fun _ z => z) ho
        have kt := kept_at (s := s) I5
        have ho5 : ∀ b ∈ Sx, ∃ o, s5.heap.get? b = some o := fun b hb => let ⟨o, e⟩ := ho b hb; ⟨o, (kt b hb o e).1⟩
        refine seg_at (seg_yield rfl rfl rfl ⟨ys, y, σ3, H5, pinsAt fp s2.heap, hn, r5, J5, fun b hb => (let ⟨o, e⟩ := ho b hb; (kt b hb o e).2), stable _ _ _ cr fun b hb o e => (kt b hb o e).1, rq, fun s' hgo z cr' => ?_⟩)
        have J6 := slept_inv hA J5 ho5 (fun p hp hs => nS p.1 (of_pinsAt hp).1 hs) z
        exact fin J6 (fun b hb => let ⟨o, e, _⟩ := z.own b hb; ⟨o, e⟩) cr' (nx hgo) (by rw [List.length_append, List.length_singleton]; omega)
theorem seg_gStart (hover : A.deeper X.env = X.A) (T : Turn X.prog X.w X.K tg J fp it tn) {n : Nat} {s₀ s : Shared} (st : tn 0 s.heap)
    (loop : Seg (model X.prog X.w) A (GrE X Sx CR W) (GrY X Sx CR W) n s₀ (gLoop elt tg iter ifs scope pos it X.env) ((model X.prog X.w).den (gLoop elt tg iter ifs scope pos it X.env)) [] s) :
    Seg (model X.prog X.w) A (GrE X Sx CR W) (GrY X Sx CR W) n s₀ (gStart elt tg iter ifs scope pos it X.env) ((model X.prog X.w).den (gStart elt tg iter ifs scope pos it X.env)) [] s := by
  show Seg _ A _ _ _ s₀ _ ((compStart (.GeneratorExp elt [⟨tg, iter, ifs, 0⟩] scope pos) 0 (.ref it) .none X.env).onRaise (leaving X.env)) [] s
  unfold compStart
  rw [Sem.onRaise_eq_wrap]
  show Seg _ A _ _ _ s₀ _ ((ask >>= _).wrap _ _ _ _) [] s
  refine seg_bind_wrap (wpAny_askSetting ?_)
  split
  · exact seg_again rfl loop
  · first
      | exact seg_bind_wrap (wpAny_rule (seg_bind_wrap (wpAny_standAt (seg_bind_wrap (T.self _ 0 s _ _ st (seg_again rfl loop))))))
      | (refine seg_bind_wrap (wpAny_rule ?_); show Seg _ A _ _ _ s₀ _ ((standAt iter.pos >>= _).wrap _ _ _ _) [] s; exact seg_bind_wrap (wpAny_standAt (seg_bind_wrap (T.self _ 0 s _ _ st (seg_again rfl loop)))))
end
end DL
set_option Elab.async false
set_option linter.all false
set_option maxRecDepth 100000
set_option maxHeartbeats 2000000
/-! generator expressions: made, and walked by tuple, all, any -/
namespace DL
open PySem PySem.Spec PyProof.Rows L2 GenW

/-- behind a step of the generator -/
structure GFacts (X : Cx) (sc : Shared) (H : Hp) (fp Sx : List Addr) (a : Addr) (g : Nat) (H' : Hp) (s : Shared) : Prop where
  os : s.os = sc.os
  bare : AllBare s.gens
  un : Un (frs X.stack) fp H H' sc.heap s.heap
  hok : HOk X.prog X.w H' s.heap
  apart : ∀ b ∈ Sx, H' b = none
  lim : s.heap.NoLimit
  gen : s.heap.IsGen a g
def GmE (X : Cx) (sc : Shared) (H : Hp) (fp Sx : List Addr) (a : Addr) (g : Nat) (CR : List V → Heap → Prop) (W : Wish) : GenEnd := fun n s₀ r s => ((r = .ok (.ret .none) ∨ r = .ok .next) ∧ ∃ ys H', n + ys.length = W.N ∧ GFacts X sc H fp Sx a g H' s ∧ CR ys s.heap ∧ W.EQ ys H') ∨ ∃ e, r = .error e ∧ False
def GmY (X : Cx) (sc : Shared) (H : Hp) (fp Sx : List Addr) (a : Addr) (g : Nat) (CR : List V → Heap → Prop) (W : Wish) : Protocol := fun n s₀ v s kap =>
  ∃ ys x H', n + 1 + ys.length = W.N ∧ RelV x v ∧ GFacts X sc H fp Sx a g H' s ∧ CR ys s.heap ∧ W.RQ ys x H' ∧ ∀ s', W.go x → SleptC Sx s s' → CR (ys ++ [x]) s'.heap → kap (.send .none) s'
/-- a generator that has not begun -/
def GMadeC (X : Cx) (pins : List (Addr × Obj)) (σ : L2.St) (k : Nat) (W : Wish) (u : Value) (s' : Shared) : Prop :=
  ∃ (a : Addr) (g : Nat) (c : Code) (sc : Shared) (H : Hp) (fp : List Addr), u = .ref a ∧ Inv X pins σ H sc ∧ ExOk X pins fp ∧ sc.heap.objs.size ≤ a ∧ a < s'.heap.objs.size ∧ s'.heap.IsGen a g ∧ s'.gens[g]? = some (.fresh c) ∧ s'.os = sc.os ∧ AllBare s'.gens ∧ s'.heap.NoLimit ∧
    (∀ b o, sc.heap.get? b = some o → s'.heap.get? b = some o) ∧
    ∀ (A : Around) (Sx : List Addr) (CR : List V → Heap → Prop) (s2 : Shared), Room (k + 1) A → A.frames = some X.stack → (∀ b ∈ Sx, s'.heap.objs.size ≤ b ∧ ∃ o, s2.heap.get? b = some o ∧ ∀ v, o.data ≠ .cell v) →
      (∀ ys h h', CR ys h → (∀ b ∈ Sx, ∀ o, h.get? b = some o → h'.get? b = some o) → CR ys h') → (∀ b o, s'.heap.get? b = some o → s2.heap.get? b = some o) → CR [] s2.heap → s2.os = sc.os → AllBare s2.gens →
      Seg (model X.prog X.w) A (GmE X sc H fp Sx a g CR W) (GmY X sc H fp Sx a g CR W) W.N s2 c ((model X.prog X.w).den c) [] s2
def Grown (K : PySem.W.Frag) (H1 H2 : Hp) : Prop := (∀ m, Tr m H1 m H2) ∧ ∀ (b m : List Addr) (S : Sto), StoR K b m H1 S → StoR K b m H2 S
/-- the reading of a generator expression under a wish -/
def tGenW (K : PySem.W.Frag) (wi : TI) (g : TG) (tt : TT) (te : TE) (vs : List Nat) (Wi : Hp → Wish → Prop) : L2.St → Hp → Prop := fun σ H => wi σ H fun J H1 => TabsOk K H1 ∧ ∀ H2, Grown K H1 H2 → ∃ W Wv m, Wi H2 W ∧ Wv 0 m [] H2 ∧ TurnW J g tt te vs σ W Wv
section
variable {X : Cx} {elt tg iter : Expr} {ifs : List Expr} {scope : Scope} {own : List (Str × Nat)} {gpos : Pos} {wi : TI} {g : TG} {tt : TT} {te : TE} {k : Nat}
/-- the generator's scope -/
structure GScp (N : List Str) (sc scope : Scope) (own : List (Str × Nat)) : Prop where
  blk : BlkOk N sc scope own
  co : scope.isCoroutine = false
  dot : scope.names.lookup (".0" : Str) = some NameKind.local
theorem gen_make {pins : List (Addr × Obj)} {σ : L2.St} {H : Hp} {s : Shared} {Q : Value → Shared → Prop} {Wi : Hp → Wish → Prop} (B : Bmain X.base X.mg) (cx : CodeX X) (hc : X.calm = true) (hN : X.N.Nodup) (hr : Room (k + 2) X.A) (hi : PI X tg iter wi) (ok : GScp X.N X.env.scope scope own)
    (hg : ∀ A s H C cl code fp pn, PG (gx X A s H scope C cl code fp pn) tg g) (ht : ∀ A s H C cl code fp pn, Room k A → CodeX (gx X A s H scope C cl code fp pn) → PTs (gx X A s H scope C cl code fp pn) ifs tt)
    (he : ∀ A s H C cl code fp pn, Room k A → CodeX (gx X A s H scope C cl code fp pn) → PE (gx X A s H scope C cl code fp pn) elt te) (hs : ∀ x, genFold iter X.env x = pure x)
    (I : Inv X pins σ H s) (h : tGenW X.K wi g tt te (own.map (·.2)) Wi σ H) (hQ : ∀ H2 W u s', Wi H2 W → GMadeC X pins σ k W u s' → Q u s') :
    wpAny (model X.prog X.w) X.A (eval (.GeneratorExp elt [⟨tg, iter, ifs, 0⟩] scope gpos) X.env) Q X.xe s := by
  have hfree : ∀ y ∈ scope.names, y.2 = .free → ∃ c, X.env.cells.lookup y.1 = some c := fun y hy e => by
    rcases ok.blk.free y hy e with k | k
    · exact I.ok.has _ (.inl k)
    · exact I.ok.has _ (.inr k)
  rw [eval_GeneratorExp1 _ _ _ _ _ _ _ ok.co, closure_ok hfree]
  refine wpAny_bind (thn (hi.run pins s σ H _ I h) fun xv s1 hx => ?_)
  refine wpAny_bind (wpAny_standAt ?_)
  refine wpAny_bind (wpAny_of_eq (hs xv) ?_)
  refine wpAny_bind (wpAny_holding (thn hx fun itv s2 h2 => ?_))
  obtain ⟨it, fp, tn, J, H2, e, I2, T, st2, f2, tb, q⟩ := h2
  subst e
  refine wpAny_bind (wpAny_enterFrame I2.nolimit (by have := hr.dp; omega) ?_)
  refine wpAny_bind (wpAny_pure ?_)
  refine wpAny_bind (gcode B cx tb I2 fun c H3 s3 P' I3 hm keep g3 o3 tr3 sto3 => ?_)
  obtain ⟨W, Wv, m0, hWi, w0, turn⟩ := q H3 ⟨tr3, sto3⟩
  obtain ⟨bm, ob, b1, b2, b3, b4, b5, b6⟩ := B.bm
  refine wpAny_bind (wpAny_builtinsFor (m := X.mg) (by rw [I3.ok.glob]; exact I3.mod.glob.keeps I3.bk) b1 b2 (I3.bk _ _ b3) b4 b5 b6 ?_)
  refine wpAny_bind (newGenEnv ok.blk.kind ok.dot fun h' hns hsb => ?_)
  simp only [newGenerator, newFields]
  refine wpAny_bind (wpAny_newGen (wpAny_bind (wpAny_mkText (wpAny_bind (wpAny_mkText (wpAny_newObj_type ?_ (by size_fits)))))))
  refine hQ H3 W _ _ hWi ?_
  generalize hcl : cellsFrom (s3.heap.objs.size + 1) scope.names (cloFrom X.env.cells scope.names []) = cl
  -- the heap behind
  have kp0 : ∀ b o, s3.heap.get? b = some o → (pushCells (s3.heap.push { cls := .type "frame", data := .dict #[] }) scope.names).get? b = some o := fun b o e => pushCells_keeps _ _ _ _ (Heap.get?_push_of_some _ e)
  have kp3 : ∀ b o, s3.heap.get? b = some o → h'.get? b = some o := fun b o e => hsb.extBut b o (Nat.ne_of_lt (Heap.lt_size e)) (kp0 b o e)
  have sz3 : s3.heap.objs.size < h'.objs.size := hns.lt
  have fpo2 : ∀ b ∈ fp, ∃ o, s2.heap.get? b = some o ∧ ∀ v, o.data ≠ .cell v := T.obj _ _ st2
  have fpk : ∀ b ∈ fp, ∀ o, s2.heap.get? b = some o → s3.heap.get? b = some o := fun b hb o e => (keep b o e (f2 b hb).1).1
  have f3 : ∀ b ∈ fp, FpOk X pins H3 b ∧ b < s3.heap.objs.size := fun b hb => by
    obtain ⟨o, e, _⟩ := fpo2 b hb
    obtain ⟨e3, n3⟩ := keep b o e (f2 b hb).1
    exact ⟨⟨n3, (f2 b hb).2⟩, Heap.lt_size e3⟩
  have st3 : tn 0 s3.heap := T.keep _ _ _ st2 fpk
  have goal : ∀ (go : Obj) (nm qn : Value) (tk2 : Nat), go.cls = .type "generator" → go.data = .fields #[.int s3.gens.size 0, nm, qn] → go.slots = #[] → (∀ h : Heap, (h.push go).get? h.objs.size = some go) →
      GMadeC X pins σ k W (.ref h'.objs.size) { s3 with gens := s3.gens.push (.fresh (gStart elt tg iter ifs scope gpos it (genEnv scope cl s3.heap.objs.size (.ref c) builtinsNs X.env))), toks := tk2, heap := h'.push go } := by
    intro go nm qn tk2 hgc hgd hgs hgp
    have hgen : ∀ h : Heap, h.get? h'.objs.size = some go → h.IsGen h'.objs.size s3.gens.size := fun h e => ⟨go, nm, qn, e, hgc, hgd, hgs⟩
    have hpushed : (h'.push go).get? h'.objs.size = some go := hgp _
    have lim3 := I3.nolimit
    refine ⟨h'.objs.size, s3.gens.size, _, s3, H3, fp, rfl, I3, fun b hb => ⟨(f3 b hb).1.2.2.2.1, (f3 b hb).1.2.1, (f3 b hb).1.2.2.2.2.1, (f3 b hb).1.2.2.2.2.2⟩, Nat.le_of_lt sz3, ?_, hgen _ hpushed, Array.getElem?_push_size .., rfl, AllBare.push I3.bare rfl,
      lim3.keeps fun b o e => Heap.get?_push_of_some _ (kp3 b o e), fun b o e => Heap.get?_push_of_some _ (kp3 b o e), ?_⟩
    · show _ < (h'.push go).objs.size
      rw [Heap.size_push]; exact Nat.lt_succ_self _
    intro A Sx CR s2w hrA hfr hSx stable kw cr0 osw bw
    generalize hce : genEnv scope cl s3.heap.objs.size (.ref c) builtinsNs X.env = cenv
    have hfr' : (A.deeper cenv).frames = some (cenv :: X.stack) := Around.frames_deeper hfr
    have I4 : Inv (gx X (A.deeper cenv) s3 H3 scope s3.heap.objs.size cl (.ref c) fp []) [] (wipe σ (own.map (·.2))) H3 { s3 with heap := h', toks := s3.toks + 1 } := by
      subst hcl
      exact gx_start I3 ok.blk hN f3 hrA.hd (by rw [hce]; exact hfr') hns hsb
    have kw' : ∀ b o, h'.get? b = some o → s2w.heap.get? b = some o := fun b o e => kw b o (Heap.get?_push_of_some _ e)
    have I5 : Inv (gx X (A.deeper cenv) s3 H3 scope s3.heap.objs.size cl (.ref c) fp []) [] (wipe σ (own.map (·.2))) H3 s2w :=
      I4.call' (ch := []) osw (Un.kept kw') (I4.hok.kept kw') bw fun b z => by simp at z
    have young : ∀ b, h'.objs.size ≤ b → H3 b = none ∧ b ≠ s3.heap.objs.size ∧ b ∉ frs X.stack ∧ s3.heap.objs.size ≤ b ∧ ∀ y c', cl.lookup y = some c' → c' ≠ b := fun b hb => by
      refine ⟨I4.hok.fresh hb, Nat.ne_of_gt (Nat.lt_of_lt_of_le sz3 hb), I4.nofs hb, Nat.le_of_lt (Nat.lt_of_lt_of_le sz3 hb), fun y c' e z => ?_⟩
      obtain ⟨v, q⟩ := I4.cell y c' e
      have := q.lt
      rw [z] at this
      exact absurd (Nat.lt_of_lt_of_le this hb) (Nat.lt_irrefl _)
    have hSy : ∀ b ∈ Sx, h'.objs.size < b := fun b hb => by
      have h1 := (hSx b hb).1
      have h1 : (h'.push go).objs.size ≤ b := h1
      rw [Heap.size_push] at h1
      exact h1
    have hea : s2w.heap.get? h'.objs.size = some go := kw _ _ hpushed
    have I6 : Inv (gx X (A.deeper cenv) s3 H3 scope s3.heap.objs.size cl (.ref c) fp [(h'.objs.size, go)]) (pinsAt Sx s2w.heap) (wipe σ (own.map (·.2))) H3 s2w := by
      refine gx_pinned I5 fun p hp => ?_
      rcases List.mem_append.mp hp with z | z
      · rw [List.mem_singleton.mp z]
        obtain ⟨y1, y2, y3, _, _⟩ := young h'.objs.size (Nat.le_refl _)
        exact ⟨hea, y1, y2, y3, fun v q => by rw [hgd] at q; cases q⟩
      · obtain ⟨hb, e⟩ := of_pinsAt z
        obtain ⟨y1, y2, y3, _, _⟩ := young p.1 (Nat.le_of_lt (hSy p.1 hb))
        refine ⟨e, y1, y2, y3, fun v q => ?_⟩
        obtain ⟨_, o, e2, d⟩ := hSx p.1 hb
        rw [e] at e2
        cases e2
        exact d v q
    have hAp : ApartC (gx X (A.deeper cenv) s3 H3 scope s3.heap.objs.size cl (.ref c) fp [(h'.objs.size, go)]) Sx := fun b hb => by
      have h1 := hSy b hb
      obtain ⟨_, y2, _, y4, y5⟩ := young b (Nat.le_of_lt h1)
      refine ⟨y4, y2, y5, fun p hp => ?_, fun hf => ?_⟩
      · rw [List.mem_singleton.mp hp]; exact Nat.ne_of_lt h1
      · exact absurd (Nat.lt_trans (Nat.lt_trans (f3 b hf).2 sz3) h1) (Nat.lt_irrefl _)
    have hfp : ∀ b ∈ fp, b ∈ (gx X (A.deeper cenv) s3 H3 scope s3.heap.objs.size cl (.ref c) fp [(h'.objs.size, go)]).ex ∧ b ≠ s3.heap.objs.size ∧ b ∉ frs X.stack ∧ (∀ x c', cl.lookup x = some c' → c' ≠ b) ∧ ∀ p ∈ [(h'.objs.size, go)], p.1 ≠ b := fun b hb => by
      refine ⟨hb, (I4.ok.exf b hb).1, I4.ok.exfs b hb, (I4.ok.exf b hb).2, fun p hp => ?_⟩
      rw [List.mem_singleton.mp hp]
      have := (f3 b hb).2
      exact Nat.ne_of_gt (Nat.lt_trans this sz3)
    have kfp : ∀ b ∈ fp, ∀ o, s3.heap.get? b = some o → s2w.heap.get? b = some o := fun b _ o e => kw' b o (kp3 b o e)
    have cxg : CodeX (gx X (A.deeper cenv) s3 H3 scope s3.heap.objs.size cl (.ref c) fp [(h'.objs.size, go)]) := ⟨c, P', rfl, .inr hm⟩
    have hrk : Room k (A.deeper cenv) := hrA.deeper cenv
    have gfacts : ∀ {σ' : L2.St} {H' : Hp} {s' : Shared} {pl : List (Addr × Obj)}, Inv (gx X (A.deeper cenv) s3 H3 scope s3.heap.objs.size cl (.ref c) fp [(h'.objs.size, go)]) pl σ' H' s' → (∀ b ∈ Sx, H' b = none) → GFacts X s3 H3 fp Sx h'.objs.size s3.gens.size H' s' := fun {σ' H' s' pl} I' ap =>
      ⟨I'.os, I'.bare, I'.base, I'.hok, ap, I'.nolimit, hgen _ (I'.pin (h'.objs.size, go) (List.mem_append_left _ (List.mem_singleton.mpr rfl))).1⟩
    refine seg_imp (R := GrE (gx X (A.deeper cenv) s3 H3 scope s3.heap.objs.size cl (.ref c) fp [(h'.objs.size, go)]) Sx CR W) (Y := GrY (gx X (A.deeper cenv) s3 H3 scope s3.heap.objs.size cl (.ref c) fp [(h'.objs.size, go)]) Sx CR W) (fun n s₀ r s' hR => ?_) (fun n s₀ v s' kap kap' hkk hY => ?_) W.N ?_
    · obtain ⟨rfl, ys, σ', H', hn, I', ap, cr, eq⟩ := hR
      exact .inl ⟨.inr rfl, ys, H', hn, gfacts I' ap, cr, eq⟩
    · obtain ⟨ys, x, σ', H', pl, hn, rx, I', ap, cr, rq, hk⟩ := hY
      exact ⟨ys, x, H', hn, rx, gfacts I' ap, cr, rq, fun s'' h1 h2 h3 => hkk _ _ (hk s'' h1 h2 h3)⟩
    · have hov : A.deeper (gx X (A.deeper cenv) s3 H3 scope s3.heap.objs.size cl (.ref c) fp [(h'.objs.size, go)]).env = (gx X (A.deeper cenv) s3 H3 scope s3.heap.objs.size cl (.ref c) fp [(h'.objs.size, go)]).A := by
        show A.deeper (genEnv scope cl s3.heap.objs.size (.ref c) builtinsNs X.env) = A.deeper cenv
        rw [hce]
      have hst : tn 0 s2w.heap := T.keep _ _ _ st3 kfp
      rw [← hce] at *
      exact seg_gStart (X := gx X (A.deeper (genEnv scope cl s3.heap.objs.size (.ref c) builtinsNs X.env)) s3 H3 scope s3.heap.objs.size cl (.ref c) fp [(h'.objs.size, go)]) hov T hst
        (seg_gLoop (X := gx X (A.deeper (genEnv scope cl s3.heap.objs.size (.ref c) builtinsNs X.env)) s3 H3 scope s3.heap.objs.size cl (.ref c) fp [(h'.objs.size, go)]) hov hc T hfp (hg ..) (ht _ _ _ _ _ _ _ _ hrk cxg) (he _ _ _ _ _ _ _ _ hrk cxg) ok.co rfl hAp stable turn m0 0 W.N [] s2w s2w H3 (Nat.add_zero _) w0 I6 (fun b hb => let ⟨_, o, e, _⟩ := hSx b hb; ⟨o, e⟩) hst (fun b hb => (f3 b hb).1.1) cr0)
  subst hcl
  exact goal _ _ _ _ rfl rfl rfl fun h => Heap.get?_push_size _ rfl
end
end DL
set_option Elab.async false
set_option linter.all false
set_option maxRecDepth 100000
set_option maxHeartbeats 2000000
/-! generator expressions: tuple, all, any -/
namespace DL
open PySem PySem.Spec PyProof.Rows L2 GenW
open Sem (wp)

section
variable {X : Cx} {pins : List (Addr × Obj)} {σ : L2.St} {H H' : Hp} {sc s s1 : Shared} {fp Sx : List Addr} {a : Addr} {g : Nat}
theorem GFacts.inv (F : GFacts X sc H fp Sx a g H' s) (I : Inv X pins σ H sc) (ex : ExOk X pins fp) : Inv X pins σ H' s := I.call' (ch := fp) F.os F.un F.hok F.bare ex
theorem GFacts.kept {h' : Heap} {x : GenState} (F : GFacts X sc H fp Sx a g H' s) (hx : x.bare = true) (k : ∀ b o, s.heap.get? b = some o → h'.get? b = some o) : GFacts X sc H fp Sx a g H' { s.setGen g x with heap := h' } :=
  ⟨F.os, allBare_setGen F.bare hx, F.un.trans (Un.kept k), F.hok.kept k, F.apart, F.lim.keeps k, F.gen.keeps k⟩
theorem GFacts.set {x : GenState} (F : GFacts X sc H fp Sx a g H' s) (hx : x.bare = true) : GFacts X sc H fp Sx a g H' (s.setGen g x) := F.kept hx fun _ _ e => e
end

/-- the consumer's list -/
def LstC (S : Addr) : List V → Heap → Prop := fun ys h => ∃ (acc : Array Value) (c : Nat), h.get? S = some (lstObj acc c) ∧ Vals ys acc.toList
section
variable {X : Cx} {pins : List (Addr × Obj)} {σ : L2.St} {H : Hp} {sc : Shared} {fp : List Addr} {W : Wish}
theorem drainC {A : Around} {R : Result → Shared → Prop} {S a : Addr} {g : Nat} {res : Value} (hh : A.handled = none) (hd : A.depth < recursionLimit) (hSa : S ≠ a) (hSc : S ≠ cStatics) (hgo : ∀ x, W.go x) (hN : W.N ≤ sizeLine)
    (hend : ∀ s' ys H', GFacts X sc H fp [S] a g H' s' → LstC S ys s'.heap → W.EQ ys H' → ys.length ≤ W.N → R (.ok (.ret res)) s') :
    ∀ (m : Nat) (s : Shared), s.heap.IsGen a g → s.heap.NoLimit →
      (∃ gs, s.gens[g]? = some gs ∧ gs.Goes (model X.prog X.w) A.in1.in1 (GmE X sc H fp [S] a g (LstC S) W) (GmY X sc H fp [S] a g (LstC S) W) m (.send .none) (s.setGen g .running)) →
      codeAny (model X.prog X.w) A (.builtin "list.extend.loop" ⟨[.ref S, .ref a, res], []⟩) R s := by
  have goes : ∀ {gs : GenState} {B : Around} {n : Nat} {r : Resume} {s : Shared}, gs.Goes (model X.prog X.w) B (GmE X sc H fp [S] a g (LstC S) W) (GmY X sc H fp [S] a g (LstC S) W) n r s →
      gs.Goes (model X.prog X.w) B (fun n s₀ r s1 => ((r = .ok (.ret .none) ∨ r = .ok .next) ∧ (∃ ys H', n + ys.length = W.N ∧ GFacts X sc H fp [S] a g H' s1 ∧ LstC S ys s1.heap ∧ W.EQ ys H')) ∨ ∃ e, r = .error e ∧ False) (GmY X sc H fp [S] a g (LstC S) W) n r s := fun h => h
  have fin : ∀ {s1 : Shared} {n : Nat} {h' : Heap}, (∃ ys H', n + ys.length = W.N ∧ GFacts X sc H fp [S] a g H' s1 ∧ LstC S ys s1.heap ∧ W.EQ ys H') → (∀ b o, s1.heap.get? b = some o → h'.get? b = some o) → R (.ok (.ret res)) { s1.setGen g .finished with heap := h' } := fun {s1 n h'} ⟨ys, H', hn, F, ⟨acc, c, e, r⟩, eq⟩ hk =>
    hend _ ys H' (F.kept rfl hk) ⟨acc, c, hk _ _ e, r⟩ eq (by omega)
  intro m
  induction m with
  | zero =>
    intro s hg hl ⟨gs, hgs, hgo'⟩
    refine codeAny_builtin F.entry_extend_loop ?_
    rw [Around.under_plainId F.plain_extend_loop _]
    show wpAny _ A.in1 (pyNext (.ref a) >>= _) _ _ s
    refine wpAny_bind (next_genG (A := A.in1) (Er := fun _ _ => False) hh hl hd hg hgs (goes hgo') (fun v s₁ gs' hbare hv => ?_) (fun s₁ hp h' hk => ?_) fun e s₁ he => he.elim)
    · obtain ⟨ys, x, H', hn, rx, F, ⟨acc, c, e, r⟩, rq, hk⟩ := hv
      refine False.elim (hk { s₁ with heap := s₁.heap.update S (Obj.mapSeq (·.push v)) } (hgo x) ⟨rfl, F.bare, fun b o hb e => ?_, fun b hb => ?_⟩ ⟨acc.push v, _, Heap.get?_update_self _ e rfl, ?_⟩)
      · exact (Heap.get?_update_other _ _ (fun z => hb (by rw [z]; exact List.mem_singleton.mpr rfl))).trans e
      · rw [List.mem_singleton.mp hb]
        exact ⟨_, Heap.get?_update_self _ e rfl, fun v q => by cases q⟩
      · rw [Array.toList_push]
        exact r.append (.cons rx .nil)
    · exact wpAny_pure (fin hp hk)
  | succ m ih =>
    intro s hg hl ⟨gs, hgs, hgo'⟩
    have hgl : g < s.gens.size := (Array.getElem?_eq_some_iff.mp hgs).1
    refine codeAny_builtin F.entry_extend_loop ?_
    rw [Around.under_plainId F.plain_extend_loop _]
    show wpAny _ A.in1 (pyNext (.ref a) >>= _) _ _ s
    refine wpAny_bind (wpAny_gsz (n := g + 1) hgl (next_genG (A := A.in1) (Er := fun _ _ => False) hh hl hd hg hgs (goes hgo') (fun v s₁ gs' hbare hv => ?_) (fun s₁ hp h' hk => ?_) fun e s₁ he => he.elim))
    · intro hsz
      obtain ⟨ys, x, H', hn, rx, Fa, ⟨acc, c, hS1, r⟩, rq, hk⟩ := hv
      have hasz : acc.size = ys.length := by
        have e1 := r.length
        have e2 : acc.toList.length = acc.size := by simp
        omega
      have hasz' : acc.size < sizeLine := by omega
      show wpAny _ A.in1 (updateSeq S (·.push v) >>= _) _ _ _
      refine wpAny_bind ?_
      refine wpAny_updateSeq hS1 rfl (wpAny_pure ⟨plainId_quiet F.plain_extend_loop _, ?_⟩) (Nat.le_of_lt hasz') (by show (acc.push v).size ≤ sizeLine + 1; rw [Array.size_push]; omega)
      have keep3 : ∀ b o, b ≠ S → s₁.heap.get? b = some o → (s₁.heap.update S (Obj.mapSeq (·.push v))).get? b = some o := fun b o hbS e => (Heap.get?_update_other _ _ (Ne.symm hbS)).trans e
      have hsz1 : g < s₁.gens.size := by
        have q : (s₁.setGen g gs').gens.size = s₁.gens.size := setGen_size _ _ _
        have hsz' : g + 1 ≤ (s₁.setGen g gs').gens.size := hsz
        omega
      refine ih { s₁.setGen g gs' with heap := s₁.heap.update S (Obj.mapSeq (·.push v)) } ?_ ?_ ⟨gs', setGen_at hsz1, ?_⟩
      · obtain ⟨o, nm, qn, ho, r⟩ := Fa.gen
        exact ⟨o, nm, qn, keep3 a o (Ne.symm hSa) ho, r⟩
      · obtain ⟨mc, hns, hnn⟩ := Fa.lim
        exact ⟨mc, hns.at' fun o e => keep3 _ o (Ne.symm hSc) e, hnn⟩
      · refine hk _ (hgo x) ⟨rfl, allBare_setGen (s := s₁.setGen g gs') (allBare_setGen Fa.bare hbare) rfl, fun b o hb e => keep3 b o (fun z => hb (by rw [z]; exact List.mem_singleton.mpr rfl)) e, fun b hb => ?_⟩ ⟨acc.push v, _, Heap.get?_update_self _ hS1 rfl, ?_⟩
        · rw [List.mem_singleton.mp hb]
          exact ⟨_, Heap.get?_update_self _ hS1 rfl, fun v q => by cases q⟩
        · rw [Array.toList_push]
          exact r.append (.cons rx .nil)
    · intro hsz
      exact wpAny_pure (fin hp hk)
/-- all that it hands out -/
theorem collectC {A : Around} {k : Nat} {u : Value} {s : Shared} {E : Value → Shared → Prop} {Q : List Value → Shared → Prop} (hr : Room (k + 1) A.in1.in1) (hfr : A.frames = some X.stack) (hgo : ∀ x, W.go x) (hN : W.N ≤ sizeLine) (h : GMadeC X pins σ k W u s)
    (hQ : ∀ ys acc H' s', Inv X pins σ H' s' → Vals ys acc → W.EQ ys H' → ys.length ≤ W.N → Q acc s') : wpAny (model X.prog X.w) A (collect u) Q E s := by
  obtain ⟨a, g, c, sc, H, fp, rfl, I, ex, ha1, ha2, hg, hgs, hos, hb, hl, hkp, wake⟩ := h
  have hSa : s.heap.objs.size ≠ a := Nat.ne_of_gt ha2
  have hcl : cStatics < s.heap.objs.size := let ⟨_, hn, _⟩ := hl; hn.lt
  have hSc : s.heap.objs.size ≠ cStatics := Nat.ne_of_gt hcl
  have hh : A.handled = none := hr.hd
  have hdp : A.depth < recursionLimit := by have := hr.dp; have : A.depth + 3 * (k + 1) + 5 < recursionLimit := this; omega
  unfold collect
  refine wpAny_bind (wpAny_runValue (codeAny_builtin F.entry_proto_collect ?_))
  rw [Around.under_plainId F.plain_proto_collect _]
  show wpAny _ A.in1 (newList [] >>= fun l => again (.builtin "list.__iadd__" ⟨[l, .ref a], []⟩)) _ _ s
  refine wpAny_bind (wpAny_newObj_type ?_)
  refine wpAny_pure ⟨plainId_quiet F.plain_list_iadd _, codeAny_builtin F.entry_list_iadd ?_⟩
  rw [Around.under_plainId F.plain_list_iadd _]
  have k1 : ∀ b o, s.heap.get? b = some o → (s.heap.push { cls := .type "list", data := .seq ([] : List Value).toArray }).get? b = some o := fun b o e => Heap.get?_push_of_some _ e
  have up : ∀ (h : Heap) (f : Obj → Obj), (∀ b o, s.heap.get? b = some o → h.get? b = some o) → ∀ b o, s.heap.get? b = some o → (h.update s.heap.objs.size f).get? b = some o := fun h f q b o e =>
    (Heap.get?_update_other _ _ (Ne.symm (Nat.ne_of_lt (Heap.lt_size e)))).trans (q b o e)
  have gty : ∀ {h : Heap}, (∀ b o, s.heap.get? b = some o → h.get? b = some o) → h.IsGen a g := fun {h} q => hg.keeps q
  show wpAny _ A.in1 (Builtin.List.listExtendWith (.ref s.heap.objs.size) (.ref a) (.ref s.heap.objs.size)) _ _ _
  unfold Builtin.List.listExtendWith
  refine wpAny_bind (wpAny_typeOf (Heap.IsGen.typeIs (s := { s with heap := _ }) (gty k1)) ?_)
  have h1 : Builtin.List.listSameRef (.ref s.heap.objs.size) (.ref a) = false := by simp [Builtin.List.listSameRef, hSa]
  have h2 : (Value.type "generator" == Value.type "list") = false := by decide
  have h3 : (Value.type "generator" == Value.type "tuple") = false := by decide
  simp only [h1, h2, h3, Bool.or_false, Bool.false_eq_true, if_false]
  refine wpAny_bind (wpAny_pyIter_gen (s := { s with heap := _ }) (gty k1) ?_)
  refine wpAny_bind (wpAny_holding ?_)
  unfold Builtin.List.listLengthHint
  refine wpAny_bind (wpAny_specialOf (Heap.IsGen.typeIs (s := { s with heap := _ }) (gty k1)) F.gen_no_len ?_)
  show wpAny _ A.in1 (specialOf (Value.ref a) (Str.ofString "__length_hint__") >>= _) _ _ _
  refine wpAny_bind (wpAny_specialOf (Heap.IsGen.typeIs (s := { s with heap := _ }) (gty k1)) F.gen_no_hint ?_)
  refine wpAny_pure ?_
  show wpAny _ A.in1 (rule "list.extend.makes-room" >>= fun _ => Builtin.List.listTouch (.ref s.heap.objs.size) >>= fun _ =>
    again (.builtin "list.extend.loop" ⟨[.ref s.heap.objs.size, .ref a, .ref s.heap.objs.size], []⟩)) _ _ _
  refine wpAny_bind (wpAny_rule ?_)
  have hS1 : (s.heap.push { cls := .type "list", data := .seq ([] : List Value).toArray }).get? s.heap.objs.size = some { cls := .type "list", data := .seq ([] : List Value).toArray } := Heap.get?_push_size _ rfl
  refine wpAny_bind ?_
  show wpAny _ A.in1 (updateSeq s.heap.objs.size (·.push .none) >>= fun _ => updateSeq s.heap.objs.size (·.pop)) _ _ _
  refine wpAny_bind (wpAny_updateSeq hS1 rfl ?_)
  have hS2 := Heap.get?_update_self (Obj.mapSeq (·.push Value.none)) hS1 rfl
  refine wpAny_updateSeq hS2 rfl ?_
  have hS3 := Heap.get?_update_self (Obj.mapSeq (·.pop)) hS2 rfl
  have k3 := up _ (Obj.mapSeq (·.pop)) (up _ (Obj.mapSeq (·.push Value.none)) k1)
  refine wpAny_pure ⟨plainId_quiet F.plain_extend_loop _, ?_⟩
  refine drainC (sc := sc) (H := H) (fp := fp) (W := W) (X := X) (g := g) hh hdp hSa hSc hgo hN (fun s' ys H' Fa hL eq hle => ?_) W.N _ (gty k3) (hl.keeps k3) ⟨_, hgs, rfl, ?_⟩
  · obtain ⟨acc, cc, e, r⟩ := hL
    show wpAny _ A (load s.heap.objs.size >>= _) _ _ s'
    refine wpAny_bind (wpAny_load e ?_)
    exact wpAny_pure (hQ ys acc.toList H' s' (Fa.inv I ex) r eq hle)
  · refine wake _ [s.heap.objs.size] (LstC s.heap.objs.size) _ hr hfr (fun b hb => ?_) (fun ys h h' cr hk => ?_) k3 ⟨_, _, hS3, .nil⟩ hos (allBare_setGen (s := { s with heap := _ }) hb rfl)
    · rw [List.mem_singleton.mp hb]
      exact ⟨Nat.le_refl _, _, hS3, fun v q => by cases q⟩
    · obtain ⟨acc, cc, e, r⟩ := cr
      exact ⟨acc, cc, hk _ (List.mem_singleton.mpr rfl) _ e, r⟩
/-- tuple(g) -/
theorem call_tupleC {A : Around} {k : Nat} {u : Value} {s : Shared} {E : Value → Shared → Prop} {Q : Value → Shared → Prop} (hr : Room (k + 2) A) (hfr : A.frames = some X.stack) (hgo : ∀ x, W.go x) (hN : W.N ≤ sizeLine) (h : GMadeC X pins σ k W u s)
    (hQ : ∀ ys H' p s', H' p = none → Inv X pins σ (upd H' p (.tup ys)) s' → W.EQ ys H' → Q (.ref p) s') : wpAny (model X.prog X.w) A (call (.type "tuple") [u]) Q E s := by
  obtain ⟨a, g, c, rfl⟩ : ∃ (a : Addr) (g : Nat) (c : Code), u = .ref a := by obtain ⟨a, g, c, _, _, _, e, _⟩ := id h; exact ⟨a, g, c, e⟩
  have hTI : s.TypeIs (.ref a) "generator" := by
    obtain ⟨a', g', c', _, _, _, e, _, _, _, _, hg, _⟩ := id h
    cases e
    exact hg.typeIs
  have hr2 : Room (k + 1) A.in1.in1.in1.in1 := ⟨hr.hd, by have := hr.dp; show A.depth + 3 * (k + 1) + 5 < _; omega, by have := hr.un; show A.units + 1 + 1 + 1 + 1 + 16 * (k + 1) + 200 < _; omega⟩
  have coll : ∀ {E' : Value → Shared → Prop} {Q' : List Value → Shared → Prop}, (∀ ys acc H' s', Inv X pins σ H' s' → Vals ys acc → W.EQ ys H' → ys.length ≤ W.N → Q' acc s') → wpAny (model X.prog X.w) A.in1.in1 (collect (.ref a)) Q' E' s := fun {E' Q'} hq =>
    collectC (A := A.in1.in1) hr2 hfr hgo hN h hq
  refine callType_codes (Q₁ := fun obj s₁ => s₁.TypeIs obj "tuple" ∧ Q obj s₁) F.called_tuple (F.typeCall_tuple_1 _) F.entry_object_init ?_ fun obj s₁ h₁ => ?_
  rotate_left
  · exact ⟨h₁.1, F.args_object_init_2 obj _, object_init_meets F.called_tuple.init.lookup F.called_tuple.made (by decide) X.prog X.w A.in1 _ s₁ ⟨h₁.1, rfl, h₁.2⟩⟩
  · refine codeAny_of_tree ?_
    show wpAny _ A.in1.in1 (do checkBuiltinCall "tuple.__new__" ⟨[.type "tuple", .ref a], []⟩; again (.builtin "tuple.__new__" ⟨[.type "tuple", .ref a], []⟩)) _ _ s
    refine wpAny_bind (wpAny_of_eq (F.newCall_tuple_1 _) (wpAny_pure ⟨plainId_quiet F.plain_tuple_new _, codeAny_builtin F.entry_tuple_new ?_⟩))
    rw [Around.under_plainId F.plain_tuple_new _]
    have hsub := sub_tuple_self
    have hinit := init_tuple_lookup
    have hmh := madeHere_tuple
    wp_walk using wpAny_typeOf hTI, coll
    intro ys acc H' s' I' r eq hle
    show wpAny _ _ (Builtin.Tuple.tupleExact acc.toArray >>= fun v => ret v) _ _ _
    unfold Builtin.Tuple.tupleExact
    have hlen : acc.length = ys.length := r.length.symm
    refine wpAny_bind (wpAny_newObj_type ?_ (by show acc.toArray.size ≤ sizeLine; simp only [List.size_toArray]; omega))
    refine wpAny_pure ?_
    refine ⟨⟨_, Heap.get?_push_size _ rfl, rfl⟩, hQ ys H' _ _ (I'.hok.fresh (Nat.le_refl _)) ?_ eq⟩
    refine I'.laid (t' := s'.toks) (fun b o e => Heap.get?_push_of_some _ e) (Nat.le_refl _) ⟨by omega, acc, r, ?_⟩
    exact ⟨_, Heap.get?_push_size _ rfl, rfl, _, rfl⟩
end
end DL
set_option Elab.async false
set_option linter.all false
set_option maxRecDepth 100000
set_option maxHeartbeats 2000000
/-! generator expressions: as functions of data -/
namespace DL
open PySem PySem.Spec PyProof.Rows L2 GenW
open Sem (wp)

/-! ### all, any -/
def boolW (dec : Bool) (P : Bool → Hp → Prop) : Wish := { N := sizeLine, go := fun x => x = .bl (!dec), RQ := fun _ x H => ∃ k, x = .bl k ∧ (k = dec → P dec H), EQ := fun _ H => P (!dec) H }
section
variable {X : Cx} {pins : List (Addr × Obj)} {σ : L2.St} {H : Hp} {sc : Shared} {fp : List Addr} {P : Bool → Hp → Prop}
theorem walkAll {A : Around} {R : Result → Shared → Prop} {a : Addr} {g : Nat} (hh : A.handled = none) (hd : A.depth < recursionLimit) (hend : ∀ s' k H', GFacts X sc H fp [] a g H' s' → P k H' → R (.ok (.ret (.bool k))) s') :
    ∀ (m : Nat) (s : Shared), s.heap.IsGen a g → s.heap.NoLimit →
      (∃ gs, s.gens[g]? = some gs ∧ gs.Goes (model X.prog X.w) A.in1.in1 (GmE X sc H fp [] a g (fun _ _ => True) (boolW false P)) (GmY X sc H fp [] a g (fun _ _ => True) (boolW false P)) m (.send .none) (s.setGen g .running)) →
      codeAny (model X.prog X.w) A (.builtin "all.loop" ⟨[.ref a], []⟩) R s := by
  have goes : ∀ {gs : GenState} {B : Around} {n : Nat} {r : Resume} {s : Shared}, gs.Goes (model X.prog X.w) B (GmE X sc H fp [] a g (fun _ _ => True) (boolW false P)) (GmY X sc H fp [] a g (fun _ _ => True) (boolW false P)) n r s →
      gs.Goes (model X.prog X.w) B (fun n s₀ r s1 => ((r = .ok (.ret .none) ∨ r = .ok .next) ∧ (∃ ys H', n + ys.length = (boolW false P).N ∧ GFacts X sc H fp [] a g H' s1 ∧ True ∧ (boolW false P).EQ ys H')) ∨ ∃ e, r = .error e ∧ False) (GmY X sc H fp [] a g (fun _ _ => True) (boolW false P)) n r s := fun h => h
  intro m
  induction m with
  | zero =>
    intro s hg hl ⟨gs, hgs, hgo'⟩
    refine codeAny_builtin F.entry_all_loop ?_
    rw [Around.under_plainId F.plain_all_loop _]
    show wpAny _ A.in1 (pyNext (.ref a) >>= _) _ _ s
    refine wpAny_bind (next_genG (A := A.in1) (Er := fun _ _ => False) hh hl hd hg hgs (goes hgo') (fun v s₁ gs' hbare hv => ?_) (fun s₁ hp h' hk => ?_) fun e s₁ he => he.elim)
    · obtain ⟨ys, x, H', hn, rx, Fa, _, ⟨k, rfl, hq⟩, hk⟩ := hv
      obtain rfl : v = Value.bool k := rx
      refine wpAny_bind (wpAny_holding (wpAny_truthy_bool ?_))
      refine wpAny_bind (wpAny_letGo ?_)
      cases k with
      | true => exact (hk s₁ rfl ⟨rfl, Fa.bare, fun b o _ e => e, fun b hb => by cases hb⟩ trivial).elim
      | false =>
        simp only [Bool.false_eq_true, if_false]
        exact wpAny_bind (wpAny_rule (wpAny_pure (hend _ false H' (Fa.set hbare) (hq rfl))))
    · obtain ⟨ys, H', hn, Fa, _, eq⟩ := hp
      exact wpAny_bind (wpAny_rule (wpAny_pure (hend _ true H' (Fa.kept rfl hk) eq)))
  | succ m ih =>
    intro s hg hl ⟨gs, hgs, hgo'⟩
    have hgl : g < s.gens.size := (Array.getElem?_eq_some_iff.mp hgs).1
    refine codeAny_builtin F.entry_all_loop ?_
    rw [Around.under_plainId F.plain_all_loop _]
    show wpAny _ A.in1 (pyNext (.ref a) >>= _) _ _ s
    refine wpAny_bind (wpAny_gsz (n := g + 1) hgl (next_genG (A := A.in1) (Er := fun _ _ => False) hh hl hd hg hgs (goes hgo') (fun v s₁ gs' hbare hv => ?_) (fun s₁ hp h' hk => ?_) fun e s₁ he => he.elim))
    · intro hsz
      obtain ⟨ys, x, H', hn, rx, Fa, _, ⟨k, rfl, hq⟩, hk⟩ := hv
      obtain rfl : v = Value.bool k := rx
      refine wpAny_bind (wpAny_holding (wpAny_truthy_bool ?_))
      refine wpAny_bind (wpAny_letGo ?_)
      cases k with
      | true =>
        simp only [if_true]
        have hsz1 : g < s₁.gens.size := by
          have q : (s₁.setGen g gs').gens.size = s₁.gens.size := setGen_size _ _ _
          have hsz' : g + 1 ≤ (s₁.setGen g gs').gens.size := hsz
          omega
        refine wpAny_pure ⟨plainId_quiet F.plain_all_loop _, ih (s₁.setGen g gs') (Fa.set hbare).gen (Fa.set hbare).lim ⟨gs', setGen_at hsz1, ?_⟩⟩
        exact hk _ rfl ⟨rfl, allBare_setGen (s := s₁.setGen g gs') (allBare_setGen Fa.bare hbare) rfl, fun b o _ e => e, fun b hb => by cases hb⟩ trivial
      | false =>
        simp only [Bool.false_eq_true, if_false]
        exact wpAny_bind (wpAny_rule (wpAny_pure (hend _ false H' (Fa.set hbare) (hq rfl))))
    · intro hsz
      obtain ⟨ys, H', hn, Fa, _, eq⟩ := hp
      exact wpAny_bind (wpAny_rule (wpAny_pure (hend _ true H' (Fa.kept rfl hk) eq)))
theorem walkAny {A : Around} {R : Result → Shared → Prop} {a : Addr} {g : Nat} (hh : A.handled = none) (hd : A.depth < recursionLimit) (hend : ∀ s' k H', GFacts X sc H fp [] a g H' s' → P k H' → R (.ok (.ret (.bool k))) s') :
    ∀ (m : Nat) (s : Shared), s.heap.IsGen a g → s.heap.NoLimit →
      (∃ gs, s.gens[g]? = some gs ∧ gs.Goes (model X.prog X.w) A.in1.in1 (GmE X sc H fp [] a g (fun _ _ => True) (boolW true P)) (GmY X sc H fp [] a g (fun _ _ => True) (boolW true P)) m (.send .none) (s.setGen g .running)) →
      codeAny (model X.prog X.w) A (.builtin "any.loop" ⟨[.ref a], []⟩) R s := by
  have goes : ∀ {gs : GenState} {B : Around} {n : Nat} {r : Resume} {s : Shared}, gs.Goes (model X.prog X.w) B (GmE X sc H fp [] a g (fun _ _ => True) (boolW true P)) (GmY X sc H fp [] a g (fun _ _ => True) (boolW true P)) n r s →
      gs.Goes (model X.prog X.w) B (fun n s₀ r s1 => ((r = .ok (.ret .none) ∨ r = .ok .next) ∧ (∃ ys H', n + ys.length = (boolW true P).N ∧ GFacts X sc H fp [] a g H' s1 ∧ True ∧ (boolW true P).EQ ys H')) ∨ ∃ e, r = .error e ∧ False) (GmY X sc H fp [] a g (fun _ _ => True) (boolW true P)) n r s := fun h => h
  intro m
  induction m with
  | zero =>
    intro s hg hl ⟨gs, hgs, hgo'⟩
    refine codeAny_builtin F.entry_any_loop ?_
    rw [Around.under_plainId F.plain_any_loop _]
    show wpAny _ A.in1 (pyNext (.ref a) >>= _) _ _ s
    refine wpAny_bind (next_genG (A := A.in1) (Er := fun _ _ => False) hh hl hd hg hgs (goes hgo') (fun v s₁ gs' hbare hv => ?_) (fun s₁ hp h' hk => ?_) fun e s₁ he => he.elim)
    · obtain ⟨ys, x, H', hn, rx, Fa, _, ⟨k, rfl, hq⟩, hk⟩ := hv
      obtain rfl : v = Value.bool k := rx
      refine wpAny_bind (wpAny_holding (wpAny_truthy_bool ?_))
      refine wpAny_bind (wpAny_letGo ?_)
      cases k with
      | false => exact (hk s₁ rfl ⟨rfl, Fa.bare, fun b o _ e => e, fun b hb => by cases hb⟩ trivial).elim
      | true =>
        simp only [if_true]
        exact wpAny_bind (wpAny_rule (wpAny_pure (hend _ true H' (Fa.set hbare) (hq rfl))))
    · obtain ⟨ys, H', hn, Fa, _, eq⟩ := hp
      exact wpAny_bind (wpAny_rule (wpAny_pure (hend _ false H' (Fa.kept rfl hk) eq)))
  | succ m ih =>
    intro s hg hl ⟨gs, hgs, hgo'⟩
    have hgl : g < s.gens.size := (Array.getElem?_eq_some_iff.mp hgs).1
    refine codeAny_builtin F.entry_any_loop ?_
    rw [Around.under_plainId F.plain_any_loop _]
    show wpAny _ A.in1 (pyNext (.ref a) >>= _) _ _ s
    refine wpAny_bind (wpAny_gsz (n := g + 1) hgl (next_genG (A := A.in1) (Er := fun _ _ => False) hh hl hd hg hgs (goes hgo') (fun v s₁ gs' hbare hv => ?_) (fun s₁ hp h' hk => ?_) fun e s₁ he => he.elim))
    · intro hsz
      obtain ⟨ys, x, H', hn, rx, Fa, _, ⟨k, rfl, hq⟩, hk⟩ := hv
      obtain rfl : v = Value.bool k := rx
      refine wpAny_bind (wpAny_holding (wpAny_truthy_bool ?_))
      refine wpAny_bind (wpAny_letGo ?_)
      cases k with
      | false =>
        simp only [Bool.false_eq_true, if_false]
        have hsz1 : g < s₁.gens.size := by
          have q : (s₁.setGen g gs').gens.size = s₁.gens.size := setGen_size _ _ _
          have hsz' : g + 1 ≤ (s₁.setGen g gs').gens.size := hsz
          omega
        refine wpAny_pure ⟨plainId_quiet F.plain_any_loop _, ih (s₁.setGen g gs') (Fa.set hbare).gen (Fa.set hbare).lim ⟨gs', setGen_at hsz1, ?_⟩⟩
        exact hk _ rfl ⟨rfl, allBare_setGen (s := s₁.setGen g gs') (allBare_setGen Fa.bare hbare) rfl, fun b o _ e => e, fun b hb => by cases hb⟩ trivial
      | true =>
        simp only [if_true]
        exact wpAny_bind (wpAny_rule (wpAny_pure (hend _ true H' (Fa.set hbare) (hq rfl))))
    · intro hsz
      obtain ⟨ys, H', hn, Fa, _, eq⟩ := hp
      exact wpAny_bind (wpAny_rule (wpAny_pure (hend _ false H' (Fa.kept rfl hk) eq)))
theorem call_allC {A : Around} {k : Nat} {u : Value} {s : Shared} {E : Value → Shared → Prop} {Q : Value → Shared → Prop} (hr : Room (k + 2) A) (hfr : A.frames = some X.stack) (h : GMadeC X pins σ k (boolW false P) u s)
    (hQ : ∀ b H' s', Inv X pins σ H' s' → P b H' → Q (.bool b) s') : wpAny (model X.prog X.w) A (call (.builtin "all") [u]) Q E s := by
  obtain ⟨a, g, c, sc, H, fp, rfl, I, ex, ha1, ha2, hg, hgs, hos, hb, hl, hkp, wake⟩ := h
  refine call_function_tree F.kind_all F.plain_all F.entry_all (F.args_all1 _) ?_
  unfold Builtin.«all»
  refine wpAny_bind (m := oneArg "all" _) (wpAny_pure ?_)
  refine wpAny_bind (wpAny_pyIter_gen hg ?_)
  refine wpAny_pure ⟨plainId_quiet F.plain_all_loop _, walkAll (sc := sc) (H := H) (fp := fp) (g := g) (P := P) hr.hd (by have := hr.dp; omega) (fun s' b H' Fa hp => hQ b H' s' (Fa.inv I ex) hp) sizeLine s hg hl ⟨_, hgs, rfl, ?_⟩⟩
  exact wake A.in1.in1 [] (fun _ _ => True) _ ⟨hr.hd, by have := hr.dp; show A.depth + 3 * (k + 1) + 5 < _; omega, by have := hr.un; show A.units + 1 + 1 + 16 * (k + 1) + 200 < _; omega⟩ hfr (fun b hb => by cases hb) (fun _ _ _ _ _ => trivial) (fun b o e => e) trivial hos (allBare_setGen hb rfl)
theorem call_anyC {A : Around} {k : Nat} {u : Value} {s : Shared} {E : Value → Shared → Prop} {Q : Value → Shared → Prop} (hr : Room (k + 2) A) (hfr : A.frames = some X.stack) (h : GMadeC X pins σ k (boolW true P) u s)
    (hQ : ∀ b H' s', Inv X pins σ H' s' → P b H' → Q (.bool b) s') : wpAny (model X.prog X.w) A (call (.builtin "any") [u]) Q E s := by
  obtain ⟨a, g, c, sc, H, fp, rfl, I, ex, ha1, ha2, hg, hgs, hos, hb, hl, hkp, wake⟩ := h
  refine call_function_tree F.kind_any F.plain_any F.entry_any (F.args_any1 _) ?_
  unfold Builtin.«any»
  refine wpAny_bind (m := oneArg "any" _) (wpAny_pure ?_)
  refine wpAny_bind (wpAny_pyIter_gen hg ?_)
  refine wpAny_pure ⟨plainId_quiet F.plain_any_loop _, walkAny (sc := sc) (H := H) (fp := fp) (g := g) (P := P) hr.hd (by have := hr.dp; omega) (fun s' b H' Fa hp => hQ b H' s' (Fa.inv I ex) hp) sizeLine s hg hl ⟨_, hgs, rfl, ?_⟩⟩
  exact wake A.in1.in1 [] (fun _ _ => True) _ ⟨hr.hd, by have := hr.dp; show A.depth + 3 * (k + 1) + 5 < _; omega, by have := hr.un; show A.units + 1 + 1 + 16 * (k + 1) + 200 < _; omega⟩ hfr (fun b hb => by cases hb) (fun _ _ _ _ _ => trivial) (fun b o e => e) trivial hos (allBare_setGen hb rfl)
end
end DL
set_option Elab.async false
set_option linter.all false
set_option maxRecDepth 100000
set_option maxHeartbeats 2000000
/-! tuple(..), all(..), any(..) of a generator expression, by their data -/
namespace DL
open PySem PySem.Spec PyProof.Rows L2 GenW

@[simp] def dTupG (fi : Env → M (List D)) (g : DG) (t : Env → M Bool) (e : Env → M D) (vs : List Nat) : Env → M D := fun ρ => mbind (fi ρ) fun items =>
  if items.length ≤ sizeLine then mbind (compL g t e (dwipe ρ vs) items) fun ds => mret (.tup ds) else mbad
/-- dec decides: all False, any True -/
def boolL (dec : Bool) (g : DG) (t : Env → M Bool) (e : Env → M D) (ρ : Env) : List D → M Bool
  | [] => mret (!dec)
  | d :: r => match g d ρ with
    | none => mbad
    | some ρ1 => mbind (nox (t ρ1)) fun c => if c then mbind (nox (e ρ1)) fun y => mbind (asB y) fun k => if k = dec then mret dec else boolL dec g t e ρ r else boolL dec g t e ρ r
@[simp] def dBoolG (dec : Bool) (fi : Env → M (List D)) (g : DG) (t : Env → M Bool) (e : Env → M D) (vs : List Nat) : Env → M D := fun ρ => mbind (fi ρ) fun items =>
  if items.length ≤ sizeLine then mbind (boolL dec g t e (dwipe ρ vs) items) fun k => mret (.bl k) else mbad
def tupW (Q : VK) : Wish := { N := sizeLine, go := fun _ => True, RQ := fun _ _ _ => True, EQ := fun ys H => ∀ p, H p = none → Q (.ref p) (upd H p (.tup ys)) }
section
variable {fi : Env → M (List D)} {g : DG} {ws : List Nat} {ft : Env → M Bool} {fe : Env → M D} {W : WX}
theorem tup_den {K : PySem.W.Frag} {mg : Str → Option Value} {vs : List Nat} (hw : ∀ i ∈ ws, i ∈ vs) {σ : L2.St} {H : Hp} {Q : VK} (h : tG K mg W (RV K) (dTupG fi g ft fe vs) σ H Q) :
    tGenW K (tG K mg W (RIt K) fi) (tGt K ws g) (tG K mg WF ReqB ft) (tG K mg WF (RV K) fe) vs (fun _ Wi => Wi = tupW Q) σ H := by
  obtain ⟨b, m, ρ, S, hv, hs, h⟩ := h
  refine ⟨b, m, ρ, S, hv, hs, Post.then h fun items S1 m1 H1 J e1 t1 s1 r1 h1 => ⟨s1.tabs, fun H2 gr => ?_⟩⟩
  by_cases hz : items.length ≤ sizeLine
  · rw [if_pos hz] at h1
    have v1 := hv.tr t1
    refine ⟨tupW Q, fun i n ys H => n = items.length - i ∧ i ≤ items.length ∧ ∃ m' S accD, Tr m1 H1 m' H ∧ EnvR K b m' H (wipe σ vs) (dwipe ρ vs) ∧ StoR K b m' H S ∧ Reps K b m' H ys accD ∧ accD.length ≤ i ∧
        Post K mg W b m1 H1 σ (RV K) ((compL g ft fe (dwipe ρ vs) (items.drop i) S).then fun ys => mret (.tup (accD ++ ys))) Q,
      items.length, rfl, ⟨rfl, Nat.zero_le _, m1, S1, [], gr.1 _, (v1.wipe vs).tr (gr.1 _), gr.2 _ _ _ s1, .nil, Nat.le_refl _, h1⟩, ?_⟩
    rintro i n ys H3 ⟨rfl, hil, m2, S2, accD, t2, v2, s2, ra, hal, h2⟩
    obtain ⟨rgo, rstop⟩ := r1 b m2 H3 t2.rch Bn.refl
    by_cases hlt : i < items.length
    · obtain ⟨go, yld⟩ := rgo i items[i] (List.getElem?_eq_getElem hlt)
      rw [List.drop_eq_getElem_cons hlt] at h2
      unfold compL at h2
      cases q : g items[i] (dwipe ρ vs) with
      | none => simp only [q] at h2; exact h2.elim
      | some ρ3 =>
        simp only [q] at h2
        refine .inr ⟨go, fun ys' H' => ∃ m' S accD, Tr m1 H1 m' H' ∧ EnvR K b m' H' (wipe σ vs) (dwipe ρ vs) ∧ StoR K b m' H' S ∧ Reps K b m' H' ys' accD ∧ accD.length ≤ i + 1 ∧
          Post K mg W b m1 H1 σ (RV K) ((compL g ft fe (dwipe ρ vs) (items.drop (i + 1)) S).then fun ys => mret (.tup (accD ++ ys))) Q, fun ys' H' ⟨m3, S3, aD, x⟩ => ⟨items.length - (i + 1), by omega, rfl, hlt, m3, S3, aD, x⟩, fun x H4 hy => ?_⟩
        obtain ⟨sm, rx⟩ := yld x H4 hy
        have t3 : Tr m2 H3 m2 H4 := Same.tr sm
        refine ⟨b, m2, _, items[i], ρ3, v2.tr t3, rx, q, fun σ4 v4 o4 => ⟨?_, ?_⟩⟩
        · rw [← wipe_wipe σ vs]
          exact wipe_eq ⟨o4.1, fun j hj => o4.2 j fun z => hj (hw j z)⟩
        · refine ⟨b, m2, ρ3, S2, v4, s2.same sm, ?_⟩
          have ra3 := ra.tr t3
          have v3 := v2.tr t3
          have h2' : Post K mg W b m1 H1 σ (RV K) (((nox (ft ρ3) S2).then fun c => if c then mbind (nox (fe ρ3)) fun y => mbind (compL g ft fe (dwipe ρ vs) (items.drop (i + 1))) fun ys => mret (y :: ys) else compL g ft fe (dwipe ρ vs) (items.drop (i + 1))).then fun ys => mret (.tup (accD ++ ys))) Q := h2
          unfold nox at h2'
          cases q2 : ft ρ3 S2 with
          | bad => simp only [q2] at h2'; exact h2'.elim
          | ex e S5 => simp only [q2] at h2'; exact h2'.elim
          | ok c S5 =>
            simp only [q2] at h2'
            intro m6 H6 y t6 s6 ey
            obtain rfl : y = c := ey
            have T6 : Tr m1 H1 m6 H6 := (t2.trans t3).trans t6
            cases y with
            | false => exact iteF ⟨m6, S5, accD, T6, v3.tr t6, s6, ra3.tr t6, by omega, h2'⟩
            | true =>
              refine iteT ⟨b, m6, ρ3, S5, v4.tr t6, s6, ?_⟩
              have h3' : Post K mg W b m1 H1 σ (RV K) (((nox (fe ρ3) S5).then fun y => mbind (compL g ft fe (dwipe ρ vs) (items.drop (i + 1))) fun ys => mret (y :: ys)).then fun ys => mret (.tup (accD ++ ys))) Q := h2'
              unfold nox at h3'
              cases q3 : fe ρ3 S5 with
              | bad => simp only [q3] at h3'; exact h3'.elim
              | ex e S7 => simp only [q3] at h3'; exact h3'.elim
              | ok dy S7 =>
                simp only [q3] at h3'
                intro m8 H8 y t8 s8 ry
                have ra8 := (ra3.tr t6).tr t8
                have hlen : ys.length = accD.length := ra8.length
                refine ⟨show ys.length < sizeLine by omega, trivial, fun _ => ⟨m8, S7, accD ++ [dy], T6.trans t8, (v3.tr t6).tr t8, s8, ra8.append (.cons ry .nil), by simp; omega, ?_⟩⟩
                have h4' : Post K mg W b m1 H1 σ (RV K) (((compL g ft fe (dwipe ρ vs) (items.drop (i + 1)) S7).then fun ys => mret (dy :: ys)).then fun ys => mret (.tup (accD ++ ys))) Q := h3'
                cases q4 : compL g ft fe (dwipe ρ vs) (items.drop (i + 1)) S7 with
                | bad => rw [q4] at h4'; exact h4'.elim
                | ex e S9 => rw [q4] at h4'; exact h4'
                | ok zs S9 =>
                  rw [q4] at h4'
                  have e5 : accD ++ dy :: zs = (accD ++ [dy]) ++ zs := by simp
                  show Post K mg W b m1 H1 σ (RV K) (.ok (.tup ((accD ++ [dy]) ++ zs)) S9) Q
                  rw [← e5]
                  exact h4'
    · have e : i = items.length := by omega
      subst e
      rw [List.drop_length] at h2
      refine .inl ⟨rstop, fun p hp => ?_⟩
      have h2' : Post K mg W b m1 H1 σ (RV K) (.ok (.tup (accD ++ [])) S2) Q := h2
      rw [List.append_nil] at h2'
      exact h2' m2 _ _ (t2.trans (Same.tr (Same.upd hp))) (s2.same (Same.upd hp)) (Rep.newTup hp ra)
  · rw [if_neg hz] at h1; exact h1.elim
theorem bool_den {K : PySem.W.Frag} {mg : Str → Option Value} {vs : List Nat} {dec : Bool} (hw : ∀ i ∈ ws, i ∈ vs) {σ : L2.St} {H : Hp} {Q : VK} (h : tG K mg W (RV K) (dBoolG dec fi g ft fe vs) σ H Q) :
    tGenW K (tG K mg W (RIt K) fi) (tGt K ws g) (tG K mg WF ReqB ft) (tG K mg WF (RV K) fe) vs (fun _ Wi => Wi = boolW dec fun k => Q (.bl k)) σ H := by
  obtain ⟨b, m, ρ, S, hv, hs, h⟩ := h
  refine ⟨b, m, ρ, S, hv, hs, Post.then h fun items S1 m1 H1 J e1 t1 s1 r1 h1 => ⟨s1.tabs, fun H2 gr => ?_⟩⟩
  by_cases hz : items.length ≤ sizeLine
  · rw [if_pos hz] at h1
    have v1 := hv.tr t1
    refine ⟨_, fun i n ys H => n = items.length - i ∧ i ≤ items.length ∧ ys.length ≤ i ∧ ∃ m' S, Tr m1 H1 m' H ∧ EnvR K b m' H (wipe σ vs) (dwipe ρ vs) ∧ StoR K b m' H S ∧
        Post K mg W b m1 H1 σ (RV K) ((boolL dec g ft fe (dwipe ρ vs) (items.drop i) S).then fun k => mret (.bl k)) Q,
      items.length, rfl, ⟨rfl, Nat.zero_le _, Nat.le_refl _, m1, S1, gr.1 _, (v1.wipe vs).tr (gr.1 _), gr.2 _ _ _ s1, h1⟩, ?_⟩
    rintro i n ys H3 ⟨rfl, hil, hal, m2, S2, t2, v2, s2, h2⟩
    obtain ⟨rgo, rstop⟩ := r1 b m2 H3 t2.rch Bn.refl
    by_cases hlt : i < items.length
    · obtain ⟨go, yld⟩ := rgo i items[i] (List.getElem?_eq_getElem hlt)
      rw [List.drop_eq_getElem_cons hlt] at h2
      unfold boolL at h2
      cases q : g items[i] (dwipe ρ vs) with
      | none => simp only [q] at h2; exact h2.elim
      | some ρ3 =>
        simp only [q] at h2
        refine .inr ⟨go, fun ys' H' => ys'.length ≤ i + 1 ∧ ∃ m' S, Tr m1 H1 m' H' ∧ EnvR K b m' H' (wipe σ vs) (dwipe ρ vs) ∧ StoR K b m' H' S ∧
          Post K mg W b m1 H1 σ (RV K) ((boolL dec g ft fe (dwipe ρ vs) (items.drop (i + 1)) S).then fun k => mret (.bl k)) Q, fun ys' H' ⟨l3, m3, S3, x⟩ => ⟨items.length - (i + 1), by omega, rfl, hlt, l3, m3, S3, x⟩, fun x H4 hy => ?_⟩
        obtain ⟨sm, rx⟩ := yld x H4 hy
        have t3 : Tr m2 H3 m2 H4 := Same.tr sm
        refine ⟨b, m2, _, items[i], ρ3, v2.tr t3, rx, q, fun σ4 v4 o4 => ⟨?_, ?_⟩⟩
        · rw [← wipe_wipe σ vs]
          exact wipe_eq ⟨o4.1, fun j hj => o4.2 j fun z => hj (hw j z)⟩
        · refine ⟨b, m2, ρ3, S2, v4, s2.same sm, ?_⟩
          have v3 := v2.tr t3
          have h2' : Post K mg W b m1 H1 σ (RV K) (((nox (ft ρ3) S2).then fun c => if c then mbind (nox (fe ρ3)) fun y => mbind (asB y) fun k => if k = dec then mret dec else boolL dec g ft fe (dwipe ρ vs) (items.drop (i + 1)) else boolL dec g ft fe (dwipe ρ vs) (items.drop (i + 1))).then fun k => mret (.bl k)) Q := h2
          unfold nox at h2'
          cases q2 : ft ρ3 S2 with
          | bad => simp only [q2] at h2'; exact h2'.elim
          | ex e S5 => simp only [q2] at h2'; exact h2'.elim
          | ok c S5 =>
            simp only [q2] at h2'
            intro m6 H6 y t6 s6 ey
            obtain rfl : y = c := ey
            have T6 : Tr m1 H1 m6 H6 := (t2.trans t3).trans t6
            cases y with
            | false => exact iteF ⟨by omega, m6, S5, T6, v3.tr t6, s6, h2'⟩
            | true =>
              refine iteT ⟨b, m6, ρ3, S5, v4.tr t6, s6, ?_⟩
              have h3' : Post K mg W b m1 H1 σ (RV K) (((nox (fe ρ3) S5).then fun y => mbind (asB y) fun k => if k = dec then mret dec else boolL dec g ft fe (dwipe ρ vs) (items.drop (i + 1))).then fun k => mret (.bl k)) Q := h2'
              unfold nox at h3'
              cases q3 : fe ρ3 S5 with
              | bad => simp only [q3] at h3'; exact h3'.elim
              | ex e S7 => simp only [q3] at h3'; exact h3'.elim
              | ok dy S7 =>
                simp only [q3] at h3'
                intro m8 H8 y t8 s8 ry
                have h4' : Post K mg W b m1 H1 σ (RV K) (((asB dy S7).then fun k => if k = dec then mret dec else boolL dec g ft fe (dwipe ρ vs) (items.drop (i + 1))).then fun k => mret (.bl k)) Q := h3'
                cases ry with
                | bl k =>
                  have h5' : Post K mg W b m1 H1 σ (RV K) (((if k = dec then mret dec else boolL dec g ft fe (dwipe ρ vs) (items.drop (i + 1))) S7).then fun k => mret (.bl k)) Q := h4'
                  refine ⟨show ys.length < sizeLine by omega, ⟨k, rfl, fun hk => ?_⟩, fun hgo => ?_⟩
                  · rw [if_pos hk] at h5'
                    exact h5' m8 H8 (.bl dec) (T6.trans t8) s8 (.bl _)
                  · have hk : k = !dec := by
                      have := V.bl.inj hgo
                      exact this
                    rw [if_neg (by rw [hk]; cases dec <;> decide)] at h5'
                    exact ⟨by rw [List.length_append, List.length_singleton]; omega, m8, S7, T6.trans t8, (v3.tr t6).tr t8, s8, h5'⟩
                | _ => exact h4'.elim
    · have e : i = items.length := by omega
      subst e
      rw [List.drop_length] at h2
      refine .inl ⟨rstop, ?_⟩
      have h2' : Post K mg W b m1 H1 σ (RV K) (.ok (.bl (!dec)) S2) Q := h2
      exact h2' m2 _ (.bl (!dec)) t2 s2 (.bl _)
  · rw [if_neg hz] at h1; exact h1.elim
end
section
variable {X : Cx} {W : WX} {elt tg iter : Expr} {ifs : List Expr} {scope : Scope} {own : List (Str × Nat)} {p pos gpos : Pos} {fi : Env → M (List D)} {g : DG} {ws : List Nat} {ft : Env → M Bool} {fe : Env → M D} {k : Nat}
theorem pd_tupG (B : Bmain X.base X.mg) (cx : CodeX X) (hc : X.calm = true) (hN : X.N.Nodup) (hr : Room (k + 2) X.A) (hgl : Gl X "tuple") (hm : X.mg "tuple" = none) (hv : bootBuiltins "tuple" = some (.type "tuple")) (hi : ID X W tg iter fi) (ok : GScp X.N X.env.scope scope own) (hw : ∀ i ∈ ws, i ∈ own.map (·.2))
    (hg : ∀ A s H C cl code fp pn, GD (gx X A s H scope C cl code fp pn) tg ws g) (ht : ∀ A s H C cl code fp pn, Room k A → CodeX (gx X A s H scope C cl code fp pn) → TsD (gx X A s H scope C cl code fp pn) WF ifs ft)
    (he : ∀ A s H C cl code fp pn, Room k A → CodeX (gx X A s H scope C cl code fp pn) → PD (gx X A s H scope C cl code fp pn) WF elt fe) (hs : ∀ x, genFold iter X.env x = pure x := by intro _; rfl)
    (hst : starEach [.GeneratorExp elt [⟨tg, iter, ifs, 0⟩] scope gpos] X.env = (false, eval (.GeneratorExp elt [⟨tg, iter, ifs, 0⟩] scope gpos) X.env) :: starEach [] X.env := by rfl) :
    PD X W (.Call (.Name "tuple" p) [.GeneratorExp elt [⟨tg, iter, ifs, 0⟩] scope gpos] [] pos) (dTupG fi g ft fe (own.map (·.2))) := by
  refine ⟨fun pins s σ H Q I h => ?_⟩
  refine wpAny_Call_Name_kw (ld_blt I hgl hm hv ?_)
  refine PyProof.Rows.callWith_type1 ?_ hst rfl
  rw [hst]
  show wpAny _ _ (spliced ((false, eval (.GeneratorExp elt [⟨tg, iter, ifs, 0⟩] scope gpos) X.env) :: backTo pos (starEach [] X.env))) _ _ s
  refine Calls.spliced_cons (gen_make (g := tGt X.K ws g) (tt := tG X.K X.mg WF ReqB ft) (te := tG X.K X.mg WF (RV X.K) fe) B cx hc hN hr hi ok hg ht he hs I (tup_den hw h) fun H2 W0 u s' hW hG => ?_)
  subst hW
  refine Calls.spliced_nil ?_
  exact call_tupleC hr I.ok.frames (fun _ => trivial) (Nat.le_refl _) hG fun ys H' p s' hp I' eq => ⟨.ref p, _, I', rfl, eq p hp⟩
theorem pd_allG (B : Bmain X.base X.mg) (cx : CodeX X) (hc : X.calm = true) (hN : X.N.Nodup) (hr : Room (k + 2) X.A) (hgl : Gl X "all") (hm : X.mg "all" = none) (hv : bootBuiltins "all" = some (.builtin "all")) (hi : ID X W tg iter fi) (ok : GScp X.N X.env.scope scope own) (hw : ∀ i ∈ ws, i ∈ own.map (·.2))
    (hg : ∀ A s H C cl code fp pn, GD (gx X A s H scope C cl code fp pn) tg ws g) (ht : ∀ A s H C cl code fp pn, Room k A → CodeX (gx X A s H scope C cl code fp pn) → TsD (gx X A s H scope C cl code fp pn) WF ifs ft)
    (he : ∀ A s H C cl code fp pn, Room k A → CodeX (gx X A s H scope C cl code fp pn) → PD (gx X A s H scope C cl code fp pn) WF elt fe) (hs : ∀ x, genFold iter X.env x = pure x := by intro _; rfl)
    (hst : starEach [.GeneratorExp elt [⟨tg, iter, ifs, 0⟩] scope gpos] X.env = (false, eval (.GeneratorExp elt [⟨tg, iter, ifs, 0⟩] scope gpos) X.env) :: starEach [] X.env := by rfl) :
    PD X W (.Call (.Name "all" p) [.GeneratorExp elt [⟨tg, iter, ifs, 0⟩] scope gpos] [] pos) (dBoolG false fi g ft fe (own.map (·.2))) := by
  refine ⟨fun pins s σ H Q I h => ?_⟩
  refine wpAny_Call_Name_kw (ld_blt I hgl hm hv ?_)
  refine PyProof.Rows.callWith_builtin1 ?_ hst (by rfl)
  rw [hst]
  show wpAny _ _ (spliced ((false, eval (.GeneratorExp elt [⟨tg, iter, ifs, 0⟩] scope gpos) X.env) :: backTo pos (starEach [] X.env))) _ _ s
  refine Calls.spliced_cons (gen_make (g := tGt X.K ws g) (tt := tG X.K X.mg WF ReqB ft) (te := tG X.K X.mg WF (RV X.K) fe) B cx hc hN hr hi ok hg ht he hs I (bool_den hw h) fun H2 W0 u s' hW hG => ?_)
  subst hW
  refine Calls.spliced_nil ?_
  exact call_allC hr I.ok.frames hG fun b H' s' I' q => ⟨.bl b, _, I', rfl, q⟩
theorem pd_anyG (B : Bmain X.base X.mg) (cx : CodeX X) (hc : X.calm = true) (hN : X.N.Nodup) (hr : Room (k + 2) X.A) (hgl : Gl X "any") (hm : X.mg "any" = none) (hv : bootBuiltins "any" = some (.builtin "any")) (hi : ID X W tg iter fi) (ok : GScp X.N X.env.scope scope own) (hw : ∀ i ∈ ws, i ∈ own.map (·.2))
    (hg : ∀ A s H C cl code fp pn, GD (gx X A s H scope C cl code fp pn) tg ws g) (ht : ∀ A s H C cl code fp pn, Room k A → CodeX (gx X A s H scope C cl code fp pn) → TsD (gx X A s H scope C cl code fp pn) WF ifs ft)
    (he : ∀ A s H C cl code fp pn, Room k A → CodeX (gx X A s H scope C cl code fp pn) → PD (gx X A s H scope C cl code fp pn) WF elt fe) (hs : ∀ x, genFold iter X.env x = pure x := by intro _; rfl)
    (hst : starEach [.GeneratorExp elt [⟨tg, iter, ifs, 0⟩] scope gpos] X.env = (false, eval (.GeneratorExp elt [⟨tg, iter, ifs, 0⟩] scope gpos) X.env) :: starEach [] X.env := by rfl) :
    PD X W (.Call (.Name "any" p) [.GeneratorExp elt [⟨tg, iter, ifs, 0⟩] scope gpos] [] pos) (dBoolG true fi g ft fe (own.map (·.2))) := by
  refine ⟨fun pins s σ H Q I h => ?_⟩
  refine wpAny_Call_Name_kw (ld_blt I hgl hm hv ?_)
  refine PyProof.Rows.callWith_builtin1 ?_ hst (by rfl)
  rw [hst]
  show wpAny _ _ (spliced ((false, eval (.GeneratorExp elt [⟨tg, iter, ifs, 0⟩] scope gpos) X.env) :: backTo pos (starEach [] X.env))) _ _ s
  refine Calls.spliced_cons (gen_make (g := tGt X.K ws g) (tt := tG X.K X.mg WF ReqB ft) (te := tG X.K X.mg WF (RV X.K) fe) B cx hc hN hr hi ok hg ht he hs I (bool_den hw h) fun H2 W0 u s' hW hG => ?_)
  subst hW
  refine Calls.spliced_nil ?_
  exact call_anyC hr I.ok.frames hG fun b H' s' I' q => ⟨.bl b, _, I', rfl, q⟩
end
end DL
set_option Elab.async false
set_option linter.all false
set_option maxRecDepth 100000
set_option maxHeartbeats 2000000
/-! the end of a law whose defs make generator expressions -/
namespace DL
open PySem PySem.Spec PyProof.Rows L2

/-! ### the written part, with the tables told behind it -/
def LkEq (K K' : PySem.W.Frag) : Prop := ∀ a, K'.lookup a = K.lookup a
section
variable {K K' : PySem.W.Frag}
theorem LkEq.l (h : LkEq K K') {a : Addr} {o : Option Obj} (e : K.lookup a = o) : K'.lookup a = o := (h a).trans e
theorem LkEq.nsIn (h : LkEq K K') {a : Addr} {x : Str} {r : Option (Option Value)} (e : PySem.W.nsIn K a x = r) : PySem.W.nsIn K' a x = r := by
  unfold PySem.W.nsIn at e ⊢; rw [h a]; exact e
theorem LkEq.codeIn (h : LkEq K K') {v : Value} {q : Str} (e : PySem.W.codeIn K v q = true) : PySem.W.codeIn K' v q = true := by
  have h' : ∀ a, K'.lookup a = K.lookup a := h
  unfold PySem.W.codeIn at e ⊢
  simp only [h']
  exact e
theorem LkEq.ownIn (h : LkEq K K') (x : Str) (v : Value) : PySem.W.ownIn K' x v = PySem.W.ownIn K x v := by
  have h' : ∀ a, K'.lookup a = K.lookup a := h
  unfold PySem.W.ownIn PySem.W.nsIn
  simp only [h']
theorem LkEq.alongIn (h : LkEq K K') (x : Str) : ∀ l : List Value, PySem.W.alongIn K' x l = PySem.W.alongIn K x l
  | [] => rfl
  | c :: r => by
    unfold PySem.W.alongIn
    rw [h.ownIn, LkEq.alongIn h x r]
theorem LkEq.findIn (h : LkEq K K') (v : Value) (x : Str) : PySem.W.findIn K' v x = PySem.W.findIn K v x := by
  have h' : ∀ a, K'.lookup a = K.lookup a := h
  unfold PySem.W.findIn
  simp only [h', h.alongIn]
theorem LkEq.typeIn' (h : LkEq K K') (v : Value) : PySem.W.typeIn K' v = PySem.W.typeIn K v := by
  have h' : ∀ a, K'.lookup a = K.lookup a := h
  cases v <;> simp only [PySem.W.typeIn, h']
theorem LkEq.typeIn (h : LkEq K K') {v : Value} {r : Option Value} (e : PySem.W.typeIn K v = r) : PySem.W.typeIn K' v = r := (h.typeIn' v).trans e
theorem LkEq.keepIn (h : LkEq K K') {v : Value} (e : PySem.W.keepIn K v = true) : PySem.W.keepIn K' v = true := by
  have h' : ∀ a, K'.lookup a = K.lookup a := h
  unfold PySem.W.keepIn PySem.W.specialIn at e ⊢
  simp only [h', h.typeIn', h.findIn]
  exact e
theorem LkEq.subIn (h : LkEq K K') {v b : Value} {r : Option Bool} (e : PySem.W.subIn K v b = r) : PySem.W.subIn K' v b = r := by
  have h' : ∀ a, K'.lookup a = K.lookup a := h
  unfold PySem.W.subIn PySem.W.mroIn PySem.W.clsIn at e ⊢
  simp only [h']
  exact e
theorem LkEq.tailIn (h : LkEq K K') (bm : List Value) : ∀ l : List Value, PySem.W.tailIn K' bm l = PySem.W.tailIn K bm l
  | [] => rfl
  | v :: r => by
    have h' : ∀ a, K'.lookup a = K.lookup a := h
    unfold PySem.W.tailIn PySem.W.nsOkIn PySem.W.nsIn
    simp only [h', LkEq.tailIn h bm r]
theorem LkEq.excIn (h : LkEq K K') {C : Addr} {bm : List Value} {n : String} (e : PySem.W.excIn K C bm n = true) : PySem.W.excIn K' C bm n = true := by
  have h' : ∀ a, K'.lookup a = K.lookup a := h
  unfold PySem.W.excIn PySem.W.nsOkIn PySem.W.nsIn at e ⊢
  simp only [h', h.tailIn]
  exact e
theorem LkEq.codeHdIn (h : LkEq K K') {c P : Addr} (e : PySem.W.codeHdIn K c P = true) : PySem.W.codeHdIn K' c P = true := by
  unfold PySem.W.codeHdIn at e ⊢
  rw [h c]; exact e
theorem LkEq.In (h : LkEq K K') {hp : Heap} (X : K.In hp) : K'.In hp := fun a o e => X a o ((h a).symm.trans e)
end
def withRoots (K : PySem.W.Frag) (cs : List (Addr × Addr)) : PySem.W.Frag := K ++ cs.map fun p => (p.1, rootOb p.2)
theorem lookup_app {α β : Type} [BEq α] (a : α) : ∀ l m : List (α × β), (l ++ m).lookup a = (match l.lookup a with
    | some b => some b
    | none => m.lookup a)
  | [], m => rfl
  | (k, v) :: r, m => by
    rw [List.cons_append, List.lookup_cons, List.lookup_cons]
    cases a == k with
    | true => rfl
    | false => exact lookup_app a r m
theorem lk_roots {K : PySem.W.Frag} {cs : List (Addr × Addr)} (h : ∀ p ∈ cs, PySem.W.codeHdIn K p.1 p.2 = true) : LkEq K (withRoots K cs) := fun a => by
  unfold withRoots
  rw [lookup_app]
  cases e : K.lookup a with
  | some o => rfl
  | none =>
    show (cs.map fun p => (p.1, rootOb p.2)).lookup a = none
    cases q : (cs.map fun p => (p.1, rootOb p.2)).lookup a with
    | none => rfl
    | some o =>
      obtain ⟨p, hp, ep⟩ := List.mem_map.mp (PySem.W.mem_of_lookupK q)
      cases ep
      have := h p hp
      unfold PySem.W.codeHdIn at this
      rw [e] at this
      cases this
theorem rootsOf_with {K : PySem.W.Frag} {cs : List (Addr × Addr)} (h : rootsOf K = []) : rootsOf (withRoots K cs) = cs := by
  unfold rootsOf withRoots at *
  rw [List.filterMap_append, h, List.nil_append, List.filterMap_map]
  induction cs with
  | nil => rfl
  | cons p r ih => simp only [List.filterMap_cons, ih]; rfl
/-- a def's code object, its table empty -/
def TabI (h : Heap) (mg : Str → Option Value) (x : Str) : Prop := ∃ a o fd c P, mg x = some (.ref a) ∧ h.get? a = some o ∧ o.data = .func fd ∧ fd.code = .ref c ∧ h.IsCode c P #[] ∧ h.TableAt c P #[]
theorem tab_get {K : PySem.W.Frag} {h : Heap} {mg : Str → Option Value} {x q : Str} {f : Addr} {oc : Value} {od : Option Addr} {fd : FuncData} {sl : Array (Option Value)} (X : K.In h) (G : h.Ns mainGlobals mg) (a : PySem.W.nsIn K mainGlobals x = some (some (.ref f))) (l : K.lookup f = some ⟨oc, od, .func fd, sl⟩)
    (c : PySem.W.codeIn K fd.code q = true) (nt : PySem.W.noTabs K = true) (t : TabI h mg x) : ∃ c P, fd.code = .ref c ∧ PySem.W.codeHdIn K c P = true ∧ K.lookup P = none ∧ PySem.W.CodeHd h c P ∧ h.get? P = some { cls := .none, data := .fields #[] } := by
  obtain ⟨f', o, fd', cc, P, e1, e2, e3, e4, e5, e6⟩ := t
  rw [PySem.W.mg_of X G a] at e1
  cases e1
  rw [X _ _ l] at e2
  cases e2
  cases e3
  have hd := PySem.W.CodeHd.of e5 e6
  refine ⟨cc, P, e4, ?_, ?_, hd, e6.2⟩
  · rw [e4] at c
    unfold PySem.W.codeIn at c
    unfold PySem.W.codeHdIn
    cases k : K.lookup cc with
    | none => simp only [k] at c; cases c
    | some oo =>
      have e := X _ _ k
      obtain ⟨o1, vs, file, tf, flags, tg, inF, text, tt, f1, f2, f3, f4, f5, f6, f7, f8, f9, f10⟩ := hd
      rw [e] at f1
      cases f1
      obtain ⟨ocls, od1, od2, osl⟩ := oo
      simp only at f2 f3
      subst f2 f3
      simp only [f4, f6, f7, f8, f9]
      simp [f10]
  · cases k : K.lookup P with
    | none => rfl
    | some oo =>
      have e := X _ _ k
      rw [e6.2] at e
      cases e
      have := List.all_eq_true.mp nt (P, _) (PySem.W.mem_of_lookupK k)
      simp at this
/-! ### the law's call -/
theorem law_callAt {P : Program} {w : World} {K : PySem.W.Frag} {mg mb : Str → Option Value} {fa a : Addr} {cs : List (Addr × Addr)} {s₁ : Shared} {vs : List Value} {ns : List Int}
    (KX : K.In s₁.heap) (hns : s₁.heap.Ns mainGlobals mg) (hb : s₁.heap.Ns builtinsNs mb) (hbb : ∀ x : Str, x ≠ "__name__" → mb x = bootBuiltins x) (hlim : s₁.heap.NoLimit) (hg : s₁.gens = #[])
    (hT : ∀ p ∈ cs, s₁.heap.get? p.2 = some { cls := .none, data := .fields #[] }) (nT : ∀ p ∈ cs, K.lookup p.2 = none) (C : ∀ p ∈ cs, PySem.W.CodeHd s₁.heap p.1 p.2)
    (hbm : ∃ (bm : Addr) (ob : Obj), mg "__builtins__" = some (.ref bm) ∧ bm ≠ builtinsNs ∧ s₁.heap.get? bm = some ob ∧ ob.cls = .type "module" ∧ ob.dict = some builtinsNs ∧ ob.data = .plain)
    (ha : s₁.heap.get? a = some { cls := .type "list", data := .seq vs.toArray }) (hi : IntsAre vs ns) (hl : ns.length ≤ sizeLine)
    (run : ∀ (base : Heap) (H : Hp), K.In base → base.Ns mainGlobals mg → Bmain base mg → Env0 P w K mg base callerA [] s₁ H → (∀ p ∈ cs, H p.2 = some (.tbl #[])) → (∀ b, H b = none ∨ b ∈ cs.map (·.2) ∨ ∃ o xs, H b = some (.frz o (.lst xs))) → SqL K H a (ns.map V.int) → a ∉ cs.map (·.2) →
      codeAny (model P w) callerA (.call (.ref fa) ⟨[.ref a], []⟩) (CR (L2.CX P w) [] P w H s₁ (fun v _ => v = .bl true) fun _ _ _ => False) s₁) :
    codeAny (model P w) callerA (.call (.ref fa) ⟨[.ref a], []⟩) (fun r s' => r = .ok (.ret (.bool true)) ∧ OldK s₁.heap s'.heap ∧ s'.os = s₁.os ∧ AllBare s'.gens) s₁ := by
  have rv := vals_ints hi
  have lenV := hi.length
  have isT : ∀ b : Addr, b ∈ cs.map (·.2) → s₁.heap.get? b = some { cls := .none, data := .fields #[] } := fun b hb => by
    obtain ⟨p, hp, e⟩ := List.mem_map.mp hb
    rw [← e]
    exact hT p hp
  have aT : a ∉ cs.map (·.2) := fun z => by
    have q := isT a z
    rw [ha] at q
    have z' : Data.seq vs.toArray _ = Data.fields #[] := congrArg Obj.data (Option.some.inj q)
    cases z'
  have memT : ∀ p ∈ cs, p.2 ∈ cs.map (·.2) := fun p hp => List.mem_map.mpr ⟨p, hp, rfl⟩
  have core : ∀ H : Hp, (∀ p ∈ cs, H p.2 = some (.tbl #[])) → (∀ b, H b = none ∨ b ∈ cs.map (·.2) ∨ ∃ o xs, H b = some (.frz o (.lst xs))) → SqL K H a (ns.map V.int) → HOk P w H s₁.heap → (∀ b, H b ≠ none → b = a ∨ b ∈ cs.map (·.2)) → (H a ≠ none → K.lookup a = none) →
      codeAny (model P w) callerA (.call (.ref fa) ⟨[.ref a], []⟩) (fun r s' => r = .ok (.ret (.bool true)) ∧ OldK s₁.heap s'.heap ∧ s'.os = s₁.os ∧ AllBare s'.gens) s₁ := by
    intro H hH hO hS hok hA hK
    have base_of : ∀ {b : Addr} {o : Obj}, s₁.heap.get? b = some o → H b = none → (hidT s₁.heap H).get? b = some o := fun e n => hidT_get e n
    have noD : ∀ {b : Addr} {o : Obj}, s₁.heap.get? b = some o → (∀ vs n, o.data ≠ .seq vs n) → o.data ≠ .fields #[] → H b = none := fun {b o} e h1 h2 => by
      cases q : H b with
      | none => rfl
      | some u =>
        rcases hA b (by rw [q]; simp) with e' | e'
        · rw [e', ha] at e
          cases e
          exact (h1 _ _ rfl).elim
        · rw [isT b e'] at e
          cases e
          exact (h2 rfl).elim
    have noA : ∀ {b : Addr} {o : Obj} {es : Array DictEntry} {ep : Nat}, s₁.heap.get? b = some o → o.data = .dict es ep → H b = none := fun {b o es ep} e d => by
      refine noD e (fun vs n z => ?_) fun z => ?_
      · rw [d] at z
        cases z
      · rw [d] at z
        cases z
    have nsK : ∀ {b : Addr} {m : Str → Option Value}, s₁.heap.Ns b m → (hidT s₁.heap H).Ns b m := fun {b m} ⟨o, es, ep, e, d, r⟩ => ⟨o, es, ep, base_of e (noA e d), d, r⟩
    have hKb : K.In (hidT s₁.heap H) := fun b o e => base_of (KX b o e) (by
      cases q : H b with
      | none => rfl
      | some u =>
        rcases hA b (by rw [q]; simp) with e' | e'
        · rw [e'] at e q
          rw [hK (by rw [q]; simp)] at e
          cases e
        · obtain ⟨p, hp, ep⟩ := List.mem_map.mp e'
          rw [← ep, nT p hp] at e
          cases e)
    have hM : L2.Mod K mg (hidT s₁.heap H) := ⟨hKb, nsK hns, ⟨mb, nsK hb, hbb⟩, let ⟨mc, h1, h2⟩ := hlim; ⟨mc, nsK h1, h2⟩⟩
    have BM : Bmain (hidT s₁.heap H) mg := by
      obtain ⟨bm, ob, b1, b2, b3, b4, b5, b6⟩ := hbm
      refine ⟨bm, ob, b1, b2, base_of b3 (noD b3 (fun vs n z => ?_) fun z => ?_), b4, b5, b6⟩
      · rw [b6] at z
        cases z
      · rw [b6] at z
        cases z
    have e0 : Env0 P w K mg (hidT s₁.heap H) callerA [] s₁ H := ⟨rfl, hM, fun b o e => of_hidT e, Nat.le_of_eq (hidT_size _ _), trivial, fun b hb => absurd (show b ∈ ([] : List Addr) from hb) (by simp), hok, .of_eq hg⟩
    refine codeAny_mono (run _ H hKb (nsK hns) BM e0 hH hO hS aT) fun r s' h => ?_
    cases r with
    | error e => exact (cx_end w H s₁ e s' h).elim
    | ok fl =>
      cases fl with
      | next => exact False.elim h
      | brk => exact False.elim h
      | cont => exact False.elim h
      | ret u =>
        obtain ⟨v, H', os, bare, un, hok', r', q⟩ := h
        have q' : v = .bl true := q
        subst q'
        obtain rfl : u = Value.bool true := r'
        have key : ∀ b o, b ∉ cs.map (·.2) → s₁.heap.get? b = some o → s'.heap.get? b = some o := fun b o nb e => by
          cases q : H b with
          | none => exact un.keep b o e q (by intro z; exact absurd (show b ∈ ([] : List Addr) from z) (by simp)) (by simp)
          | some u =>
            rcases hO b with z | z | ⟨ob, xs, z⟩
            · rw [q] at z; cases z
            · exact absurd z nb
            · have z2 := un.frzs b ob _ z
              obtain ⟨e1, _⟩ := hok b _ z
              obtain ⟨e2, _⟩ := hok' b _ z2
              rw [e] at e1; cases e1
              exact e2
        have grown : ∀ p ∈ cs, ∃ more : Array Value, s'.heap.get? p.2 = some { cls := .none, data := .fields more } := fun p hp => by
          obtain ⟨more, z⟩ := un.tbls p.2 #[] (hH p hp)
          exact ⟨_, hok' p.2 _ z⟩
        refine ⟨rfl, ⟨fun b o e => ?_, fun b o e => ?_⟩, os, bare⟩
        · by_cases hb : b ∈ cs.map (·.2)
          · obtain ⟨p, hp, ep⟩ := List.mem_map.mp hb
            obtain ⟨more, hm⟩ := grown p hp
            rw [← ep] at e ⊢
            rw [hT p hp] at e
            cases e
            exact .inr (.inl ⟨((C p hp).tab (hT p hp)).isCodeTable, rfl, #[], more, rfl, by rw [Array.empty_append]; exact hm⟩)
          · exact .inl (key b o hb e)
        · by_cases hb : b ∈ cs.map (·.2)
          · obtain ⟨p, hp, ep⟩ := List.mem_map.mp hb
            obtain ⟨more, hm⟩ := grown p hp
            rw [← ep]
            exact ⟨_, hm⟩
          · exact ⟨o, key b o hb e⟩
  cases hk : K.lookup a with
  | some o =>
    have e := KX a o hk
    rw [ha] at e
    cases e
    refine core (fun b => if b ∈ cs.map (·.2) then some (.tbl #[]) else none) (fun p hp => if_pos (memT p hp)) (fun b => ?_) (.inr ⟨_, vs.toArray, _, hk, rfl, rfl, rfl, by rw [List.size_toArray, lenV]; exact hl, by simpa using rv⟩) (fun b u z => ?_) (fun b z => ?_) fun z => absurd (show (if a ∈ cs.map (·.2) then some (HO.tbl #[]) else none) = none from if_neg aT) z
    · by_cases hb : b ∈ cs.map (·.2)
      · exact .inr (.inl hb)
      · exact .inl (if_neg hb)
    · by_cases hb : b ∈ cs.map (·.2)
      · have z' := (if_pos hb).symm.trans z
        cases z'
        exact isT b hb
      · have z' := (if_neg hb).symm.trans z
        cases z'
    · by_cases hb : b ∈ cs.map (·.2)
      · exact .inr hb
      · exact absurd (if_neg hb) z
  | none =>
    refine core (fun b => if b = a then some (.frz { cls := .type "list", data := .seq vs.toArray } (.lst (ns.map V.int))) else if b ∈ cs.map (·.2) then some (.tbl #[]) else none) (fun p hp => (if_neg (show ¬ p.2 = a from fun z => aT (by rw [← z]; exact memT p hp))).trans (if_pos (memT p hp))) (fun b => ?_)
      (.inl (.inr ⟨{ cls := .type "list", data := .seq vs.toArray }, if_pos rfl⟩)) (fun b u z => ?_) (fun b z => ?_) fun _ => hk
    · by_cases hb : b = a
      · exact .inr (.inr ⟨_, _, if_pos hb⟩)
      · by_cases hb2 : b ∈ cs.map (·.2)
        · exact .inr (.inl hb2)
        · exact .inl ((if_neg hb).trans (if_neg hb2))
    · by_cases hb : b = a
      · have z' := (if_pos hb).symm.trans z
        cases z'
        rw [hb]
        exact ⟨ha, by rw [List.length_map]; exact hl, vs, _, rv, ha⟩
      · have z1 := (if_neg hb).symm.trans z
        by_cases hb2 : b ∈ cs.map (·.2)
        · have z' := (if_pos hb2).symm.trans z1
          cases z'
          exact isT b hb2
        · have z' := (if_neg hb2).symm.trans z1
          cases z'
    · by_cases hb : b = a
      · exact .inl hb
      · by_cases hb2 : b ∈ cs.map (·.2)
        · exact .inr hb2
        · exact absurd ((if_neg hb).trans (if_neg hb2)) z
/-- what is known when the law is called -/
structure Law0 (P : Program) (w : World) (K : PySem.W.Frag) (mg : Str → Option Value) (base : Heap) (s : Shared) (H : Hp) (a : Addr) (ns : List Int) : Prop where
  len : ns.length ≤ 63
  bm : Bmain base mg
  e0 : Env0 P w K mg base callerA [] s H
  tabs : TabsOk K H
  own : ∀ xs, H a = some (.lst xs) → False
  sq : SqL K H a (ns.map V.int)
/-- the law's promise over a written part -/
def LawT (P : Program) (w : World) (K : PySem.W.Frag) (mg : Str → Option Value) (fa : Addr) : Prop := ∀ (base : Heap) (s : Shared) (H : Hp) (a : Addr) (ns : List Int), K.In base → Law0 P w K mg base s H a ns →
  codeAny (model P w) callerA (.call (.ref fa) ⟨[.ref a], []⟩) (CR (L2.CX P w) [] P w H s (fun v _ => v = .bl true) fun _ _ _ => False) s
theorem walk_T {l : PySem.W.OpenLaw} {q : Program} {loose : List Str} {XP : (Str → Option Value) → Heap → Prop} {YP : World → Heap → Prop} {d : DefRec} {K : Params → PySem.W.Frag} (most : l.most = some 63) (plain : d.params.defaults = [])
    (kin : ∀ (w : World) (h : Heap), YP w h → (K w.params).In h)
    (F : ∀ (w : World) (mg : Str → Option Value) (fa : Addr) (h : Heap), (K w.params).In h → h.Ns mainGlobals mg → (∀ x r, (recsOf q).find? (fun e => e.name == x) = some r → TabI h mg x) → mg d.name = some (.ref fa) →
      ∃ cs : List (Addr × Addr), (∀ p ∈ cs, PySem.W.codeHdIn (K w.params) p.1 p.2 = true) ∧ (∀ p ∈ cs, (K w.params).lookup p.2 = none) ∧ (∀ p ∈ cs, h.get? p.2 = some { cls := .none, data := .fields #[] }) ∧ rootsOf (K w.params) = [] ∧ LawT l.prog w (withRoots (K w.params) cs) mg fa) :
    PySem.W.WalkO q loose XP YP l.row.toRowW d [] (fun f vs => PySem.call f vs) :=
  Att.attach_call most plain fun w _ s1 mg mb fa o _ _ _ a vs ns top Y _ _ _ at_fa at_a whole short bare => by
    have KX := kin w _ Y
    obtain ⟨cs, h1, h2, h3, h4, run⟩ := F w mg fa _ KX top.T.g (fun x r hr => by
      have hn : r.name = x := beq_iff_eq.mp (List.find?_some (p := fun e : DefRec => e.name == x) hr)
      have := top.T.tab r (List.mem_of_find?_eq_some hr)
      rw [hn] at this
      exact this) at_fa
    have lk := lk_roots h1
    refine law_callAt (cs := cs) (lk.In KX) top.T.g top.T.b top.T.builtins top.T.nolimit bare h3 (fun p hp => lk.l (h2 p hp)) (fun p hp => PySem.W.codeHd_of_K KX (h1 p hp)) top.T.bmain at_a whole (Nat.le_trans short (by decide)) fun base H kb nb bm e0 hH hO hS na => ?_
    refine run base s1 H a ns kb ⟨short, bm, e0, fun c P h => ?_, fun xs z => ?_, hS⟩
    · rcases h with ⟨h, _⟩ | ⟨oc, h, _⟩
      · rw [rootsOf_with h4] at h
        exact ⟨#[], hH (c, P) h, trivial, fun pos cv e => by simp [codeAmong] at e⟩
      · rcases hO c with z | z | ⟨o, xs, z⟩
        · rw [z] at h; cases h
        · obtain ⟨p, hp, e⟩ := List.mem_map.mp z
          rw [← e, hH p hp] at h; cases h
        · rw [z] at h; cases h
    · rcases hO a with q | q | ⟨o, ys, q⟩
      · rw [q] at z; cases z
      · exact na q
      · rw [q] at z; cases z
/-! ### defs with their code objects -/
theorem codeX_at {P : Program} {w : World} {K : PySem.W.Frag} {mg : Str → Option Value} {base : Heap} {N : List Str} {qual : Str} {scope : Scope} {f c T : Addr} {A : Around} {outer : List PySem.Env} {s : Shared} {H : Hp} {E : XK} (h : (c, T) ∈ rootsOf K) (e : PySem.W.codeHdIn K c T = true) :
    CodeX (cxOf (L2.CX P w) P w K mg base N qual scope f (.ref c) A outer s H E) := ⟨c, T, rfl, .inl ⟨h, e⟩⟩
/-- a def of known code -/
structure CodeT (K : PySem.W.Frag) (fd : FuncData) where
  c : Addr
  T : Addr
  code : fd.code = .ref c
  mem : (c, T) ∈ rootsOf K
  hd : PySem.W.codeHdIn K c T = true
section
variable {P : Program} {w : World} {K : PySem.W.Frag} {mg : Str → Option Value} {base : Heap}
theorem fn_DC {x qual : Str} {st : Stmt} {f : Addr} {fd : FuncData} {N ps : List Str} {k : Nat} (F : Fun K x qual st f fd) (C : CodeT K fd) (S : FnScope N ps (defScope st)) (G : DS)
    (hb : ∀ (A : Around) (outer : List PySem.Env) (s : Shared) (H : Hp) (E : XK), Room k (A.deeper (envOfC qual (defScope st) s.heap.objs.size f (.ref C.c))) → CodeX (cxOf (L2.CX P w) P w K mg base N qual (defScope st) f (.ref C.c) A outer s H E) →
      BD (cxOf (L2.CX P w) P w K mg base N qual (defScope st) f (.ref C.c) A outer s H E) (WD0 E) (defBody st) G) : FnOk P w K mg base (L2.CX P w) (k + 1) f fd ps (SpD K mg ps.length (mkF N.length G)) := by
  obtain ⟨oc, od, kV, doc, pm, an, cdv, ct, osl, rfl, lk, hcd⟩ := F.ex
  have hc : cdv = .ref C.c := C.code
  refine fn_of lk hcd S (fun vs H Q E h => h.len) fun A outer s H vs Q E hr hsp => ?_
  rw [hc] at hr ⊢
  obtain ⟨b, m, ds, S0, h1, h2, h3, h4⟩ := hsp
  refine ⟨_, hb A outer s H E hr (codeX_at C.mem C.hd), b, m, startE N.length ds, S0, startR h2, h3, ?_⟩
  unfold mkF at h4
  show PostS K mg (WD0 E) b m H _ (G (startE N.length ds) S0)
  cases q : G (startE N.length ds) S0 with
  | bad => rw [q] at h4; exact h4.elim
  | ex e ρ S1 => rw [q] at h4; exact fun m' H' σ' cls dx t v s r => h4 m' H' cls dx t s r
  | ok fl S1 =>
    cases fl with
    | nx ρ => rw [q] at h4; exact fun m' H' σ' t v s => h4 m' H' .non t s .non
    | rt d => rw [q] at h4; exact fun m' H' v t s r => h4 m' H' v t s r
    | bk ρ => rw [q] at h4; exact h4.elim
    | ct ρ => rw [q] at h4; exact h4.elim
theorem lawT {st : Stmt} {f : Addr} {fd : FuncData} {N : List Str} {x : Str} {k : Nat} (F : Fun K "law" "law" st f fd) (sc : FnScope N [x] (defScope st)) (G : DS) (room : Room (k + 1) callerA) (bnd : ∀ (s : Shared) (v : Value), BindsTo s fd ⟨[v], []⟩ [(x, v)])
    (hb : ∀ (base : Heap) (cdv : Value) (s : Shared) (H : Hp) (E : XK), Bmain base mg → fd.code = cdv → Room k (callerA.deeper (envOfC "law" (defScope st) s.heap.objs.size f cdv)) → BD (cxOf (L2.CX P w) P w K mg base N "law" (defScope st) f cdv callerA [] s H E) (WD0 E) (defBody st) G)
    (hG : ∀ ns : List Int, ns.length ≤ 63 → ∃ S, mkF N.length G [scriptD ns] [] = .ok (.bl true) S) : LawT P w K mg f := by
  intro base s H a ns kb L
  obtain ⟨oc, od, kV, doc, pm, an, cdv, ct, osl, rfl, lk, hcd⟩ := F.ex
  obtain ⟨S, hS'⟩ := hG ns L.len
  have reps : Reps K [] [] H [.ref a] [scriptD ns] := .cons (.flst (SqL.f L.sq L.own) (reps_ints ns)) .nil
  refine run_at (us := [Value.ref a]) lk hcd sc room L.e0 (bnd s (.ref a)) (.cons rfl .nil : Vals [V.ref a] [Value.ref a]) rfl (hb base cdv s H _ L.bm rfl (room.deeper _)) ?_
  refine ⟨[], [], startE N.length [scriptD ns], [], startR reps, ⟨rfl, by simp, fun n a c e1 _ => by simp at e1, fun a ha => by simp at ha, L.tabs⟩, ?_⟩
  unfold mkF at hS'
  cases q : G (startE N.length [scriptD ns]) [] with
  | bad => rw [q] at hS'; cases hS'
  | ex e ρ S1 => rw [q] at hS'; cases hS'
  | ok fl S1 =>
    rw [q] at hS'
    cases fl with
    | rt d =>
      cases hS'
      exact fun m' H' v t s r => by cases r; rfl
    | _ => cases hS'
end
end DL
set_option Elab.async false
set_option linter.all false
set_option maxRecDepth 100000
set_option maxHeartbeats 2000000
/-! further rules: a sum of lists that will be written to -/
namespace DL
open PySem PySem.Spec PyProof.Rows L2
def mcatP (x y : D) : M D := fun S => match seqM S x, seqM S y with
  | some xs, some ys => if xs.length + ys.length ≤ sizeLine then mnew (xs ++ ys) S else .bad
  | _, _ => .bad
@[simp] def dCatP (f1 f2 : Env → M D) : Env → M D := fun ρ => mbind (f1 ρ) fun x => mbind (f2 ρ) fun y => mcatP x y
theorem pd_catP {X : Cx} {W : WX} {a c : Expr} {pos : Pos} {fa fc : Env → M D} (ha : PD X W a fa) (hc : PD X W c fc) : PD X W (.BinOp a .Add c pos) (dCatP fa fc) := PE.imp (pe_op op_cat ha hc) fun σ H Q h => by
  obtain ⟨b, m, ρ, S, he, hs, h⟩ := h
  refine ⟨b, m, ρ, S, he, hs, Post.then h fun dx S1 m1 H1 x e1 t1 s1 r1 h1 => ?_⟩
  refine ⟨b, m1, ρ, S1, he.tr t1, s1, Post.then h1 fun dy S2 m2 H2 y e2 t2 s2 r2 h2 => ?_⟩
  have r1' := r1.tr t2
  unfold mcatP at h2
  cases q1 : seqM S2 dx with
  | none => simp only [q1] at h2; exact h2.elim
  | some xs =>
    cases q2 : seqM S2 dy with
    | none => simp only [q1, q2] at h2; exact h2.elim
    | some ys =>
      simp only [q1, q2] at h2
      split at h2
      · rename_i hz
        obtain ⟨p1, vs, rfl, h3, h4⟩ := seqM_rep s2 r1' q1
        obtain ⟨p2, ws, rfl, h5, h6⟩ := seqM_rep s2 r2 q2
        exact ⟨p1, p2, vs, ws, rfl, rfl, h3, h5, by rw [h4.length, h6.length]; exact hz, fun p hp => h2 _ _ _ (Tr.new hp) (s2.new hp (h4.append h6)) (newPtr s2)⟩
      · exact h2.elim
end DL
set_option Elab.async false
set_option linter.all false
set_option maxRecDepth 100000
set_option maxHeartbeats 4000000
/-! values of any shape, bent -/
namespace DL.Pre
open PySem PySem.Spec PyProof.Rows L2 DL
/-! ### values that are tried -/
inductive Sca (P : Str → Prop) (B : Nat) : D → Prop
  | non : Sca P B .non
  | bl (b) : Sca P B (.bl b)
  | int (i : Int) (h : i.natAbs ≤ B) : Sca P B (.int i)
  | str (s) (h : P s) : Sca P B (.str s)
def Val (P : Str → Prop) (B L : Nat) : Nat → D → Prop
  | 0, d => Sca P B d
  | k + 1, d => Sca P B d ∨ ∃ ds, (d = .tup ds ∨ d = .lst ds) ∧ ds.length ≤ L ∧ ∀ x ∈ ds, Val P B L k x
theorem Sca.mono {P Q : Str → Prop} {B B' : Nat} {d : D} (hP : ∀ s, P s → Q s) (hB : B ≤ B') (h : Sca P B d) : Sca Q B' d := by
  cases h with
  | non => exact .non
  | bl b => exact .bl b
  | int i h => exact .int i (Nat.le_trans h hB)
  | str s h => exact .str s (hP s h)
theorem Val.mono {P Q : Str → Prop} {B B' L L' : Nat} (hP : ∀ s, P s → Q s) (hB : B ≤ B') (hL : L ≤ L') : ∀ {k k' : Nat} {d : D}, k ≤ k' → Val P B L k d → Val Q B' L' k' d
  | 0, 0, d, _, h => Sca.mono hP hB h
  | 0, k' + 1, d, _, h => .inl (Sca.mono hP hB h)
  | k + 1, k' + 1, d, hk, h => by
    rcases h with h | ⟨ds, e, hl, h⟩
    · exact .inl (h.mono hP hB)
    · exact .inr ⟨ds, e, Nat.le_trans hl hL, fun x hx => Val.mono hP hB hL (Nat.le_of_succ_le_succ hk) (h x hx)⟩
theorem Val.sca {P : Str → Prop} {B L : Nat} {d : D} (h : Sca P B d) : ∀ k, Val P B L k d
  | 0 => h
  | _ + 1 => .inl h
theorem Val.tup {P : Str → Prop} {B L k : Nat} {ds : List D} (hl : ds.length ≤ L) (h : ∀ x ∈ ds, Val P B L k x) : Val P B L (k + 1) (.tup ds) := .inr ⟨ds, .inl rfl, hl, h⟩
theorem Val.lst {P : Str → Prop} {B L k : Nat} {ds : List D} (hl : ds.length ≤ L) (h : ∀ x ∈ ds, Val P B L k x) : Val P B L (k + 1) (.lst ds) := .inr ⟨ds, .inr rfl, hl, h⟩
theorem Val.tup_inv {P : Str → Prop} {B L k : Nat} {ds : List D} (h : Val P B L (k + 1) (.tup ds)) : ds.length ≤ L ∧ ∀ x ∈ ds, Val P B L k x := by
  rcases h with h | ⟨ds', e | e, hl, h⟩
  · cases h
  · cases e; exact ⟨hl, h⟩
  · cases e
def WT (L : Nat) : Nat → Nat
  | 0 => 100
  | k + 1 => L * (WT L k + 2) + 104
theorem val_list {P : Str → Prop} {B L k : Nat} (ih : ∀ d, Val P B L k d → Plain d = true ∧ Fn d = true ∧ wt d ≤ WT L k ∧ dpt d ≤ k ∧ (∀ n, noPtr n d = true) ∧ dep d ≤ k) : ∀ ds : List D, (∀ x ∈ ds, Val P B L k x) →
    Plains ds = true ∧ Fns ds = true ∧ wts ds ≤ ds.length * (WT L k + 2) ∧ dpts ds ≤ k ∧ (∀ n, noPtrs n ds = true) ∧ deps ds ≤ k
  | [], _ => ⟨rfl, rfl, Nat.zero_le _, Nat.zero_le _, fun _ => rfl, Nat.zero_le _⟩
  | d :: ds, h => by
    obtain ⟨a1, a2, a3, a4, a5, a6⟩ := ih d (h d List.mem_cons_self)
    obtain ⟨b1, b2, b3, b4, b5, b6⟩ := val_list ih ds fun x hx => h x (List.mem_cons_of_mem _ hx)
    refine ⟨by simp [Plains, a1, b1], by simp [Fns, a2, b2], ?_, ?_, fun n => by simp [noPtrs, a5 n, b5 n], ?_⟩
    · show wt d + 2 + wts ds ≤ (ds.length + 1) * (WT L k + 2)
      rw [Nat.succ_mul]
      omega
    · show max (dpt d) (dpts ds) ≤ k
      omega
    · show max (dep d) (deps ds) ≤ k
      omega
theorem val_ok {P : Str → Prop} {B L : Nat} (hP : ∀ s, P s → PyData.strOk s = true ∧ (reprText s).length ≤ 100) (hB : B < 10 ^ 18) (hL : L < 16777216) : ∀ (k : Nat) (d : D), Val P B L k d →
    Plain d = true ∧ Fn d = true ∧ wt d ≤ WT L k ∧ dpt d ≤ k ∧ (∀ n, noPtr n d = true) ∧ dep d ≤ k := by
  have base : ∀ d, Sca P B d → Plain d = true ∧ Fn d = true ∧ wt d = 100 ∧ dpt d = 0 ∧ (∀ n, noPtr n d = true) ∧ dep d = 0 := fun d h => by
    cases h with
    | non => exact ⟨rfl, rfl, rfl, rfl, fun _ => rfl, rfl⟩
    | bl b => exact ⟨rfl, rfl, rfl, rfl, fun _ => rfl, rfl⟩
    | int i h => exact ⟨rfl, decide_eq_true (by omega), rfl, rfl, fun _ => rfl, rfl⟩
    | str s h => exact ⟨(hP s h).1, decide_eq_true (hP s h).2, rfl, rfl, fun _ => rfl, rfl⟩
  intro k
  induction k with
  | zero => intro d h; obtain ⟨a, b, c, e, f, g⟩ := base d h; exact ⟨a, b, Nat.le_of_eq c, Nat.le_of_eq e, f, Nat.le_of_eq g⟩
  | succ k ih =>
    intro d h
    rcases h with h | ⟨ds, e, hl, h⟩
    · obtain ⟨a, b, c, e, f, g⟩ := base d h
      exact ⟨a, b, by rw [c]; show 100 ≤ L * (WT L k + 2) + 104; omega, by omega, f, by omega⟩
    · obtain ⟨b1, b2, b3, b4, b5, b6⟩ := val_list ih ds h
      have hm : ds.length * (WT L k + 2) ≤ L * (WT L k + 2) := Nat.mul_le_mul_right _ hl
      rcases e with rfl | rfl
      · refine ⟨?_, b2, ?_, ?_, b5, ?_⟩
        · simp only [Plain, b1, Bool.true_and, decide_eq_true_eq]; omega
        · show wts ds + 4 ≤ L * (WT L k + 2) + 104; omega
        · show dpts ds + 1 ≤ k + 1; omega
        · show deps ds + 1 ≤ k + 1; omega
      · refine ⟨?_, b2, ?_, ?_, b5, ?_⟩
        · simp only [Plain, b1, Bool.true_and, decide_eq_true_eq]; omega
        · show wts ds + 4 ≤ L * (WT L k + 2) + 104; omega
        · show dpts ds + 1 ≤ k + 1; omega
        · show deps ds + 1 ≤ k + 1; omega
/-! ### stores with the pool in front -/
def St (R S : Sto) : Prop := ∃ ds, PoolOk ds ∧ S = .lst ds :: R
theorem St.len {R S : Sto} (h : St R S) : S.length = R.length + 1 := by obtain ⟨ds, _, rfl⟩ := h; rfl
theorem dS {R S : Sto} (h : St R S) (many : Int) (h0 : 0 < many) (h1 : many < 1073741824) : ∃ k S', St R S' ∧ 0 ≤ k ∧ k < many ∧ nox (F__law_draw [.ptr 0, .int many]) S = .ok (.int k) S' := by
  obtain ⟨ds, hp, rfl⟩ := h
  obtain ⟨k, ds', h2, h3, h4, h5⟩ := draw_ok (S := .lst ds :: R) (p := 0) rfl hp h0 h1
  exact ⟨k, _, ⟨ds', h2, rfl⟩, h3, h4, nox_ok h5⟩
/-- the other lists hold no reference to lists made later -/
def Cl (R : Sto) : Prop := R.all (noPtrC (R.length + 1)) = true
theorem pool_nopn {ds : List D} (n : Nat) (hp : PoolOk ds) : noPtrC n (.lst ds) = true := by
  obtain ⟨scr, cur, val, cnt, salt, rfl, _, _⟩ := hp
  show (noPtrs n (scr.map D.int) && true) = true
  rw [nop_ints]
  rfl
theorem finS {R S : Sto} {n : Nat} {c : Cell} {d : D} (h : St R S) (hR : Cl R) (hn : n = R.length + 1) (hd : ∀ n, noPtr n d = true) : finO n (.ok d (S ++ [c])) = .ok d S := by
  subst hn
  have hl := h.len
  obtain ⟨ds, hp, rfl⟩ := h
  have e1 : ¬ ((.lst ds :: R ++ [c] : Sto)).length = R.length + 1 := by simp
  have e0 : ((.lst ds :: R ++ [c] : Sto)).take (R.length + 1) = .lst ds :: R := by
    rw [List.take_append_of_le_length (by simp), List.take_of_length_le (by simp)]
  have e2 : (((.lst ds :: R ++ [c] : Sto)).take (R.length + 1)).all (noPtrC (R.length + 1)) = true := by
    rw [e0, List.all_cons, pool_nopn _ hp]
    exact hR
  have e3 : fz (.lst ds :: R ++ [c]) (R.length + 1) d = some d := if_pos (hd _)
  simp only [finO]
  rw [if_neg e1, if_pos e2]
  simp only [e3, e0]
theorem ofPtr_end (S : Sto) (xs : List D) : ofPtr (S ++ [.lst xs]) S.length = some xs := ofPtr_of (by rw [List.getElem?_append_right (Nat.le_refl _)]; simp)
theorem setAt_end (S : Sto) (xs : List D) (i : Int) (d : D) (h0 : 0 ≤ i) (h1 : i < xs.length) : setAt (S ++ [.lst xs]) (.ptr S.length) (.int i) d = some (S ++ [.lst (xs.set i.toNat d)]) := by
  have e : ixN xs.length i = some i.toNat := by
    unfold ixN
    rw [if_pos h0, if_pos h1]
  rw [setAt_ptr (ofPtr_end S xs) e]
  congr 1
  rw [List.set_append_right _ _ (Nat.le_refl _)]
  simp
theorem sl_take (S : Sto) (xs : List D) (k : Int) (h0 : 0 ≤ k) (h1 : k ≤ xs.length) : gSl S none (some k) (.tup xs) = some (.tup (xs.take k.toNat)) := by
  obtain ⟨n, rfl⟩ : ∃ n : Nat, k = n := ⟨k.toNat, by omega⟩
  show some (D.tup (cutD xs none (some (n : Int)))) = _
  unfold cutD
  rw [HT.sIx_none, HT.sIx_nat, List.drop_zero]
  rw [Nat.min_eq_left (by omega)]
  simp
theorem sl_drop (S : Sto) (xs : List D) (k : Int) (h0 : 0 ≤ k) (h1 : k ≤ xs.length) : gSl S (some k) none (.tup xs) = some (.tup (xs.drop k.toNat)) := by
  obtain ⟨n, rfl⟩ : ∃ n : Nat, k = n := ⟨k.toNat, by omega⟩
  show some (D.tup (cutD xs (some (n : Int)) none)) = _
  unfold cutD
  rw [HT.sIx_none, HT.sIx_nat]
  rw [Nat.min_eq_left (by omega), List.take_of_length_le (by simp)]
  simp
theorem at_mem {xs : List D} {k : Int} (h0 : 0 ≤ k) (h1 : k < xs.length) : ∃ x ∈ xs, atI xs k = some x := by
  have h : k.toNat < xs.length := by omega
  exact ⟨xs[k.toNat], List.getElem_mem h, atI_in h0 (List.getElem?_eq_getElem h)⟩
/-! ### a value bent -/
/-- what becomes of a text that is bent -/
def BentStr (P Q : Str → Prop) : Prop := Q "x" ∧ (∀ s, P s → Q s) ∧ ∀ s, P s → s.length ≤ 1000 ∧ ∀ S, ∃ s1 s2, gSl S (some 1) none (.str s) = some (.str s1) ∧ gSl S none (some 1) (.str s) = some (.str s2) ∧ Q s1 ∧ Q s2 ∧ Q (s ++ "a") ∧ Q (s ++ "A") ∧ Q (s ++ " ")
theorem bentStr_no : BentStr (fun _ => False) (fun s => s = "x") := ⟨rfl, fun _ h => h.elim, fun _ h => h.elim⟩
theorem bent_0 {n : Nat} {v : D} {R S1 S : Sto} {Q : Str → Prop} {B L k : Nat} (h1 : St R S1) (hl0 : S.length = R.length + 1) (hx : Q "x")
    (g : ∀ (d : D) (S2 : Sto) (k2 : Int), nox (F__law_draw [.ptr 0, .int 8]) S1 = .ok (.int k2) S2 → atI ([.str "x", .bl true, .tup [], .int 0, .int (-1), .non, .bl false, .lst []] : List D) k2 = some d → St R S2 → F__law_bent (n + 1) [.ptr 0, v] S = finO (S.length) (.ok d S2)) :
    ∃ d S', St R S' ∧ Val Q (B + 2) (L + 1) (k + 1) d ∧ F__law_bent (n + 1) [.ptr 0, v] S = .ok d S' := by
  obtain ⟨k2, S2, p2, a2, b2, e2⟩ := dS h1 8 (by decide) (by decide)
  have c : k2 = 0 ∨ k2 = 1 ∨ k2 = 2 ∨ k2 = 3 ∨ k2 = 4 ∨ k2 = 5 ∨ k2 = 6 ∨ k2 = 7 := by omega
  have t : ∀ d : D, Val Q (B + 2) (L + 1) (k + 1) d → ([.str "x", .bl true, .tup [], .int 0, .int (-1), .non, .bl false, .lst []] : List D)[k2.toNat]? = some d → ∃ d S', St R S' ∧ Val Q (B + 2) (L + 1) (k + 1) d ∧ F__law_bent (n + 1) [.ptr 0, v] S = .ok d S' := fun d hd hg =>
    ⟨d, S2, p2, hd, (g d S2 k2 e2 (atI_in a2 hg) p2).trans (finO_ok' _ _ (by rw [p2.len, hl0]))⟩
  rcases c with rfl | rfl | rfl | rfl | rfl | rfl | rfl | rfl
  · exact t (.str "x") (.sca (.str _ hx) _) rfl
  · exact t (.bl true) (.sca (.bl _) _) rfl
  · exact t (.tup []) (.tup (by simp) (by simp)) rfl
  · exact t (.int 0) (.sca (.int _ (by omega)) _) rfl
  · exact t (.int (-1)) (.sca (.int _ (by omega)) _) rfl
  · exact t .non (.sca .non _) rfl
  · exact t (.bl false) (.sca (.bl _) _) rfl
  · exact t (.lst []) (.lst (by simp) (by simp)) rfl

theorem bent_tail {n : Nat} {v : D} {P Q : Str → Prop} {B L k : Nat} (hPQ : BentStr P Q) (hL : L ≤ 1000) (hL1 : 1 ≤ L) {R S : Sto} (hS : St R S) (hv : Val P B L k v) (hpl : Plain v = true) (hd : ∀ ds, v = .tup ds → ds = []) :
    ∃ d S', St R S' ∧ Val Q (B + 2) (L + 1) (k + 1) d ∧ F__law_bent (n + 1) [.ptr 0, v] S = .ok d S' := by
  have vQ : Val Q (B + 2) (L + 1) k v := hv.mono hPQ.2.1 (Nat.le_add_right _ _) (Nat.le_succ _) (Nat.le_refl _)
  obtain ⟨k1, S1, p1, a1, b1, e1⟩ := dS hS 9 (by decide) (by decide)
  have ei := nox_ok (v_is_integer v S1 hpl)
  have hlen := hS.len
  by_cases hk : k1 = 0
  · subst hk
    refine bent_0 p1 hlen hPQ.1 fun d S2 k2 e2 e3 p2 => ?_
    cases v with
    | tup ds =>
      cases hd ds rfl
      rw [F__law_bent]; simp -implicitDefEqProofs [G__law_bent, e1, e2, e3]
    | non => rw [F__law_bent]; simp -implicitDefEqProofs [G__law_bent, e1, e2, e3]
    | bl b => rw [F__law_bent]; simp -implicitDefEqProofs [G__law_bent, e1, e2, e3]
    | int i => rw [F__law_bent]; simp -implicitDefEqProofs [G__law_bent, e1, e2, e3]
    | str s => rw [F__law_bent]; simp -implicitDefEqProofs [G__law_bent, e1, e2, e3]
    | lst ds => rw [F__law_bent]; simp -implicitDefEqProofs [G__law_bent, e1, e2, e3]
    | _ => cases hpl
  · have fin1 : ∀ d : D, finO S.length (.ok d S1) = .ok d S1 := fun d => finO_ok' _ _ (by rw [p1.len, hlen])
    have vp : Val Q (B + 2) (L + 1) (k + 1) (.tup [v, .int 0]) := .tup (by simp; omega) fun x hx => by
      rcases List.mem_cons.mp hx with rfl | hx
      · exact vQ
      · simp at hx; subst hx; exact .sca (.int _ (by omega)) _
    have v0 : Val Q (B + 2) (L + 1) (k + 1) (.tup []) := .tup (by simp) (by simp)
    cases v with
    | int i =>
      obtain ⟨k2, S2, p2, a2, b2, e2⟩ := dS p1 4 (by decide) (by decide)
      have fin2 : ∀ d : D, finO S.length (.ok d S2) = .ok d S2 := fun d => finO_ok' _ _ (by rw [p2.len, hlen])
      have hi : i.natAbs ≤ B := by
        cases k with
        | zero => cases hv with | int _ h => exact h
        | succ k =>
          rcases hv with h | ⟨ds, e | e, _⟩
          · cases h with | int _ h => exact h
          · cases e
          · cases e
      have c : k2 = 0 ∨ k2 = 1 ∨ k2 = 2 ∨ k2 = 3 := by omega
      have t : ∀ j : Int, j.natAbs ≤ 2 → ([.int 1, .int (-1), .int 2, .int 0] : List D)[k2.toNat]? = some (.int j) → ∃ d S', St R S' ∧ Val Q (B + 2) (L + 1) (k + 1) d ∧ F__law_bent (n + 1) [.ptr 0, .int i] S = .ok d S' := fun j hj hg => by
        have e3 : atI ([.int 1, .int (-1), .int 2, .int 0] : List D) k2 = some (.int j) := atI_in a2 hg
        refine ⟨.int (i + j), S2, p2, .sca (.int _ (by omega)) _, ?_⟩
        rw [F__law_bent]
        simp -implicitDefEqProofs [G__law_bent, e1, e2, e3, hk, ei, isint]
        exact fin2 _
      rcases c with rfl | rfl | rfl | rfl
      · exact t 1 (by decide) rfl
      · exact t (-1) (by decide) rfl
      · exact t 2 (by decide) rfl
      · exact t 0 (by decide) rfl
    | str s =>
      have hs : P s := by
        cases k with
        | zero => cases hv with | str _ h => exact h
        | succ k =>
          rcases hv with h | ⟨ds, e | e, _⟩
          · cases h with | str _ h => exact h
          · cases e
          · cases e
      obtain ⟨hl, z⟩ := hPQ.2.2 s hs
      obtain ⟨s1, s2, z1, z2, q1, q2, q3, q4, q5⟩ := z S1
      obtain ⟨k2, S2, p2, a2, b2, e2⟩ := dS p1 5 (by decide) (by decide)
      have fin2 : ∀ d : D, finO S.length (.ok d S2) = .ok d S2 := fun d => finO_ok' _ _ (by rw [p2.len, hlen])
      have c : k2 = 0 ∨ k2 = 1 ∨ k2 = 2 ∨ k2 = 3 ∨ k2 = 4 := by omega
      have l1 : s.length + (Str.ofString "a").length ≤ 16777216 := by have : (Str.ofString "a").length = 1 := rfl; omega
      have l2 : s.length + (Str.ofString "A").length ≤ 16777216 := by have : (Str.ofString "A").length = 1 := rfl; omega
      have l3 : s.length + (Str.ofString " ").length ≤ 16777216 := by have : (Str.ofString " ").length = 1 := rfl; omega
      have t : ∀ j : Str, Q j → ([.str (s ++ "a"), .str s1, .str (s ++ "A"), .str (s ++ " "), .str s2] : List D)[k2.toNat]? = some (.str j) → ∃ d S', St R S' ∧ Val Q (B + 2) (L + 1) (k + 1) d ∧ F__law_bent (n + 1) [.ptr 0, .str s] S = .ok d S' := fun j hj hg => by
        have e3 : atI ([.str (s ++ "a"), .str s1, .str (s ++ "A"), .str (s ++ " "), .str s2] : List D) k2 = some (.str j) := atI_in a2 hg
        refine ⟨.str j, S2, p2, .sca (.str _ hj) _, ?_⟩
        rw [F__law_bent]
        simp -implicitDefEqProofs [G__law_bent, e1, e2, hk, ei, isint, z1, z2, l1, l2, l3, e3]
        exact fin2 _
      rcases c with rfl | rfl | rfl | rfl | rfl
      · exact t _ q3 rfl
      · exact t _ q1 rfl
      · exact t _ q4 rfl
      · exact t _ q5 rfl
      · exact t _ q2 rfl
    | tup ds =>
      cases hd ds rfl
      by_cases g5 : k1 < 5
      · exact ⟨_, S1, p1, vp, by rw [F__law_bent]; simp -implicitDefEqProofs [G__law_bent, e1, hk, ei, isint, g5]; exact fin1 _⟩
      · exact ⟨_, S1, p1, v0, by rw [F__law_bent]; simp -implicitDefEqProofs [G__law_bent, e1, hk, ei, isint, g5]; exact fin1 _⟩
    | non =>
      by_cases g5 : k1 < 5
      · exact ⟨_, S1, p1, vp, by rw [F__law_bent]; simp -implicitDefEqProofs [G__law_bent, e1, hk, ei, isint, g5]; exact fin1 _⟩
      · exact ⟨_, S1, p1, v0, by rw [F__law_bent]; simp -implicitDefEqProofs [G__law_bent, e1, hk, ei, isint, g5]; exact fin1 _⟩
    | bl b =>
      by_cases g5 : k1 < 5
      · exact ⟨_, S1, p1, vp, by rw [F__law_bent]; simp -implicitDefEqProofs [G__law_bent, e1, hk, ei, isint, g5]; exact fin1 _⟩
      · exact ⟨_, S1, p1, v0, by rw [F__law_bent]; simp -implicitDefEqProofs [G__law_bent, e1, hk, ei, isint, g5]; exact fin1 _⟩
    | lst ds =>
      by_cases g5 : k1 < 5
      · exact ⟨_, S1, p1, vp, by rw [F__law_bent]; simp -implicitDefEqProofs [G__law_bent, e1, hk, ei, isint, g5]; exact fin1 _⟩
      · exact ⟨_, S1, p1, v0, by rw [F__law_bent]; simp -implicitDefEqProofs [G__law_bent, e1, hk, ei, isint, g5]; exact fin1 _⟩
    | _ => cases hpl
/-- a tuple bent at its top -/
theorem bent_top {n : Nat} {P Q : Str → Prop} {B L k : Nat} (hPQ : BentStr P Q) (hL : L ≤ 1000) (hL1 : 1 ≤ L) {R S S0 : Sto} (hR : Cl R) (hS : St R S) {xs : List D} (hx : xs ≠ []) (hv : Val P B L (k + 1) (.tup xs)) (hpl : Plain (.tup xs) = true) (hQ : ∀ v, Val Q (B + 2) (L + 1) (k + 1) v → ∀ n, noPtr n v = true)
    (e0 : nox (F__law_draw [.ptr 0, .int 3]) S = .ok (.int 0) S0) (p0 : St R S0) :
    ∃ d S', St R S' ∧ Val Q (B + 2) (L + 1) (k + 2) d ∧ F__law_bent (n + 1) [.ptr 0, .tup xs] S = .ok d S' := by
  obtain ⟨hl, hm⟩ := hv.tup_inv
  have hm : ∀ x ∈ xs, Val Q (B + 2) (L + 1) k x := fun x hx => (hm x hx).mono hPQ.2.1 (Nat.le_add_right _ _) (Nat.le_succ _) (Nat.le_refl _)
  obtain ⟨k1, S1, p1, a1, b1, e1⟩ := dS p0 9 (by decide) (by decide)
  have ei := nox_ok (v_is_integer (.tup xs) S1 hpl)
  have hlen := hS.len
  have hpos : 0 < xs.length := List.length_pos_iff.mpr hx
  have g0 : (0 : Int) < xs.length := by omega
  have gz : ¬ ((xs.length : Int) = 0) := by omega
  have gz' : xs.length ≠ 0 := by omega
  by_cases hk : k1 = 0
  · subst hk
    refine bent_0 p1 hlen hPQ.1 fun d S2 k2 e2 e3 p2 => ?_
    rw [F__law_bent]; simp -implicitDefEqProofs [G__law_bent, e0, e1, e2, e3, g0, hpos, hx]
  · obtain ⟨k2, S2, p2, a2, b2, e2⟩ := dS p1 xs.length g0 (by omega)
    have st := sl_take S2 xs k2 a2 (by omega)
    have sd := sl_drop S2 xs k2 a2 (by omega)
    have sd1 := sl_drop S2 xs (k2 + 1) (by omega) (by omega)
    obtain ⟨y, hy, ey⟩ := at_mem a2 b2
    have mt : ∀ x ∈ xs.take k2.toNat, Val Q (B + 2) (L + 1) k x := fun x hx => hm x (List.mem_of_mem_take hx)
    have md : ∀ x ∈ xs.drop k2.toNat, Val Q (B + 2) (L + 1) k x := fun x hx => hm x (List.mem_of_mem_drop hx)
    have md1 : ∀ x ∈ xs.drop (k2 + 1).toNat, Val Q (B + 2) (L + 1) k x := fun x hx => hm x (List.mem_of_mem_drop hx)
    have fin2 : ∀ d : D, finO S.length (.ok d S2) = .ok d S2 := fun d => finO_ok' _ _ (by rw [p2.len, hlen])
    have w : ∀ {zs : List D}, zs.length ≤ L + 1 → (∀ x ∈ zs, Val Q (B + 2) (L + 1) k x) → Val Q (B + 2) (L + 1) (k + 2) (.tup zs) := fun h1 h2 => Val.mono (fun _ h => h) (Nat.le_refl _) (Nat.le_refl _) (Nat.le_succ (k + 1)) (.tup h1 h2)
    have n1 : (xs.take k2.toNat).length = k2.toNat := by rw [List.length_take]; omega
    have n2 : (xs.drop k2.toNat).length = xs.length - k2.toNat := List.length_drop
    have n3 : (xs.drop (k2 + 1).toNat).length = xs.length - (k2.toNat + 1) := by rw [List.length_drop]; omega
    have le1 : (xs.take k2.toNat).length + (xs.drop (k2 + 1).toNat).length ≤ 16777216 := by omega
    have le2 : (xs.take k2.toNat).length + 1 ≤ 16777216 := by omega
    have le3 : (xs.take k2.toNat).length + 1 + (xs.drop k2.toNat).length ≤ 16777216 := by omega
    by_cases g3 : k1 < 3
    · refine ⟨.tup (xs.take k2.toNat ++ xs.drop (k2 + 1).toNat), S2, p2, w (by rw [List.length_append]; omega) fun x hx => (List.mem_append.mp hx).elim (mt x) (md1 x), ?_⟩
      rw [F__law_bent]
      simp -implicitDefEqProofs [-List.length_take, -List.length_drop, G__law_bent, e0, e1, e2, g0, hpos, hx, hk, ei, isint, g3, st, sd1, le1]
      exact fin2 _
    · by_cases g5 : k1 < 5
      · refine ⟨.tup ((xs.take k2.toNat ++ [y]) ++ xs.drop k2.toNat), S2, p2, w (by rw [List.length_append, List.length_append, List.length_singleton]; omega) fun x hx => ?_, ?_⟩
        · rcases List.mem_append.mp hx with hx | hx
          · rcases List.mem_append.mp hx with hx | hx
            · exact mt x hx
            · rw [List.mem_singleton.mp hx]; exact hm y hy
          · exact md x hx
        rw [F__law_bent]
        simp -implicitDefEqProofs [-List.length_take, -List.length_drop, G__law_bent, e0, e1, e2, g0, hpos, hx, hk, ei, isint, g3, g5, st, sd, ey, le2, le3]
        exact fin2 _
      · by_cases g6 : k1 = 5
        · refine ⟨.lst xs, S2, p2, Val.mono (fun _ h => h) (Nat.le_refl _) (Nat.le_refl _) (Nat.le_succ (k + 1)) (.lst (by omega) hm), ?_⟩
          rw [F__law_bent]
          simp -implicitDefEqProofs [G__law_bent, e0, e1, e2, g0, hpos, hx, hk, ei, isint, g3, g5, g6]
          exact fin2 _
        · obtain ⟨k4, S4, p4, a4, b4, e4⟩ := dS p2 xs.length g0 (by omega)
          obtain ⟨z, hz, ez⟩ := at_mem a4 b4
          have s1 := setAt_end S4 xs k2 z a2 b2
          have s2 := setAt_end S4 (xs.set k2.toNat z) k4 y a4 (by rw [List.length_set]; exact b4)
          have mm : ∀ x ∈ (xs.set k2.toNat z).set k4.toNat y, Val Q (B + 2) (L + 1) k x := fun x hx => by
            rcases List.mem_or_eq_of_mem_set hx with h | rfl
            · rcases List.mem_or_eq_of_mem_set h with h | rfl
              · exact hm x h
              · exact hm _ hz
            · exact hm _ hy
          have ct : cTuple (S4 ++ [.lst ((xs.set k2.toNat z).set k4.toNat y)]) [.ptr S4.length] = some (.tup ((xs.set k2.toNat z).set k4.toNat y)) := by
            unfold cTuple
            simp only [seqA_ptr, ofPtr_end]
          refine ⟨.tup ((xs.set k2.toNat z).set k4.toNat y), S4, p4, w (by rw [List.length_set, List.length_set]; omega) mm, ?_⟩
          rw [F__law_bent]
          simp -implicitDefEqProofs [G__law_bent, e0, e1, e2, g0, hpos, hx, hk, ei, isint, g3, g5, g6, e4, mlistP, ey, ez, s1, s2, ct]
          exact finS p4 hR hlen fun n => hQ _ (.tup (by rw [List.length_set, List.length_set]; omega) mm) n
theorem bent_ok {P Q : Str → Prop} {B L : Nat} (hPQ : BentStr P Q) (hL : L ≤ 1000) (hL1 : 1 ≤ L) {R : Sto} (hR : Cl R) (hP : ∀ s, P s → PyData.strOk s = true ∧ (reprText s).length ≤ 100) (hQ : ∀ s, Q s → PyData.strOk s = true ∧ (reprText s).length ≤ 100) (hB : B + 2 < 10 ^ 18) : ∀ (k n : Nat) (v : D) (S : Sto), Val P B L k v → k ≤ n → St R S →
    ∃ d S', St R S' ∧ Val Q (B + 2) (L + 1) (k + 1) d ∧ F__law_bent (n + 1) [.ptr 0, v] S = .ok d S' := by
  intro k
  induction k with
  | zero =>
    intro n v S hv hn hS
    exact bent_tail hPQ hL hL1 hS hv (val_ok hP (by omega) (by omega) 0 v hv).1 fun ds e => by subst e; cases hv
  | succ k ih =>
    intro n v S hv hn hS
    by_cases hd : ∀ ds, v = .tup ds → ds = []
    · exact bent_tail hPQ hL hL1 hS hv (val_ok hP (by omega) (by omega) _ v hv).1 hd
    · obtain ⟨xs, hd⟩ := Classical.not_forall.mp hd
      obtain ⟨rfl, hx⟩ := Classical.not_imp.mp hd
      have hpl := (val_ok hP (by omega) (by omega) _ _ hv).1
      obtain ⟨k0, S0, p0, a0, b0, e0⟩ := dS hS 3 (by decide) (by decide)
      by_cases h0 : k0 = 0
      · subst h0
        exact bent_top hPQ hL hL1 hR hS hx hv hpl (fun v hv => (val_ok hQ hB (by omega) _ v hv).2.2.2.2.1) e0 p0
      · obtain ⟨hl, hm⟩ := hv.tup_inv
        have hpos : 0 < xs.length := List.length_pos_iff.mpr hx
        have g0 : (0 : Int) < xs.length := by omega
        have h0' : 0 < k0 := by omega
        obtain ⟨k1, S1, p1, a1, b1, e1⟩ := dS p0 xs.length g0 (by omega)
        obtain ⟨y, hy, ey⟩ := at_mem a1 b1
        obtain ⟨m, rfl⟩ : ∃ m, n = m + 1 := ⟨n - 1, by omega⟩
        obtain ⟨d, S2, p2, vd, e2⟩ := ih m y S1 (hm y hy) (by omega) p1
        have e2 := nox_ok e2
        have st := sl_take S1 xs k1 a1 (by omega)
        have sd1 := sl_drop S2 xs (k1 + 1) (by omega) (by omega)
        have n1 : (xs.take k1.toNat).length = k1.toNat := by rw [List.length_take]; omega
        have n3 : (xs.drop (k1 + 1).toNat).length = xs.length - (k1.toNat + 1) := by rw [List.length_drop]; omega
        have le2 : (xs.take k1.toNat).length + 1 ≤ 16777216 := by omega
        have le3 : (xs.take k1.toNat).length + 1 + (xs.drop (k1 + 1).toNat).length ≤ 16777216 := by omega
        have up : ∀ x ∈ xs, Val Q (B + 2) (L + 1) (k + 1) x := fun x hx => (hm x hx).mono hPQ.2.1 (Nat.le_add_right _ _) (Nat.le_succ _) (Nat.le_succ _)
        refine ⟨.tup ((xs.take k1.toNat ++ [d]) ++ xs.drop (k1 + 1).toNat), S2, p2, .tup (by rw [List.length_append, List.length_append, List.length_singleton]; omega) fun x hx => ?_, ?_⟩
        · rcases List.mem_append.mp hx with hx | hx
          · rcases List.mem_append.mp hx with hx | hx
            · exact up x (List.mem_of_mem_take hx)
            · rw [List.mem_singleton.mp hx]; exact vd
          · exact up x (List.mem_of_mem_drop hx)
        · rw [F__law_bent]
          simp -implicitDefEqProofs [-List.length_take, -List.length_drop, G__law_bent, e0, e1, e2, g0, hpos, h0', hx, st, sd1, ey, le2, le3]
          exact finO_ok' _ _ (by rw [p2.len, hS.len])
end DL.Pre
set_option Elab.async false
set_option linter.all false
set_option maxRecDepth 100000
set_option maxHeartbeats 4000000
/-! faces, plates, lays -/
namespace DL.Pre
open PySem PySem.Spec PyProof.Rows L2 DL
def G__law_listed (F__law_listed_ : List D → M D) : DS := (sSeq (sIf (dNot (dTrue (dCallB cIsi (aCons (dVar 0) (aCons (dC (.ty "tuple")) aNil))))) (sRet (dVar 0)) sNil)
  (sRet (dIfE (dTest (dOp2 gEq (dVar 1) (dC (.int 0)))) (dCallB cList (aCons (dVar 0) aNil)) (dCallB cTuple (aCons (dComp (iTupD (dVar 0)) (gtName 2) dYes (dCall 2 F__law_listed_ (aCons (dVar 2) (aCons (dOp2 gSub (dVar 1) (dC (.int 1))) aNil))) [2]) aNil)))))
def F__law_listed : Nat → List D → M D
  | 0 => fun _ => mbad
  | n + 1 => fzF (mkF 3 (G__law_listed (F__law_listed n)))
def G_is_face : DS := (sSeq (sIf (dNot (dTrue (dCall 2 F_is_tuple_of (aCons (dVar 0) (aCons (dC (.int 2)) aNil))))) (sRet (dC (.bl false))) sNil)
  (sSeq (sAsg (dVar 0) (gtTup 2 (gtCons (gtName 1) (gtCons (gtName 2) gtNil))))
  (sSeq (sIf (dOr (dNot (dTrue (dCall 3 F_is_between (aCons (dVar 1) (aCons (dC (.int 0)) (aCons (dC (.int 9999)) aNil)))))) (dNot (dTrue (dCall 3 F_is_between (aCons (dVar 2) (aCons (dC (.int 0)) (aCons (dC (.int 1)) aNil))))))) (sRet (dC (.bl false))) sNil)
  (sRet (dOrV (dOp2 gGt (dVar 1) (dC (.int 0))) (dOp2 gEq (dVar 2) (dC (.int 0))))))))
def F_is_face : List D → M D := fzF (mkF 3 G_is_face)
def G_is_plate : DS := (sSeq (sAsg (dVar 0) (gtTup 2 (gtCons (gtName 2) (gtCons (gtName 3) gtNil))))
  (sSeq (sIf (dNot (dTrue (dCall 2 F_is_tuple_of (aCons (dVar 1) (aCons (dVar 2) aNil))))) (sRet (dC (.bl false))) sNil)
  (sRet (dBoolG false (iTupD (dVar 1)) (gtName 4) dYes (dAndV (dCall 2 F_is_tuple_of (aCons (dVar 4) (aCons (dVar 3) aNil))) (dBoolG false (iTupD (dVar 4)) (gtName 5) dYes (dCall 1 F_is_face (aCons (dVar 5) aNil)) [5])) [4]))))
def F_is_plate : List D → M D := fzF (mkF 6 G_is_plate)
def G__law_face : DS := (sSeq (sAsg (dOp2 gIx (dTup (aCons (dCall 2 F__law_draw (aCons (dVar 0) (aCons (dC (.int 10000)) aNil))) (aCons (dC (.int 0)) (aCons (dOp2 gAdd (dC (.int 1)) (dCall 2 F__law_draw (aCons (dVar 0) (aCons (dC (.int 9)) aNil)))) (aCons (dC (.int 9999)) aNil))))) (dCall 2 F__law_draw (aCons (dVar 0) (aCons (dC (.int 4)) aNil)))) (gtName 1))
  (sRet (dTup (aCons (dVar 1) (aCons (dIfE (dTest (dOp2 gGt (dVar 1) (dC (.int 0)))) (dCall 2 F__law_draw (aCons (dVar 0) (aCons (dC (.int 2)) aNil))) (dC (.int 0))) aNil)))))
def F__law_face : List D → M D := fzF (mkF 2 G__law_face)
def G__law_is_face : DS := (sSeq (sIf (dOr (dNot (dTrue (dCallB cIsi (aCons (dVar 0) (aCons (dC (.ty "tuple")) aNil))))) (dOr (dTest (dOp2 gNe (dCallB cLen (aCons (dVar 0) aNil)) (dC (.int 2)))) (dOr (dNot (dTrue (dCall 2 F__law_is_number (aCons (dOp2 gIx (dVar 0) (dC (.int 0))) (aCons (dC (.int 9999)) aNil))))) (dNot (dTrue (dCall 2 F__law_is_number (aCons (dOp2 gIx (dVar 0) (dC (.int 1))) (aCons (dC (.int 1)) aNil)))))))) (sRet (dC (.bl false))) sNil)
  (sRet (dOp2 gNe (dVar 0) (dTup (aCons (dC (.int 0)) (aCons (dC (.int 1)) aNil))))))
def F__law_is_face : List D → M D := fzF (mkF 1 G__law_is_face)
def G_is_lay : DS := (sRet (dAndV (dCall 2 F_is_tuple_of (aCons (dVar 1) (aCons (dC (.int 2)) aNil))) (dAndV (dCall 2 F_is_plate (aCons (dVar 0) (aCons (dOp2 gIx (dVar 1) (dC (.int 0))) aNil))) (dCall 2 F_is_plate (aCons (dVar 0) (aCons (dOp2 gIx (dVar 1) (dC (.int 1))) aNil))))))
def F_is_lay : List D → M D := fzF (mkF 2 G_is_lay)
def G__law_plate : DS := (sRet (dCallB cTuple (aCons (dComp (iArgs rng1 (aCons (dOp2 gIx (dVar 1) (dC (.int 0))) aNil)) (gtName 2) dYes (dCallB cTuple (aCons (dComp (iArgs rng1 (aCons (dOp2 gIx (dVar 1) (dC (.int 1))) aNil)) (gtName 3) dYes (dCall 1 F__law_face (aCons (dVar 0) aNil)) [3]) aNil)) [2]) aNil)))
def F__law_plate : List D → M D := fzF (mkF 4 G__law_plate)
def G__law_is_plate : DS := (sSeq (sIf (dOr (dNot (dTrue (dCallB cIsi (aCons (dVar 1) (aCons (dC (.ty "tuple")) aNil))))) (dTest (dOp2 gNe (dCallB cLen (aCons (dVar 1) aNil)) (dOp2 gIx (dVar 0) (dC (.int 0)))))) (sRet (dC (.bl false))) sNil)
  (sSeq (sFor (iTupD (dVar 1)) (gtName 2) (sIf (dOr (dNot (dTrue (dCallB cIsi (aCons (dVar 2) (aCons (dC (.ty "tuple")) aNil))))) (dOr (dTest (dOp2 gNe (dCallB cLen (aCons (dVar 2) aNil)) (dOp2 gIx (dVar 0) (dC (.int 1))))) (dTest (dOp2 gGt (dCallB cLen (aCons (dComp (iTupD (dVar 2)) (gtName 3) (dNot (dTrue (dCall 1 F__law_is_face (aCons (dVar 3) aNil)))) (dVar 3) [3]) aNil)) (dC (.int 0)))))) (sRet (dC (.bl false))) sNil))
  (sRet (dC (.bl true)))))
def F__law_is_plate : List D → M D := fzF (mkF 4 G__law_is_plate)
def G__law_lay : DS := (sRet (dTup (aCons (dCall 2 F__law_plate (aCons (dVar 0) (aCons (dVar 1) aNil))) (aCons (dCall 2 F__law_plate (aCons (dVar 0) (aCons (dVar 1) aNil))) aNil))))
def F__law_lay : List D → M D := fzF (mkF 2 G__law_lay)
def G__law_is_lay : DS := (sRet (dAndV (dCallB cIsi (aCons (dVar 1) (aCons (dC (.ty "tuple")) aNil))) (dAndV (dOp2 gEq (dCallB cLen (aCons (dVar 1) aNil)) (dC (.int 2))) (dAndV (dCall 2 F__law_is_plate (aCons (dVar 0) (aCons (dOp2 gIx (dVar 1) (dC (.int 0))) aNil))) (dCall 2 F__law_is_plate (aCons (dVar 0) (aCons (dOp2 gIx (dVar 1) (dC (.int 1))) aNil)))))))
def F__law_is_lay : List D → M D := fzF (mkF 2 G__law_is_lay)

/-! ### comprehensions that draw -/
theorem compL_st {g : DG} {t : DL.Env → M Bool} {e : DL.Env → M D} {ρ : DL.Env} {R : Sto} (Q : D → Prop) : ∀ (ds : List D) (S : Sto), (∀ d ∈ ds, ∀ S, St R S → ∃ ρ1 y S', g d ρ = some ρ1 ∧ t ρ1 S = .ok true S ∧ e ρ1 S = .ok y S' ∧ St R S' ∧ Q y) → St R S →
    ∃ ys S', compL g t e ρ ds S = .ok ys S' ∧ ys.length = ds.length ∧ (∀ y ∈ ys, Q y) ∧ St R S'
  | [], S, _, h => ⟨[], S, rfl, rfl, by simp, h⟩
  | d :: r, S, hs, h => by
    obtain ⟨ρ1, y, S1, h1, h2, h3, h4, h5⟩ := hs d List.mem_cons_self S h
    obtain ⟨ys, S2, e2, l2, q2, p2⟩ := compL_st Q r S1 (fun x hx => hs x (List.mem_cons_of_mem _ hx)) h4
    refine ⟨y :: ys, S2, ?_, by simp [l2], fun x hx => ?_, p2⟩
    · rw [compL_cons h1, nox_ok h2]
      simp only [then_ok, if_true, mbind, nox_ok h3, e2, mret]
    · rcases List.mem_cons.mp hx with rfl | hx
      · exact h5
      · exact q2 x hx
theorem boolL_pure {dec : Bool} {g : DG} {t : DL.Env → M Bool} {e : DL.Env → M D} {ρ : DL.Env} {S : Sto} (p : D → Bool) : ∀ ds : List D,
    (∀ d ∈ ds, ∃ ρ1, g d ρ = some ρ1 ∧ t ρ1 S = .ok true S ∧ e ρ1 S = .ok (.bl (p d)) S) → boolL dec g t e ρ ds S = .ok (if ds.any (fun d => p d == dec) then dec else !dec) S
  | [], _ => rfl
  | d :: r, h => by
    obtain ⟨ρ1, h1, h2, h3⟩ := h d List.mem_cons_self
    have ih := boolL_pure (dec := dec) p r fun d hd => h d (List.mem_cons_of_mem _ hd)
    unfold boolL
    simp only [h1]
    show (nox (t ρ1) S).then _ = _
    rw [nox_ok h2]
    show (nox (e ρ1) S).then _ = _
    rw [nox_ok h3]
    show (if p d = dec then mret dec else boolL dec g t e ρ r : M Bool) S = _
    by_cases hp : p d = dec
    · rw [if_pos hp]; simp [hp, mret]
    · rw [if_neg hp, ih]; simp [hp]
theorem all_pure {g : DG} {t : DL.Env → M Bool} {e : DL.Env → M D} {ρ : DL.Env} {S : Sto} (p : D → Bool) (ds : List D) (h : ∀ d ∈ ds, ∃ ρ1, g d ρ = some ρ1 ∧ t ρ1 S = .ok true S ∧ e ρ1 S = .ok (.bl (p d)) S) : boolL false g t e ρ ds S = .ok (ds.all p) S := by
  rw [boolL_pure p ds h]
  congr 1
  by_cases z : ds.all p = true
  · rw [z]
    rw [if_neg]; rfl
    simp only [List.any_eq_true, not_exists, not_and]
    intro x hx hp
    have := List.all_eq_true.mp z x hx
    rw [this] at hp; cases hp
  · have z' : ds.all p = false := by simpa using z
    rw [z', if_pos]
    obtain ⟨x, hx, hp⟩ := List.all_eq_false.mp z'
    exact List.any_eq_true.mpr ⟨x, hx, by simpa using hp⟩
/-! ### faces -/
def facB : D → Bool
  | .tup [a, b] => btw 0 9999 a && btw 0 1 b && (match a, b with
    | .int p, .int f => decide (0 < p) || decide (f = 0)
    | _, _ => false)
  | _ => false
theorem tup2 {x : D} (h : tupn 2 x = true) : ∃ a b, x = .tup [a, b] := by
  cases x with
  | tup ds =>
    match ds, h with
    | [a, b], _ => exact ⟨a, b, rfl⟩
    | [], ht => simp [tupn] at ht
    | [_], ht => simp [tupn] at ht
    | _ :: _ :: _ :: r, ht => simp [tupn] at ht; omega
  | _ => cases h
theorem not2 {f : D → Bool} {x : D} (h : tupn 2 x = false) (hf : ∀ x, f x = true → ∃ a b, x = .tup [a, b]) : f x = false := by
  cases q : f x with
  | false => rfl
  | true =>
    obtain ⟨a, b, rfl⟩ := hf x q
    simp [tupn] at h
theorem facB_2 (x : D) (h : facB x = true) : ∃ a b, x = .tup [a, b] := by
  unfold facB at h
  split at h
  · exact ⟨_, _, rfl⟩
  · cases h
theorem v_is_face (x : D) (S : Sto) (h : Plain x = true) : F_is_face [x] S = .ok (.bl (facB x)) S := by
  have e := nox_ok (v_tuple_of x 2 S h)
  cases ht : tupn 2 x with
  | false =>
    rw [ht] at e
    rw [not2 ht facB_2]
    simp -implicitDefEqProofs [F_is_face, G_is_face, e]
  | true =>
    obtain ⟨a, b, rfl⟩ := tup2 ht
    rw [ht] at e
    simp only [Plain, Plains, Bool.and_eq_true] at h
    have e1 := nox_ok (v_between a 0 9999 S h.1.1)
    have e2 := nox_ok (v_between b 0 1 S h.1.2.1)
    cases q1 : btw 0 9999 a with
    | false => rw [q1] at e1; simp -implicitDefEqProofs [F_is_face, G_is_face, e, e1, facB, q1]
    | true =>
      rw [q1] at e1
      cases q2 : btw 0 1 b with
      | false => rw [q2] at e2; simp -implicitDefEqProofs [F_is_face, G_is_face, e, e1, e2, facB, q1, q2]
      | true =>
        rw [q2] at e2
        obtain ⟨i, rfl, i1, i2⟩ := btw_int q1
        obtain ⟨j, rfl, j1, j2⟩ := btw_int q2
        by_cases hi : 0 < i
        · simp -implicitDefEqProofs [F_is_face, G_is_face, e, e1, e2, facB, q1, q2, hi]
        · by_cases hj : j = 0
          · subst hj; simp -implicitDefEqProofs [F_is_face, G_is_face, e, e1, e2, facB, q1, q2, hi]
          · simp -implicitDefEqProofs [F_is_face, G_is_face, e, e1, e2, facB, q1, q2, hi, hj]
theorem deqv_ints2 (S : Sto) (a b c d : Int) : deqv S (.tup [.int a, .int b]) (.tup [.int c, .int d]) = some (a == c && b == d) := by
  rw [deqv_of (p := .tuple [.int a, .int b]) (q := .tuple [.int c, .int d]) rfl rfl rfl rfl]
  simp [PyData.eqv, PyData.eqvAll]
theorem v_law_is_face (x : D) (S : Sto) (h : Plain x = true) : F__law_is_face [x] S = .ok (.bl (facB x)) S := by
  cases ht : tupn 2 x with
  | false =>
    rw [not2 ht facB_2]
    cases x with
    | tup ds =>
      have hl : ¬ (ds.length : Int) = 2 := by simpa [tupn] using ht
      simp -implicitDefEqProofs [F__law_is_face, G__law_is_face, hl]
    | non => simp -implicitDefEqProofs [F__law_is_face, G__law_is_face]
    | bl b => simp -implicitDefEqProofs [F__law_is_face, G__law_is_face]
    | int i => simp -implicitDefEqProofs [F__law_is_face, G__law_is_face]
    | str s => simp -implicitDefEqProofs [F__law_is_face, G__law_is_face]
    | lst ds => simp -implicitDefEqProofs [F__law_is_face, G__law_is_face]
    | _ => cases h
  | true =>
    obtain ⟨a, b, rfl⟩ := tup2 ht
    simp only [Plain, Plains, Bool.and_eq_true] at h
    have e1 := nox_ok (v_is_number a 9999 S h.1.1)
    have e2 := nox_ok (v_is_number b 1 S h.1.2.1)
    cases q1 : btw 0 9999 a with
    | false => rw [q1] at e1; simp -implicitDefEqProofs [F__law_is_face, G__law_is_face, e1, facB, q1]
    | true =>
      rw [q1] at e1
      cases q2 : btw 0 1 b with
      | false => rw [q2] at e2; simp -implicitDefEqProofs [F__law_is_face, G__law_is_face, e1, e2, facB, q1, q2]
      | true =>
        rw [q2] at e2
        obtain ⟨i, rfl, i1, i2⟩ := btw_int q1
        obtain ⟨j, rfl, j1, j2⟩ := btw_int q2
        have en := gNe_of (deqv_ints2 S i j 0 1)
        have : (!(i == 0 && j == 1)) = (decide (0 < i) || decide (j = 0)) := by
          have : j = 0 ∨ j = 1 := by omega
          rcases this with rfl | rfl
          · simp
          · by_cases hi : i = 0
            · simp [hi]
            · have : 0 < i := by omega
              simp [hi, this]
        rw [this] at en
        simp -implicitDefEqProofs [F__law_is_face, G__law_is_face, e1, e2, facB, q1, q2, en]
/-! ### plates -/
def rowB (c : Int) : D → Bool
  | .tup fs => decide ((fs.length : Int) = c) && fs.all facB
  | _ => false
def platB (r c : Int) : D → Bool
  | .tup rows => decide ((rows.length : Int) = r) && rows.all (rowB c)
  | _ => false
def layB (r c : Int) : D → Bool
  | .tup [a, b] => platB r c a && platB r c b
  | _ => false
theorem tupn_tup {x : D} {n : Int} (h : tupn n x = true) : ∃ ds, x = .tup ds ∧ (ds.length : Int) = n := by
  cases x with
  | tup ds => exact ⟨ds, rfl, by simpa [tupn] using h⟩
  | _ => cases h
theorem plain_tup {ds : List D} (h : Plain (.tup ds) = true) : Plains ds = true ∧ ds.length < 16777216 := by
  simpa [Plain] using h
theorem rowB_no {x : D} {c : Int} (h : tupn c x = false) : rowB c x = false := by
  cases x with
  | tup ds => have : ¬ (ds.length : Int) = c := by simpa [tupn] using h
              simp [rowB, this]
  | _ => rfl
theorem platB_no {x : D} {r c : Int} (h : tupn r x = false) : platB r c x = false := by
  cases x with
  | tup ds => have : ¬ (ds.length : Int) = r := by simpa [tupn] using h
              simp [platB, this]
  | _ => rfl
theorem v_is_plate (r c : Int) (x : D) (S : Sto) (h : Plain x = true) : F_is_plate [.tup [.int r, .int c], x] S = .ok (.bl (platB r c x)) S := by
  have e := nox_ok (v_tuple_of x r S h)
  cases ht : tupn r x with
  | false =>
    rw [ht] at e
    rw [platB_no ht]
    simp -implicitDefEqProofs [F_is_plate, G_is_plate, e]
  | true =>
    obtain ⟨ds, rfl, hr⟩ := tupn_tup ht
    rw [ht] at e
    obtain ⟨hp, hl⟩ := plain_tup h
    have key : boolL false (gtName 4) dYes (dAndV (dCall 2 F_is_tuple_of (aCons (dVar 4) (aCons (dVar 3) aNil))) (dBoolG false (iTupD (dVar 4)) (gtName 5) dYes (dCall 1 F_is_face (aCons (dVar 5) aNil)) [5]))
        [some (.tup [.int r, .int c]), some (.tup ds), some (.int r), some (.int c), none, none] ds S = .ok (ds.all (rowB c)) S := by
      refine all_pure (rowB c) ds fun d hd => ⟨[some (.tup [.int r, .int c]), some (.tup ds), some (.int r), some (.int c), some d, none], rfl, rfl, ?_⟩
      have hpd := plains_mem hp d hd
      have e1 := nox_ok (v_tuple_of d c S hpd)
      cases hc : tupn c d with
      | false =>
        rw [hc] at e1
        rw [rowB_no hc]
        simp -implicitDefEqProofs [e1]
      | true =>
        obtain ⟨fs, rfl, hfl⟩ := tupn_tup hc
        rw [hc] at e1
        obtain ⟨hpf, hll⟩ := plain_tup hpd
        have k2 : boolL false (gtName 5) dYes (dCall 1 F_is_face (aCons (dVar 5) aNil)) [some (.tup [.int r, .int c]), some (.tup ds), some (.int r), some (.int c), some (.tup fs), none] fs S = .ok (fs.all facB) S :=
          all_pure facB fs fun f hf => ⟨[some (.tup [.int r, .int c]), some (.tup ds), some (.int r), some (.int c), some (.tup fs), some f], rfl, rfl, by
            have e2 := nox_ok (v_is_face f S (plains_mem hpf f hf))
            simp -implicitDefEqProofs [e2]⟩
        have hll' : fs.length ≤ 16777216 := by omega
        simp -implicitDefEqProofs [e1, dwipe, k2, rowB, hfl, hll']
    have hl' : ds.length ≤ 16777216 := by omega
    simp -implicitDefEqProofs [F_is_plate, G_is_plate, e, dwipe, key, platB, hr, hl']

abbrev bP : DS := (sIf (dOr (dNot (dTrue (dCallB cIsi (aCons (dVar 2) (aCons (dC (.ty "tuple")) aNil))))) (dOr (dTest (dOp2 gNe (dCallB cLen (aCons (dVar 2) aNil)) (dOp2 gIx (dVar 0) (dC (.int 1))))) (dTest (dOp2 gGt (dCallB cLen (aCons (dComp (iTupD (dVar 2)) (gtName 3) (dNot (dTrue (dCall 1 F__law_is_face (aCons (dVar 3) aNil)))) (dVar 3) [3]) aNil)) (dC (.int 0)))))) (sRet (dC (.bl false))) sNil)
theorem bP_ok (r c : Int) (x1 : Option D) (d : D) (x3 : Option D) (S : Sto) (h : Plain d = true) (h3 : x3 = none) : bP [some (.tup [.int r, .int c]), x1, some d, x3] S = if rowB c d then .ok (.nx [some (.tup [.int r, .int c]), x1, some d, x3]) S else .ok (.rt (.bl false)) S := by
  subst h3
  cases ht : tupn c d with
  | false =>
    rw [rowB_no ht]
    cases d with
    | tup ds =>
      have hl : ¬ (ds.length : Int) = c := by simpa [tupn] using ht
      simp -implicitDefEqProofs [hl]
    | non => simp -implicitDefEqProofs
    | bl b => simp -implicitDefEqProofs
    | int i => simp -implicitDefEqProofs
    | str s => simp -implicitDefEqProofs
    | lst ds => simp -implicitDefEqProofs
    | _ => cases h
  | true =>
    obtain ⟨fs, rfl, hfl⟩ := tupn_tup ht
    obtain ⟨hpf, hll⟩ := plain_tup h
    have k2 : compL (gtName 3) (dNot (dTrue (dCall 1 F__law_is_face (aCons (dVar 3) aNil)))) (dVar 3) [some (.tup [.int r, .int c]), x1, some (.tup fs), none] fs S = .ok ((fs.filter fun f => !facB f).map id) S :=
      compL_pure (fun f => !facB f) id fs fun f hf => ⟨[some (.tup [.int r, .int c]), x1, some (.tup fs), some f], rfl, by
        have e2 := nox_ok (v_law_is_face f S (plains_mem hpf f hf))
        simp -implicitDefEqProofs [e2], fun _ => rfl⟩
    have hll' : fs.length ≤ 16777216 := by omega
    cases q : fs.all facB with
    | true =>
      have : fs.filter (fun f => !facB f) = [] := List.filter_eq_nil_iff.mpr fun f hf => by simp [List.all_eq_true.mp q f hf]
      rw [this] at k2
      simp -implicitDefEqProofs [dwipe, k2, rowB, hfl, hll', q]
    | false =>
      obtain ⟨f, hf, hq⟩ := List.all_eq_false.mp q
      have : 0 < (fs.filter (fun f => !facB f)).length := List.length_pos_of_mem (List.mem_filter.mpr ⟨hf, by simpa using hq⟩)
      simp -implicitDefEqProofs [dwipe, k2, rowB, hfl, hll', q, this]
theorem v_law_is_plate (r c : Int) (x : D) (S : Sto) (h : Plain x = true) : F__law_is_plate [.tup [.int r, .int c], x] S = .ok (.bl (platB r c x)) S := by
  cases ht : tupn r x with
  | false =>
    rw [platB_no ht]
    cases x with
    | tup ds =>
      have hl : ¬ (ds.length : Int) = r := by simpa [tupn] using ht
      simp -implicitDefEqProofs [F__law_is_plate, G__law_is_plate, hl]
    | non => simp -implicitDefEqProofs [F__law_is_plate, G__law_is_plate]
    | bl b => simp -implicitDefEqProofs [F__law_is_plate, G__law_is_plate]
    | int i => simp -implicitDefEqProofs [F__law_is_plate, G__law_is_plate]
    | str s => simp -implicitDefEqProofs [F__law_is_plate, G__law_is_plate]
    | lst ds => simp -implicitDefEqProofs [F__law_is_plate, G__law_is_plate]
    | _ => cases h
  | true =>
    obtain ⟨ds, rfl, hr⟩ := tupn_tup ht
    obtain ⟨hp, hl⟩ := plain_tup h
    have key : ∀ (ds' : List D), Plains ds' = true → ∀ x2, ∃ y2, sLoop (gtName 2) bP ds' [some (.tup [.int r, .int c]), some (.tup ds), x2, none] S = if ds'.all (rowB c) then .ok (.nx [some (.tup [.int r, .int c]), some (.tup ds), y2, none]) S else .ok (.rt (.bl false)) S := by
      intro ds'
      induction ds' with
      | nil => intro _ x2; exact ⟨x2, rfl⟩
      | cons d ds' ih =>
        intro hp x2
        have hp1 := plains_mem hp d List.mem_cons_self
        have hp2 : Plains ds' = true := by simp only [Plains, Bool.and_eq_true] at hp; exact hp.2
        obtain ⟨y2, e⟩ := ih hp2 (some d)
        have b := bP_ok r c (some (.tup ds)) d none S hp1 rfl
        refine ⟨y2, ?_⟩
        cases q : rowB c d with
        | true =>
          rw [q] at b
          rw [sLoop_step (ρ1 := [some (.tup [.int r, .int c]), some (.tup ds), some d, none]) rfl b, e]
          simp [q]
        | false =>
          rw [q] at b
          rw [sLoop_cons]
          have g : gtName 2 d [some (.tup [.int r, .int c]), some (.tup ds), x2, none] = some [some (.tup [.int r, .int c]), some (.tup ds), some d, none] := rfl
          simp only [g, b]
          simp [q]
    obtain ⟨y2, e⟩ := key ds hp none
    cases q : ds.all (rowB c) with
    | true => rw [q] at e; simp -implicitDefEqProofs [F__law_is_plate, G__law_is_plate, hr, platB, q, e]
    | false => rw [q] at e; simp -implicitDefEqProofs [F__law_is_plate, G__law_is_plate, hr, platB, q, e]
theorem layB_2 (r c : Int) (x : D) (h : layB r c x = true) : ∃ a b, x = .tup [a, b] := by
  unfold layB at h
  split at h
  · exact ⟨_, _, rfl⟩
  · cases h
theorem v_is_lay (r c : Int) (x : D) (S : Sto) (h : Plain x = true) : F_is_lay [.tup [.int r, .int c], x] S = .ok (.bl (layB r c x)) S := by
  have e := nox_ok (v_tuple_of x 2 S h)
  cases ht : tupn 2 x with
  | false =>
    rw [ht] at e
    rw [not2 ht (layB_2 r c)]
    simp -implicitDefEqProofs [F_is_lay, G_is_lay, e]
  | true =>
    obtain ⟨a, b, rfl⟩ := tup2 ht
    rw [ht] at e
    simp only [Plain, Plains, Bool.and_eq_true] at h
    have e1 := nox_ok (v_is_plate r c a S h.1.1)
    have e2 := nox_ok (v_is_plate r c b S h.1.2.1)
    cases q1 : platB r c a with
    | false => rw [q1] at e1; simp -implicitDefEqProofs [F_is_lay, G_is_lay, e, e1, layB, q1]
    | true => rw [q1] at e1; simp -implicitDefEqProofs [F_is_lay, G_is_lay, e, e1, e2, layB, q1]
theorem v_law_is_lay (r c : Int) (x : D) (S : Sto) (h : Plain x = true) : F__law_is_lay [.tup [.int r, .int c], x] S = .ok (.bl (layB r c x)) S := by
  cases ht : tupn 2 x with
  | false =>
    rw [not2 ht (layB_2 r c)]
    cases x with
    | tup ds =>
      have hl : ¬ (ds.length : Int) = 2 := by simpa [tupn] using ht
      simp -implicitDefEqProofs [F__law_is_lay, G__law_is_lay, hl]
    | non => simp -implicitDefEqProofs [F__law_is_lay, G__law_is_lay]
    | bl b => simp -implicitDefEqProofs [F__law_is_lay, G__law_is_lay]
    | int i => simp -implicitDefEqProofs [F__law_is_lay, G__law_is_lay]
    | str s => simp -implicitDefEqProofs [F__law_is_lay, G__law_is_lay]
    | lst ds => simp -implicitDefEqProofs [F__law_is_lay, G__law_is_lay]
    | _ => cases h
  | true =>
    obtain ⟨a, b, rfl⟩ := tup2 ht
    simp only [Plain, Plains, Bool.and_eq_true] at h
    have e1 := nox_ok (v_law_is_plate r c a S h.1.1)
    have e2 := nox_ok (v_law_is_plate r c b S h.1.2.1)
    cases q1 : platB r c a with
    | false => rw [q1] at e1; simp -implicitDefEqProofs [F__law_is_lay, G__law_is_lay, e1, layB, q1]
    | true => rw [q1] at e1; simp -implicitDefEqProofs [F__law_is_lay, G__law_is_lay, e1, e2, layB, q1]
/-! ### drawn faces, plates, lays -/
def faceD (p f : Int) : D := .tup [.int p, .int f]
def FaceOk (d : D) : Prop := ∃ p f : Int, d = faceD p f ∧ 0 ≤ p ∧ p ≤ 9999 ∧ 0 ≤ f ∧ f ≤ 1 ∧ (p = 0 → f = 0)
theorem size_st {R S : Sto} (most : Int) (hm : 1 ≤ most) (h : St R S) : ∃ r c S', St R S' ∧ 1 ≤ r ∧ r ≤ 4 ∧ 1 ≤ c ∧ c ≤ 4 ∧ F__law_size [.ptr 0, .int most] S = .ok (.tup [.int r, .int c]) S' := by
  obtain ⟨k1, S1, p1, a1, b1, e1⟩ := dS h 4 (by decide) (by decide)
  obtain ⟨k2, S2, p2, a2, b2, e2⟩ := dS p1 4 (by decide) (by decide)
  obtain ⟨r, c, q1, q2, q3, q4, e⟩ := while_ok most hm (some (.ptr 0)) S2 999999 (1 + k1) (1 + k2) (by omega) (by omega) (by omega) (by omega) (by omega)
  obtain ⟨k3, S3, p3, a3, b3, e3⟩ := dS p2 2 (by decide) (by decide)
  have key : ∀ x y : Int, ([.tup [.int r, .int c], .tup [.int c, .int r]] : List D)[k3.toNat]? = some (.tup [.int x, .int y]) → F__law_size [.ptr 0, .int most] S = .ok (.tup [.int x, .int y]) S3 := fun x y hg => by
    have e4 : atI ([.tup [.int r, .int c], .tup [.int c, .int r]] : List D) k3 = some (.tup [.int x, .int y]) := atI_in a3 hg
    have g : G__law_size [some (.ptr 0), some (.int most), none, none] S = .ok (.rt (.tup [.int x, .int y])) S3 := by
      unfold G__law_size
      refine (sSeq_nx (ρ' := [some (.ptr 0), some (.int most), some (.int (1 + k1)), none]) (S' := S1) ?_).trans ((sSeq_nx (ρ' := [some (.ptr 0), some (.int most), some (.int (1 + k1)), some (.int (1 + k2))]) (S' := S2) ?_).trans ((sSeq_nx e).trans ?_))
      · simp -implicitDefEqProofs [e1]
      · simp -implicitDefEqProofs [e2]
      · refine sRet_ok ?_
        simp -implicitDefEqProofs [e3, e4]
    show finO S.length (outS (G__law_size [some (.ptr 0), some (.int most), none, none] S)) = _
    rw [g]
    exact finO_ok' _ _ (by rw [p3.len, h.len])
  have c3 : k3 = 0 ∨ k3 = 1 := by omega
  rcases c3 with rfl | rfl
  · exact ⟨r, c, S3, p3, q1, q2, q3, q4, key r c rfl⟩
  · exact ⟨c, r, S3, p3, q3, q4, q1, q2, key c r rfl⟩
theorem face_st {R S : Sto} (h : St R S) : ∃ d S', St R S' ∧ FaceOk d ∧ F__law_face [.ptr 0] S = .ok d S' := by
  obtain ⟨k1, S1, p1, a1, b1, e1⟩ := dS h 10000 (by decide) (by decide)
  obtain ⟨k2, S2, p2, a2, b2, e2⟩ := dS p1 9 (by decide) (by decide)
  obtain ⟨k3, S3, p3, a3, b3, e3⟩ := dS p2 4 (by decide) (by decide)
  have key : ∀ p : Int, 0 ≤ p → p ≤ 9999 → ([.int k1, .int 0, .int (1 + k2), .int 9999] : List D)[k3.toNat]? = some (.int p) → ∃ d S', St R S' ∧ FaceOk d ∧ F__law_face [.ptr 0] S = .ok d S' := fun p h0 h1 hg => by
    have e4 : atI ([.int k1, .int 0, .int (1 + k2), .int 9999] : List D) k3 = some (.int p) := atI_in a3 hg
    by_cases hp : 0 < p
    · obtain ⟨k4, S4, p4, a4, b4, e5⟩ := dS p3 2 (by decide) (by decide)
      refine ⟨faceD p k4, S4, p4, ⟨p, k4, rfl, h0, h1, a4, by omega, fun z => by omega⟩, ?_⟩
      simp -implicitDefEqProofs [F__law_face, G__law_face, e1, e2, e3, e4, hp, e5]
      exact finO_ok' _ _ (by rw [p4.len, h.len])
    · refine ⟨faceD p 0, S3, p3, ⟨p, 0, rfl, h0, h1, by omega, by omega, fun z => rfl⟩, ?_⟩
      simp -implicitDefEqProofs [F__law_face, G__law_face, e1, e2, e3, e4, hp]
      exact finO_ok' _ _ (by rw [p3.len, h.len])
  have c : k3 = 0 ∨ k3 = 1 ∨ k3 = 2 ∨ k3 = 3 := by omega
  rcases c with rfl | rfl | rfl | rfl
  · exact key k1 a1 (by omega) rfl
  · exact key 0 (by omega) (by omega) rfl
  · exact key (1 + k2) (by omega) (by omega) rfl
  · exact key 9999 (by omega) (by omega) rfl
def RowOk (c : Int) (d : D) : Prop := ∃ fs, d = .tup fs ∧ (fs.length : Int) = c ∧ ∀ f ∈ fs, FaceOk f
def PlateOk (r c : Int) (d : D) : Prop := ∃ rows, d = .tup rows ∧ (rows.length : Int) = r ∧ ∀ x ∈ rows, RowOk c x
theorem plate_st {R S : Sto} (r c : Int) (hr0 : 0 ≤ r) (hr : r ≤ 1000) (hc0 : 0 ≤ c) (hc : c ≤ 1000) (h : St R S) : ∃ d S', St R S' ∧ PlateOk r c d ∧ F__law_plate [.ptr 0, .tup [.int r, .int c]] S = .ok d S' := by
  have hr1 := rng1_int r (by omega) (by omega)
  have hc1 := rng1_int c (by omega) (by omega)
  have lr : (rangeD 0 r.toNat).length ≤ 16777216 := by rw [rangeD_len]; omega
  have lc : (rangeD 0 c.toNat).length ≤ 16777216 := by rw [rangeD_len]; omega
  obtain ⟨rows, S', e, hl, hq, hS⟩ := compL_st (g := gtName 2) (t := dYes) (e := dCallB cTuple (aCons (dComp (iArgs rng1 (aCons (dOp2 gIx (dVar 1) (dC (.int 1))) aNil)) (gtName 3) dYes (dCall 1 F__law_face (aCons (dVar 0) aNil)) [3]) aNil))
    (ρ := [some (.ptr 0), some (.tup [.int r, .int c]), none, none]) (RowOk c) (rangeD 0 r.toNat) S (fun j _ S1 h1 => by
      obtain ⟨fs, S2, e2, hl2, hq2, hS2⟩ := compL_st (g := gtName 3) (t := dYes) (e := dCall 1 F__law_face (aCons (dVar 0) aNil)) (ρ := [some (.ptr 0), some (.tup [.int r, .int c]), some j, none]) FaceOk (rangeD 0 c.toNat) S1 (fun k _ S3 h3 => by
        obtain ⟨d, S4, p4, f4, e4⟩ := face_st h3
        have e4 := nox_ok e4
        exact ⟨[some (.ptr 0), some (.tup [.int r, .int c]), some j, some k], d, S4, rfl, rfl, by simp -implicitDefEqProofs [e4], p4, f4⟩) h1
      rw [rangeD_len] at hl2
      exact ⟨[some (.ptr 0), some (.tup [.int r, .int c]), some j, none], .tup fs, S2, rfl, rfl, by simp -implicitDefEqProofs [hc1, lc, dwipe, e2], hS2, fs, rfl, by omega, hq2⟩) h
  rw [rangeD_len] at hl
  refine ⟨.tup rows, S', hS, ⟨rows, rfl, by omega, hq⟩, ?_⟩
  simp -implicitDefEqProofs [F__law_plate, G__law_plate, hr1, lr, dwipe, e]
  exact finO_ok' _ _ (by rw [hS.len, h.len])
theorem lay_st {R S : Sto} (r c : Int) (hr0 : 0 ≤ r) (hr : r ≤ 1000) (hc0 : 0 ≤ c) (hc : c ≤ 1000) (h : St R S) : ∃ a b S', St R S' ∧ PlateOk r c a ∧ PlateOk r c b ∧ F__law_lay [.ptr 0, .tup [.int r, .int c]] S = .ok (.tup [a, b]) S' := by
  obtain ⟨a, S1, p1, q1, e1⟩ := plate_st r c hr0 hr hc0 hc h
  obtain ⟨b, S2, p2, q2, e2⟩ := plate_st r c hr0 hr hc0 hc p1
  refine ⟨a, b, S2, p2, q1, q2, ?_⟩
  simp -implicitDefEqProofs [F__law_lay, G__law_lay, nox_ok e1, nox_ok e2]
  exact finO_ok' _ _ (by rw [p2.len, h.len])
theorem face_val {P : Str → Prop} {d : D} {B L : Nat} (hB : 9999 ≤ B) (hL : 2 ≤ L) (h : FaceOk d) : Val P B L 1 d := by
  obtain ⟨p, f, rfl, _⟩ := h
  exact .tup (by simpa using hL) fun x hx => by
    simp at hx
    rcases hx with rfl | rfl
    · exact .sca (.int _ (by omega)) _
    · exact .sca (.int _ (by omega)) _
theorem face_b {d : D} (h : FaceOk d) : facB d = true := by
  obtain ⟨p, f, rfl, h1, h2, h3, h4, h5⟩ := h
  have : 0 < p ∨ f = 0 := by omega
  simp [faceD, facB, btw, h1, h2, h3, h4, this]
theorem row_val {P : Str → Prop} {d : D} {B L : Nat} {c : Int} (hB : 9999 ≤ B) (hL : 2 ≤ L) (hc : c ≤ L) (h : RowOk c d) : Val P B L 2 d := by
  obtain ⟨fs, rfl, h1, h2⟩ := h
  exact .tup (by omega) fun x hx => face_val hB hL (h2 x hx)
theorem row_b {d : D} {c : Int} (h : RowOk c d) : rowB c d = true := by
  obtain ⟨fs, rfl, h1, h2⟩ := h
  simp only [rowB, h1, decide_true, Bool.true_and, List.all_eq_true]
  exact fun f hf => face_b (h2 f hf)
theorem plate_val {P : Str → Prop} {d : D} {B L : Nat} {r c : Int} (hB : 9999 ≤ B) (hL : 2 ≤ L) (hr : r ≤ L) (hc : c ≤ L) (h : PlateOk r c d) : Val P B L 3 d := by
  obtain ⟨fs, rfl, h1, h2⟩ := h
  exact .tup (by omega) fun x hx => row_val hB hL hc (h2 x hx)
theorem plate_b {d : D} {r c : Int} (h : PlateOk r c d) : platB r c d = true := by
  obtain ⟨fs, rfl, h1, h2⟩ := h
  simp only [platB, h1, decide_true, Bool.true_and, List.all_eq_true]
  exact fun f hf => row_b (h2 f hf)
end DL.Pre
set_option Elab.async false
set_option linter.all false
set_option maxRecDepth 100000
set_option maxHeartbeats 4000000
/-! loops by invariants; listed, booled values; slices from the end -/
namespace DL.Pre
open PySem PySem.Spec PyProof.Rows L2 DL
theorem sLoop_inv {g : DG} {f : DS} (I : DL.Env → Sto → Prop) : ∀ (ds : List D), (∀ d ∈ ds, ∀ ρ S, I ρ S → ∃ ρ1 ρ2 S2, g d ρ = some ρ1 ∧ f ρ1 S = .ok (.nx ρ2) S2 ∧ I ρ2 S2) → ∀ ρ S, I ρ S → ∃ ρ' S', sLoop g f ds ρ S = .ok (.nx ρ') S' ∧ I ρ' S'
  | [], _, ρ, S, h => ⟨ρ, S, rfl, h⟩
  | d :: r, hs, ρ, S, h => by
    obtain ⟨ρ1, ρ2, S2, h1, h2, h3⟩ := hs d List.mem_cons_self ρ S h
    obtain ⟨ρ', S', e, h4⟩ := sLoop_inv I r (fun x hx => hs x (List.mem_cons_of_mem _ hx)) ρ2 S2 h3
    exact ⟨ρ', S', (sLoop_step h1 h2).trans e, h4⟩
theorem compL_some {g : DG} {t : DL.Env → M Bool} {e : DL.Env → M D} {ρ : DL.Env} {S : Sto} (Q : D → D → Prop) : ∀ (ds : List D), (∀ d ∈ ds, ∃ ρ1 y, g d ρ = some ρ1 ∧ t ρ1 S = .ok true S ∧ e ρ1 S = .ok y S ∧ Q d y) →
    ∃ ys, compL g t e ρ ds S = .ok ys S ∧ ys.length = ds.length ∧ (∀ y ∈ ys, ∃ d ∈ ds, Q d y)
  | [], _ => ⟨[], rfl, rfl, by simp⟩
  | d :: r, hs => by
    obtain ⟨ρ1, y, h1, h2, h3, h5⟩ := hs d List.mem_cons_self
    obtain ⟨ys, e2, l2, q2⟩ := compL_some Q r (fun x hx => hs x (List.mem_cons_of_mem _ hx))
    refine ⟨y :: ys, ?_, by simp [l2], fun x hx => ?_⟩
    · rw [compL_cons h1, nox_ok h2]
      simp only [then_ok, if_true, mbind, nox_ok h3, e2, mret]
    · rcases List.mem_cons.mp hx with rfl | hx
      · exact ⟨d, List.mem_cons_self, h5⟩
      · obtain ⟨z, hz, q⟩ := q2 x hx
        exact ⟨z, List.mem_cons_of_mem _ hz, q⟩
theorem sl_init (S : Sto) (xs : List D) : gSl S none (some (-1)) (.tup xs) = some (.tup (xs.take (xs.length - 1))) := by
  show some (D.tup (cutD xs none (some (-1)))) = _
  unfold cutD HT.sIx
  simp
  congr 1
  omega
theorem at_last {xs : List D} (h : xs ≠ []) : ∃ x ∈ xs, atI xs (-1) = some x := by
  have hp : 0 < xs.length := List.length_pos_iff.mpr h
  refine ⟨xs[xs.length - 1]'(by omega), List.getElem_mem _, ?_⟩
  unfold atI ixN
  have h1 : ¬ (0 : Int) ≤ -1 := by decide
  rw [if_neg h1]
  have : (-(xs.length : Int) ≤ -1) := by omega
  simp [this]
  have e : (-1 + (xs.length : Int)).toNat = xs.length - 1 := by omega
  rw [e, List.getElem?_eq_getElem (by omega)]
/-- a value listed -/
theorem listed_ok {P : Str → Prop} {B L : Nat} (hL : L ≤ 1000) : ∀ (k n : Nat) (v : D) (m : Int) (S : Sto), Val P B L k v → k ≤ n → Plain v = true → ∃ d, Val P B L k d ∧ F__law_listed (n + 1) [v, .int m] S = .ok d S := by
  intro k
  induction k with
  | zero =>
    intro n v m S hv hn hp
    refine ⟨v, hv, ?_⟩
    rw [F__law_listed]
    cases hv <;> simp -implicitDefEqProofs [G__law_listed]
  | succ k ih =>
    intro n v m S hv hn hp
    rcases hv with h | ⟨ds, rfl | rfl, hl, h⟩
    · refine ⟨v, .inl h, ?_⟩
      rw [F__law_listed]
      cases h <;> simp -implicitDefEqProofs [G__law_listed]
    · obtain ⟨j, rfl⟩ : ∃ j, n = j + 1 := ⟨n - 1, by omega⟩
      by_cases hm : m = 0
      · subst hm
        refine ⟨.lst ds, .lst hl h, ?_⟩
        rw [F__law_listed]
        simp -implicitDefEqProofs [G__law_listed]
      · obtain ⟨ys, e, hyl, hq⟩ := compL_some (g := gtName 2) (t := dYes) (e := dCall 2 (F__law_listed (j + 1)) (aCons (dVar 2) (aCons (dOp2 gSub (dVar 1) (dC (.int 1))) aNil))) (ρ := [some (.tup ds), some (.int m), none]) (S := S) (fun _ y => Val P B L k y) ds (fun d hd => by
          obtain ⟨y, vy, ey⟩ := ih j d (m - 1) S (h d hd) (by omega) (plains_mem (plain_tup hp).1 d hd)
          exact ⟨[some (.tup ds), some (.int m), some d], y, rfl, rfl, by simp -implicitDefEqProofs [nox_ok ey], vy⟩)
        have hll : ds.length ≤ 16777216 := by omega
        refine ⟨.tup ys, .tup (by omega) fun y hy => by obtain ⟨_, _, q⟩ := hq y hy; exact q, ?_⟩
        rw [F__law_listed]
        simp -implicitDefEqProofs [G__law_listed, hm, dwipe, e, hll]
    · refine ⟨.lst ds, .lst hl h, ?_⟩
      rw [F__law_listed]
      simp -implicitDefEqProofs [G__law_listed]
/-- a value booled -/
theorem booled_ok {P : Str → Prop} {B L : Nat} (hL : L ≤ 1000) : ∀ (k n : Nat) (v : D) (S : Sto), Val P B L k v → k ≤ n → Plain v = true → ∃ d, Val P B L k d ∧ F__law_booled (n + 1) [v] S = .ok d S := by
  have base : ∀ (k n : Nat) (v : D) (S : Sto), Sca P B v → Plain v = true → ∃ d, Val P B L k d ∧ F__law_booled (n + 1) [v] S = .ok d S := fun k n v S h hp => by
    have ei := nox_ok (v_is_integer v S hp)
    cases h with
    | non => exact ⟨_, .sca .non _, by rw [F__law_booled]; simp -implicitDefEqProofs [G__law_booled, ei, isint]⟩
    | bl b => exact ⟨_, .sca (.bl b) _, by rw [F__law_booled]; simp -implicitDefEqProofs [G__law_booled, ei, isint]⟩
    | str s h => exact ⟨_, .sca (.str s h) _, by rw [F__law_booled]; simp -implicitDefEqProofs [G__law_booled, ei, isint]⟩
    | int i h =>
      by_cases h0 : 0 ≤ i
      · refine ⟨boo i, ?_, v_booled_int n i h0 S⟩
        unfold boo
        split
        · exact .sca (.bl _) _
        · split
          · exact .sca (.bl _) _
          · exact .sca (.int i h) _
      · exact ⟨_, .sca (.int i h) _, by rw [F__law_booled]; simp -implicitDefEqProofs [G__law_booled, ei, isint, h0]⟩
  intro k
  induction k with
  | zero => intro n v S hv hn hp; exact base 0 n v S hv hp
  | succ k ih =>
    intro n v S hv hn hp
    rcases hv with h | ⟨ds, rfl | rfl, hl, h⟩
    · exact base _ n v S h hp
    · obtain ⟨j, rfl⟩ : ∃ j, n = j + 1 := ⟨n - 1, by omega⟩
      obtain ⟨ys, e, hyl, hq⟩ := compL_some (g := gtName 1) (t := dYes) (e := dCall 1 (F__law_booled (j + 1)) (aCons (dVar 1) aNil)) (ρ := [some (.tup ds), none]) (S := S) (fun _ y => Val P B L k y) ds (fun d hd => by
        obtain ⟨y, vy, ey⟩ := ih j d S (h d hd) (by omega) (plains_mem (plain_tup hp).1 d hd)
        exact ⟨[some (.tup ds), some d], y, rfl, rfl, by simp -implicitDefEqProofs [nox_ok ey], vy⟩)
      have hll : ds.length ≤ 16777216 := by omega
      refine ⟨.tup ys, .tup (by omega) fun y hy => by obtain ⟨_, _, q⟩ := hq y hy; exact q, ?_⟩
      rw [F__law_booled]
      simp -implicitDefEqProofs [G__law_booled, dwipe, e, hll]
    · have ei := nox_ok (v_is_integer (.lst ds) S hp)
      refine ⟨.lst ds, .lst hl h, ?_⟩
      rw [F__law_booled]
      simp -implicitDefEqProofs [G__law_booled, ei, isint]
end DL.Pre
set_option Elab.async false
set_option linter.all false
set_option maxRecDepth 100000
set_option maxHeartbeats 2000000
/-! powers, shifts; a list many times; x[i] op= e; sorted pairs; except X as e with isinstance -/
namespace DL
open PySem PySem.Spec PyProof.Rows L2
section
variable {K : PySem.W.Frag}
def gPow : G2 := gInt fun i j => if 0 ≤ j ∧ j ≤ 1000 ∧ i.natAbs < 18446744073709551616 then some (i ^ j.toNat) else none
def gShl : G2 := gInt fun i j => if 0 ≤ j ∧ j ≤ 1000 ∧ i.natAbs < 18446744073709551616 then some (i * 2 ^ j.toNat) else none
def gShr : G2 := gInt fun i j => if 0 ≤ j then some (i / 2 ^ j.toNat) else none
def gAnd : G2 := gInt fun i j => some (Builtin.bitAnd i j)
def gOr : G2 := gInt fun i j => some (Builtin.bitOr i j)
theorem den_pow : OpDen K (rI CPow fun i j => .int (i ^ j.toNat)) gPow := den_int fun i j k e => by
  split at e
  · rename_i h; cases e; exact ⟨⟨h.1, by have := h.2.1; omega, by have := h.2.2; simpa using this⟩, rfl⟩
  · cases e
theorem den_shl : OpDen K (rI CPow fun i j => .int (i * 2 ^ j.toNat)) gShl := den_int fun i j k e => by
  split at e
  · rename_i h; cases e; exact ⟨⟨h.1, by have := h.2.1; omega, by have := h.2.2; simpa using this⟩, rfl⟩
  · cases e
theorem den_shr : OpDen K (rI (fun _ j => 0 ≤ j) fun i j => .int (i / 2 ^ j.toNat)) gShr := den_int fun i j k e => by
  split at e
  · rename_i h; cases e; exact ⟨h, rfl⟩
  · cases e
theorem den_and : OpDen K (rI0 fun i j => .int (Builtin.bitAnd i j)) gAnd := den_int0 fun i j k e => by cases e; rfl
theorem den_or : OpDen K (rI0 fun i j => .int (Builtin.bitOr i j)) gOr := den_int0 fun i j k e => by cases e; rfl
@[simp] theorem gPow_int (S : Sto) (i j : Int) : gPow S (.int i) (.int j) = if 0 ≤ j ∧ j ≤ 1000 ∧ i.natAbs < 18446744073709551616 then some (.int (i ^ j.toNat)) else none := by
  unfold gPow
  rw [gInt_int]
  split <;> rfl
/-! ### a list many times -/
def repD (xs : List D) (k : Int) : List D := (List.replicate k.toNat xs).flatten
theorem Reps.rep {b m : List Addr} {H : Hp} {vs : List V} {ds : List D} (r : Reps K b m H vs ds) : ∀ n : Nat, Reps K b m H (List.replicate n vs).flatten (List.replicate n ds).flatten
  | 0 => .nil
  | n + 1 => by
    rw [List.replicate_succ, List.replicate_succ, List.flatten_cons, List.flatten_cons]
    exact r.append (Reps.rep r n)
def gRep : G2 := fun S x y => match y with
  | .int k => match seqM S x with
    | some xs => if k ≤ 1000000 ∧ -1000000 ≤ k ∧ xs.length * k.toNat ≤ sizeLine then some (.lst (repD xs k)) else none
    | none => none
  | _ => none
theorem den_rep : OpDen K L2.rRep gRep := by
  intro b m H S x y dx dy d Q hs rx ry e q
  unfold gRep at e
  cases ry <;> try (cases e; done)
  rename_i k
  cases q1 : seqM S dx with
  | none => simp only [q1] at e; cases e
  | some xs =>
    simp only [q1] at e
    split at e
    · rename_i hz
      cases e
      obtain ⟨a, vs, rfl, h1, h2⟩ := seqM_rep hs rx q1
      exact ⟨a, k, vs, rfl, rfl, h1, by omega, by omega, by rw [h2.length]; exact hz.2.2, fun p hp => q _ _ (Same.upd hp) (Rep.newLst hs hp (h2.rep _))⟩
    · cases e
/-! ### sorted(..) of pairs of ints -/
def prD (p : Int × Int) : D := .tup [.int p.1, .int p.2]
def prOf : D → Option (Int × Int)
  | .tup [.int i, .int j] => some (i, j)
  | _ => none
theorem prOf_eq {d : D} {p : Int × Int} (h : prOf d = some p) : d = prD p := by
  unfold prOf at h
  split at h
  · cases h; rfl
  · cases h
def prsOf : List D → Option (List (Int × Int))
  | [] => some []
  | d :: r => match prOf d, prsOf r with
    | some p, some ps => some (p :: ps)
    | _, _ => none
theorem prsOf_eq : ∀ {ds : List D} {ps : List (Int × Int)}, prsOf ds = some ps → ds = ps.map prD
  | [], ps, h => by cases h; rfl
  | d :: r, ps, h => by
    unfold prsOf at h
    split at h
    · rename_i p q h1 h2
      cases h
      rw [List.map_cons, ← prOf_eq h1, ← prsOf_eq h2]
    · cases h
theorem prsOf_map : ∀ ps : List (Int × Int), prsOf (ps.map prD) = some ps
  | [] => rfl
  | p :: ps => by
    rw [List.map_cons]
    unfold prsOf
    rw [prsOf_map ps]
    rfl
def leP (x y : Int × Int) : Bool := decide (x.1 < y.1) || (decide (x.1 = y.1) && decide (x.2 ≤ y.2))
def sortP (ps : List (Int × Int)) : List (Int × Int) := ps.mergeSort leP
theorem sortP_eq {ps qs : List (Int × Int)} (hp : qs.Perm ps) (hs : qs.Pairwise fun x y => leP x y = true) : qs = sortP ps := by
  refine List.Perm.eq_of_pairwise (le := fun x y => leP x y = true) (fun a b _ _ h1 h2 => ?_) hs ?_ (hp.trans (List.mergeSort_perm _ _).symm)
  · obtain ⟨a1, a2⟩ := a
    obtain ⟨b1, b2⟩ := b
    simp [leP] at h1 h2
    have : a1 = b1 := by omega
    have : a2 = b2 := by omega
    subst_vars
    rfl
  · refine List.pairwise_mergeSort (le := leP) (fun a b c h1 h2 => ?_) (fun a b => ?_) ps
    · simp [leP] at h1 h2 ⊢; omega
    · simp [leP]; omega
def cSortedP : GC := fun S ds => match ds with
  | [d] => match seqL S d with
    | some xs => (prsOf xs).map fun ps => .lst ((sortP ps).map prD)
    | none => none
  | _ => none
/-- the pairs, by their references -/
def pairsRule (K : PySem.W.Frag) : List V → Hp → VK → Prop := fun vs H Q => ∃ (a : Addr) (l : List (Addr × Int × Int)), vs = [V.ref a] ∧ SqL K H a (l.map fun z => V.ref z.1) ∧ (∀ z ∈ l, SqT K H z.1 [.int z.2.1, .int z.2.2]) ∧
  ∀ (zs : List (Addr × Int × Int)) (p : Addr), zs.Perm l → ((zs.map (·.2)).Pairwise fun x y => leP x y = true) → H p = none → Q (.ref p) (upd H p (.lst (zs.map fun z => V.ref z.1)))
def adV : V → Addr
  | .ref t => t
  | _ => 0
theorem callPairs {X : Cx} : CallR X (.builtin "sorted") (pairsRule X.K) := by
  rintro pins s σ H vs us Q I r ⟨a, l, rfl, hs, hx, q⟩
  obtain ⟨its, rv, hl, hz⟩ := I.list hs
  obtain ⟨u, rfl, ru⟩ := vals1 r
  cases (show u = Value.ref a from ru)
  obtain ⟨e1, e2⟩ := refs_back rv fun x m => by
    obtain ⟨z, _, rfl⟩ := List.mem_map.mp m
    exact ⟨z.1, rfl⟩
  let k : V → Int × Int := fun v => match l.find? (fun z => z.1 == adV v) with
    | some z => z.2
    | none => (0, 0)
  have hk : ∀ z ∈ l, k (V.ref z.1) = z.2 := fun z hz => by
    show (match l.find? (fun y => y.1 == z.1) with | some z => z.2 | none => (0, 0)) = z.2
    cases e : l.find? (fun y => y.1 == z.1) with
    | none => exact absurd (List.find?_eq_none.mp e z hz) (by simp)
    | some y =>
      have h1 : y.1 = z.1 := by simpa using List.find?_some e
      have h2 := hx y (List.mem_of_find?_eq_some e)
      rw [h1] at h2
      have h3 := I.tuple_inj h2 (hx z hz)
      simp at h3
      exact Prod.ext h3.1 h3.2
  refine SrtO.sorted_pairsO (k := fun u => k (backV u)) hl.isList (rv.length ▸ hz) ?_ ?_
  · intro v hv
    obtain ⟨t, rfl⟩ := e2 v hv
    have hm : V.ref t ∈ l.map fun z => V.ref z.1 := by rw [e1]; exact List.mem_map.mpr ⟨_, hv, rfl⟩
    obtain ⟨z, hz, ez⟩ := List.mem_map.mp hm
    cases ez
    obtain ⟨its2, r2, ⟨o, ho, hc, n, hd⟩, _⟩ := I.tuple (hx z hz)
    obtain ⟨u1, u2, e3, ri, rj⟩ := vals2 r2
    obtain ⟨t1, rfl⟩ := ri
    obtain ⟨t2, rfl⟩ := rj
    rw [e3] at hd
    have e4 : k (backV (Value.ref z.1)) = z.2 := hk z hz
    rw [e4]
    exact ⟨z.1, o, t1, t2, n, rfl, ho, hc, hd⟩
  · rintro h' d out h1 h2 kp hd ⟨n, hn⟩
    have hb : SrtO.Stb (ltP k) (out.map backV) (l.map fun z => V.ref z.1) := e1 ▸ SrtO.Stb.map (ltP_swo k) backV h2
    have h1' : SrtO.Srtd (ltP k) (out.map backV) := SrtO.srtd_map h1
    let zs : List (Addr × Int × Int) := (out.map backV).map fun v => (adV v, k v)
    have ez : zs.map (fun z => V.ref z.1) = out.map backV := by
      rw [List.map_map]
      refine (List.map_congr_left (g := id) fun v hv => ?_).trans (List.map_id _)
      obtain ⟨z, _, rfl⟩ := List.mem_map.mp (hb.perm.mem_iff.mp hv)
      rfl
    have pz : zs.Perm l := by
      refine (hb.perm.map _).trans ?_
      rw [List.map_map]
      refine List.Perm.of_eq ((List.map_congr_left (g := id) fun z hz => ?_).trans (List.map_id _))
      show (z.1, k (V.ref z.1)) = z
      rw [hk z hz]
    have sz : (zs.map (·.2)).Pairwise fun x y => leP x y = true := by
      rw [List.map_map]
      refine List.pairwise_map.mpr (List.Pairwise.imp (fun {x y} h => ?_) h1')
      have := SrtO.lexB_no.mp h
      show leP (k x) (k y) = true
      simp only [leP, Bool.or_eq_true, decide_eq_true_eq, Bool.and_eq_true]
      omega
    exact ⟨.ref d, upd H d (.lst (out.map backV)), I.laid (t' := s.toks) kp hd ⟨hb.len ▸ hz, out, n, vals_back fun u hu => e2 u (h2.perm.mem_iff.mp hu), hn⟩, rfl, ez ▸ q zs d pz sz (I.hok.fresh hd)⟩
/-- data of a value that is a pair -/
theorem reps_pairs {b m : List Addr} {H : Hp} : ∀ (ps : List (Int × Int)) (vs : List V), Reps K b m H vs (ps.map prD) → ∃ l : List (Addr × Int × Int), vs = l.map (fun z => V.ref z.1) ∧ l.map (·.2) = ps ∧ ∀ z ∈ l, H z.1 = some (.tup [.int z.2.1, .int z.2.2])
  | [], vs, r => by cases r; exact ⟨[], rfl, rfl, by simp⟩
  | p :: ps, vs, r => by
    cases r with
    | cons rv rr =>
      obtain ⟨l, rfl, e2, e3⟩ := reps_pairs ps _ rr
      generalize hd : prD p = d at rv
      cases rv with
      | tup h1 h2 =>
        rename_i a xs ds
        cases hd
        cases h2 with
        | cons a1 a2 =>
          cases a1
          cases a2 with
          | cons b1 b2 =>
            cases b1
            cases b2
            refine ⟨(a, p) :: l, rfl, by simp [e2], fun z hz => ?_⟩
            rcases List.mem_cons.mp hz with rfl | hz
            · exact h1
            · exact e3 z hz
      | _ => cases hd
theorem reps_back {b m : List Addr} {H : Hp} : ∀ (l : List (Addr × Int × Int)), (∀ z ∈ l, H z.1 = some (.tup [.int z.2.1, .int z.2.2])) → Reps K b m H (l.map fun z => V.ref z.1) ((l.map (·.2)).map prD)
  | [], _ => .nil
  | z :: l, h => .cons (.tup (h z List.mem_cons_self) (.cons (.int _) (.cons (.int _) .nil))) (reps_back l fun y hy => h y (List.mem_cons_of_mem _ hy))
theorem den_sortedP : CallDen K (pairsRule K) cSortedP := by
  intro b m H S xs ds d Q hs r e q
  unfold cSortedP at e
  split at e
  · rename_i d0
    obtain ⟨v, rfl, rv⟩ := r.one
    cases q1 : seqL S d0 with
    | none => simp only [q1] at e; cases e
    | some zs =>
      simp only [q1] at e
      cases q2 : prsOf zs with
      | none => rw [q2] at e; cases e
      | some ps =>
        rw [q2] at e
        cases e
        obtain ⟨a, vs, rfl, h1, h2⟩ := seqL_rep hs rv q1
        rw [prsOf_eq q2] at h2
        obtain ⟨l, rfl, e2, e3⟩ := reps_pairs ps vs h2
        refine ⟨a, l, rfl, h1, fun z hz => .inl (.inl (e3 z hz)), fun ys p hp hq hn => q _ _ (Same.upd hn) (Rep.newLst hs hn ?_)⟩
        have : ys.map (·.2) = sortP ps := sortP_eq (by rw [← e2]; exact hp.map _) hq
        rw [← this]
        exact reps_back ys fun z hz => e3 z (hp.mem_iff.mp hz)
  · cases e
end
end DL
set_option Elab.async false
set_option linter.all false
set_option maxRecDepth 100000
set_option maxHeartbeats 2000000
/-! x[i] op= e; except X as e, isinstance of e -/
namespace DL
open PySem PySem.Spec PyProof.Rows L2
def getRule : V → V → Hp → VK → Prop := fun o i H Q => ∃ (p : Addr) (xs : List V) (k : Int) (v : V), o = .ref p ∧ i = .int k ∧ H p = some (.lst xs) ∧ 0 ≤ k ∧ xs[k.toNat]? = some v ∧ Q v H
theorem get_own {X : Cx} : PGet X getRule := by
  rintro pins s σ H o i ov iv Q I ro ri ⟨p, xs, k, v, rfl, rfl, hp, h0, hx, q⟩
  cases ro
  obtain ⟨t, rfl⟩ := ri
  obtain ⟨hz, its, n, r, hl, e⟩ := I.lstM hp
  obtain ⟨w, ew, rw'⟩ := r.get hx
  have hi := (List.getElem?_eq_some_iff.mp hx).1
  have h63 : (sizeLine : Nat) ≤ 2 ^ 62 := by decide
  refine wpAny_getItem_list (items := its.toArray) ⟨_, e, rfl, n, rfl⟩ h0 (by omega) (by simpa using ew) ⟨v, H, I, rw', q⟩
def sAugIx (fo fi : Env → M D) (g : G2) (fe : Env → M D) : DS := fun ρ S => sbind (fo ρ S) ρ fun o S1 => sbind (fi ρ S1) ρ fun i S2 => match o, i with
  | .ptr n, .int k => match ofPtr S2 n with
    | some ds => match (if 0 ≤ k then ds[k.toNat]? else none) with
      | some x => sbind (fe ρ S2) ρ fun y S3 => match g S3 x y with
        | some z => match setAt S3 (.ptr n) (.int k) z with
          | some S4 => .ok (.nx ρ) S4
          | none => .bad
        | none => .bad
      | none => .bad
    | none => .bad
  | _, _ => .bad
section
variable {X : Cx} {W : WX} {e o i : Expr} {fe fo fi : Env → M D} {pos pos' : Pos} {op : Operator} {r : R2} {g : G2}
theorem sd_augIx (hop : OpR X (inplaceOp op) r) (hd : OpDen X.K r g) (ho : PD X W o fo) (hi : PD X W i fi) (he : PD X W e fe)
    (ha : ∀ ov iv new, augStore i ov iv new = (do holding [new, ov, iv] (setItem ov iv new); release [new, ov, iv] []; pure .next) := by intros; rfl) : SD X W (.AugAssign (.Subscript o i pos') op e pos) (sAugIx fo fi g fe) :=
  PS.imp (ps_augS ho hi get_own he (show PIp X op r from hop) set_list ha) fun E σ H ⟨b, m, ρ, S, hv, hs, h⟩ => ⟨b, m, ρ, S, hv, hs, PostS.bind hv h fun o' S1 m1 H1 vo _ t1 s1 r1 v1 h1 =>
    ⟨b, m1, ρ, S1, v1, s1, PostS.bind v1 h1 fun i' S2 m2 H2 vi _ t2 s2 r2 v2 h2 => by
      have r1' := r1.tr t2
      cases r1' with
      | @ptr n a hn =>
        cases r2 with
        | int k =>
          simp only at h2
          cases q : ofPtr S2 n with
          | none => simp only [q] at h2; exact h2.elim
          | some ds =>
            simp only [q] at h2
            by_cases h0 : 0 ≤ k
            · rw [if_pos h0] at h2
              cases q2 : ds[k.toNat]? with
              | none => simp only [q2] at h2; exact h2.elim
              | some x =>
                simp only [q2] at h2
                obtain ⟨xs, hx, rx⟩ := ofPtr_rep s2 hn q
                obtain ⟨v, hv', rv⟩ := rx.get q2
                refine ⟨a, xs, k, v, rfl, rfl, hx, h0, hv', b, m2, ρ, S2, v2, s2, PostS.bind v2 h2 fun y S3 m3 H3 vy _ t3 s3 r3 v3 h3 => ?_⟩
                cases q3 : g S3 x y with
                | none => simp only [q3] at h3; exact h3.elim
                | some z =>
                  simp only [q3] at h3
                  refine hd b m3 H3 S3 v vy x y z _ s3 (rv.tr t3) r3 q3 fun H' vz sm rz => ?_
                  cases q4 : setAt S3 (.ptr n) (.int k) z with
                  | none => simp only [q4] at h3; exact h3.elim
                  | some S4 =>
                    simp only [q4] at h3
                    obtain ⟨p, xs', k', j, e1, e2, e3, e4, e5, e6⟩ := setAt_rep (s3.same sm) ((Rep.ptr (t3.sub hn)).tr (Same.tr sm)) (.int k) rz q4
                    exact ⟨p, xs', k', j, e1, e2, e3, e4, h3 _ _ _ ((Same.tr sm).trans e6) ((v3.tr (Same.tr sm)).tr e6) e5⟩
            · rw [if_neg h0] at h2; exact h2.elim
        | _ => exact h2.elim
      | _ => first | exact h2.elim | (cases r2 <;> exact h2.elim)⟩⟩
end
/-! ### isinstance(e, C), e the caught exception -/
def cIsE (K : PySem.W.Frag) (D0 a : Addr) : GC := fun _ ds => match ds with
  | [.obj a', .ty n] => if a' = a then (PySem.W.kitOne K (.ref D0) (.type n)).map D.bl else none
  | [.obj a', .obj C] => if a' = a then (PySem.W.kitOne K (.ref D0) (.ref C)).map D.bl else none
  | _ => none
theorem den_isE {K : PySem.W.Frag} {D0 a : Addr} : CallDen K (rIsE K D0 a) (cIsE K D0 a) := by
  intro b m H S xs ds d Q hs r e q
  unfold cIsE at e
  split at e
  · rename_i a' n
    obtain ⟨v, v', rfl, rv, rv'⟩ := r.two
    cases rv; cases rv'
    split at e
    · rename_i ha
      subst ha
      cases q1 : PySem.W.kitOne K (.ref D0) (.type n) with
      | none => rw [q1] at e; cases e
      | some k =>
        rw [q1] at e
        cases e
        exact ⟨.ty n, .type n, k, rfl, fun u h => h, q1, q _ _ (Same.refl _) (.bl _)⟩
    · cases e
  · rename_i a' C
    obtain ⟨v, v', rfl, rv, rv'⟩ := r.two
    cases rv; cases rv'
    split at e
    · rename_i ha
      subst ha
      cases q1 : PySem.W.kitOne K (.ref D0) (.ref C) with
      | none => rw [q1] at e; cases e
      | some k =>
        rw [q1] at e
        cases e
        exact ⟨.ref C, .ref C, k, rfl, fun u h => h, q1, q _ _ (Same.refl _) (.bl _)⟩
    · cases e
  · cases e
/-! ### try: f, except X as n: a suite that returns, the same whatever the exception's place -/
@[simp] def sTryAs (i : Nat) (rel : Str → Option Bool) (f g0 : DS) : DS := fun ρ S => match f ρ S with
  | .ex e ρ' S' => match rel e.name with
    | some true => if e.fields = [] ∧ i < ρ'.length then (match g0 ρ' S' with
      | .ok (.rt d) S2 => .ok (.rt d) S2
      | _ => .bad) else .bad
    | some false => .ex e ρ' S'
    | none => .bad
  | o => o
theorem sd_tryAs {X : Cx} {W : WX} {x n : Str} {np pos pos' : Pos} {D0 : Addr} {rel : Str → Option Bool} {body suite : List Stmt} {b₀ : Stmt} (i : Nat) {f g0 : DS} {g : Addr → DS} (hs : X.stack = X.env :: X.outer) (hf : X.env.frame = some X.env.locals) (hN : X.N.Nodup) (hi : X.N[i]? = some n) (hln : X.env.kindOf n = some .local) {c : Value} (hc : Names X x c) (tk : Takes X W)
    (hrel : ∀ (n : Str) (k : Bool) (C : Addr), rel n = some k → X.mg n = some (.ref C) → PySem.W.exmOne X.K (.ref C) c = some k ∧ (k = true → C = D0))
    (hb : ∀ (W' : WX) (pn : List (Addr × Obj)) (xe : Value → Shared → Prop), Takes (X.tr pn xe) W' → PassesOwn (model X.prog X.w) X.A X.env xe → BD (X.tr pn xe) W' body f)
    (hsu : ∀ (a : Addr) (oe : Obj) (pn : List (Addr × Obj)), Zc (.ref D0) none oe → (∃ vs, oe.data = .fields vs) → BD (X.suite a ((a, oe) :: pn)) W (b₀ :: suite) (g a))
    (hg : ∀ (a : Addr) (ρ : Env) (S : Sto) (d : D) (S2 : Sto), i < ρ.length → g0 ρ S = .ok (.rt d) S2 → g a (ρ.set i (some (.obj a))) S = .ok (.rt d) S2) :
    SD X W (.Try body [.ExceptHandler (some (.Name x np)) (some n) (b₀ :: suite) pos'] [] [] pos) (sTryAs i rel f g0) :=
  PS.imp (ps_try_as (tb := fun W' => tS X.K X.mg W' f) (ts := fun a cls d => fun E σ H => (cls = .ref D0 ∧ d = none) ∧ tS X.K X.mg W (g a) E σ H) (Wout := W) (i := i) hs hf hN hi hln hc tk hb fun a oe cls d pn hz hfl => ⟨fun pins s σ H E I ⟨hcls, h⟩ => by
      obtain ⟨rfl, rfl⟩ := hcls
      exact (hsu a oe pn hz hfl).run pins s σ H E I h⟩) fun E σ H ⟨b, m, ρ, S, hv, hss, h⟩ => by
    refine ⟨b, m, ρ, S, hv, hss, ?_⟩
    unfold sTryAs at h
    cases q : f ρ S with
    | bad => rw [q] at h; exact h
    | ok fl S1 =>
      rw [q] at h
      cases fl <;> exact h
    | ex e ρ1 S1 =>
      rw [q] at h
      intro m1 H1 σ1 cls dx t1 v1 s1 r1
      obtain ⟨C, gC, eC, rC⟩ := r1
      cases q2 : rel e.name with
      | none => simp only [q2] at h; exact h.elim
      | some k =>
        simp only [q2] at h
        obtain ⟨k1, k2⟩ := hrel _ _ _ q2 gC
        refine ⟨k, by rw [eC]; exact k1, fun hk a hn => ?_, fun hk => ?_⟩
        · have k2' := k2 hk
          subst hk
          simp only at h
          by_cases hlen' : e.fields = [] ∧ i < ρ1.length
          · rw [if_pos hlen'] at h
            obtain ⟨hf0, hlen⟩ := hlen'
            have hd : dx = none := by
              rcases rC with ⟨_, z⟩ | ⟨d, fs, _, z, _⟩
              · exact z
              · exact absurd hf0 z
            split at h
            · rename_i d S2 e2
              refine ⟨⟨by rw [eC, k2'], hd⟩, b, m1, ρ1.set i (some (.obj a)), S1, v1.set i (.obj a), s1, ?_⟩
              rw [hg a ρ1 S1 d S2 hlen e2]
              exact PostS.tr t1 (E := E) h
            · exact h.elim
          · rw [if_neg hlen'] at h; exact h.elim
        · subst hk
          exact h m1 H1 σ1 cls dx t1 v1 s1 ⟨C, gC, eC, rC⟩
end DL
set_option Elab.async false
set_option linter.all false
set_option maxRecDepth 100000
set_option maxHeartbeats 2000000
/-! a comprehension's list that will be written to -/
namespace DL
open PySem PySem.Spec PyProof.Rows L2
section
variable {K : PySem.W.Frag} {b m m' : List Addr} {H H' : Hp} {p : Addr}
theorem Tr.adopt (t : Tr m H m' H') (hp : H p = none) : Tr m H (m' ++ [p]) H' :=
  ⟨by obtain ⟨l, e⟩ := t.ext; exact ⟨l ++ [p], by rw [e, List.append_assoc]⟩, fun a h n => by
    rcases List.mem_append.mp h with h | h
    · exact t.fresh a h n
    · rw [List.mem_singleton.mp h]; exact hp, t.kept, t.there, t.tups, t.frzs, t.tupH⟩
mutual
theorem Rep.adopt : ∀ {v : V} {d : D}, Rep K (p :: b) m H v d → Rep K b (m ++ [p]) H v d
  | _, _, .non => .non
  | _, _, .bl x => .bl x
  | _, _, .int i => .int i
  | _, _, .str x => .str x
  | _, _, .ty n => .ty n
  | _, _, .tup h r => .tup h (Reps.adopt r)
  | _, _, .ctup h r => .ctup h (Reps.adopt r)
  | _, _, .lst h1 h2 h3 r => .lst h1 (fun z => (List.mem_append.mp z).elim h2 fun z => h3 (by rw [List.mem_singleton.mp z]; exact List.mem_cons_self)) (fun z => h3 (List.mem_cons_of_mem _ z)) (Reps.adopt r)
  | _, _, .dct h1 hl h2 h3 r => .dct h1 hl (fun z => (List.mem_append.mp z).elim h2 fun z => h3 (by rw [List.mem_singleton.mp z]; exact List.mem_cons_self)) (fun z => h3 (List.mem_cons_of_mem _ z)) (Reps.adopt r)
  | _, _, .flst h r => .flst h (Reps.adopt r)
  | _, _, .ptr h => .ptr (by rw [List.getElem?_append_left (List.getElem?_eq_some_iff.mp h).1]; exact h)
  | _, _, .obj a => .obj a
theorem Reps.adopt : ∀ {vs : List V} {ds : List D}, Reps K (p :: b) m H vs ds → Reps K b (m ++ [p]) H vs ds
  | _, _, .nil => .nil
  | _, _, .cons r s => .cons (Rep.adopt r) (Reps.adopt s)
end
theorem StoR.adopt {S : Sto} {xs : List V} {ds : List D} (h : StoR K (p :: b) m H S) (e : H p = some (.lst xs)) (nb : p ∉ b) (r : Reps K (p :: b) m H xs ds) : StoR K b (m ++ [p]) H (S ++ [.lst ds]) := by
  have nm : p ∉ m := (h.ban p List.mem_cons_self).1
  refine ⟨by simp [h.len], ?_, fun n a c e1 e2 => ?_, fun a ha => ?_, h.tabs⟩
  · refine List.nodup_append.mpr ⟨h.nd, by simp, fun a ha c hc z => ?_⟩
    rw [List.mem_singleton.mp hc] at z
    exact nm (z ▸ ha)
  · by_cases hn : n < m.length
    · rw [List.getElem?_append_left hn] at e1
      rw [List.getElem?_append_left (by rw [← h.len]; exact hn)] at e2
      have := h.cell n a c e1 e2
      cases c with
      | lst es =>
        obtain ⟨ys, h1, h2⟩ := this
        exact ⟨ys, h1, h2.adopt⟩
      | dct l u es =>
        obtain ⟨ys, h1, hl, h2⟩ := this
        exact ⟨ys, h1, hl, h2.adopt⟩
    · have hn' : n = m.length := by
        have := (List.getElem?_eq_some_iff.mp e1).1
        simp at this
        omega
      subst hn'
      rw [List.getElem?_append_right (Nat.le_refl _)] at e1
      rw [h.len, List.getElem?_append_right (Nat.le_refl _)] at e2
      simp at e1 e2
      subst e1 e2
      exact ⟨xs, e, r.adopt⟩
  · obtain ⟨h1, o, h2⟩ := h.ban a (List.mem_cons_of_mem _ ha)
    refine ⟨fun z => (List.mem_append.mp z).elim h1 fun z => nb (by rw [← List.mem_singleton.mp z]; exact ha), o, h2⟩
end
@[simp] def dCompP (fi : Env → M (List D)) (g : DG) (t : Env → M Bool) (e : Env → M D) (vs : List Nat) : Env → M D := fun ρ => mbind (fi ρ) fun items =>
  if items.length ≤ sizeLine then mbind (compL g t e (dwipe ρ vs) items) fun ds => mnew ds else mbad
section
variable {X : Cx} {W : WX} {elt tg iter : Expr} {ifs : List Expr} {scope : Scope} {own : List (Str × Nat)} {pos : Pos} {fi : Env → M (List D)} {g : DG} {ws : List Nat} {ft : Env → M Bool} {fe : Env → M D}
theorem lc_denP {K : PySem.W.Frag} {mg : Str → Option Value} {vs : List Nat} (hw : ∀ i ∈ ws, i ∈ vs) {σ : L2.St} {H : Hp} {Q : VK} (h : tG K mg W (RV K) (dCompP fi g ft fe vs) σ H Q) :
    tLc (tG K mg W (RIt K) fi) (tGt K ws g) (tG K mg WF ReqB ft) (tG K mg WF (RV K) fe) vs σ H Q := by
  obtain ⟨b, m, ρ, S, hv, hs, h⟩ := h
  refine ⟨b, m, ρ, S, hv, hs, Post.then h fun items S1 m1 H1 J e1 t1 s1 r1 h1 => ?_⟩
  intro Dd hDd
  by_cases hz : items.length ≤ sizeLine
  · rw [if_pos hz] at h1
    have v1 := hv.tr t1
    refine ⟨fun i n H => n = items.length - i ∧ i ≤ items.length ∧ ∃ m' S accV accD, Tr m1 H1 m' H ∧ EnvR K (Dd :: b) m' H (wipe σ vs) (dwipe ρ vs) ∧ StoR K (Dd :: b) m' H S ∧ H Dd = some (.lst accV) ∧ Reps K (Dd :: b) m' H accV accD ∧ accD.length ≤ i ∧
        Post K mg W b m1 H1 σ (RV K) ((compL g ft fe (dwipe ρ vs) (items.drop i) S).then fun ys => mnew (accD ++ ys)) Q,
      ⟨items.length, rfl, Nat.zero_le _, m1, S1, [], [], (Tr.refl).side hDd, (v1.wipe vs).apart hDd, s1.apart hDd, upd_same, .nil, Nat.le_refl _, h1⟩, ?_⟩
    rintro i n H2 ⟨rfl, hil, m2, S2, accV, accD, t2, v2, s2, eD, ra, hal, h2⟩
    have bn : Bn b H1 (Dd :: b) := Bn.cons hDd
    obtain ⟨rgo, rstop⟩ := r1 (Dd :: b) m2 H2 t2.rch bn
    by_cases hlt : i < items.length
    · obtain ⟨go, yld⟩ := rgo i items[i] (List.getElem?_eq_getElem hlt)
      rw [List.drop_eq_getElem_cons hlt] at h2
      unfold compL at h2
      cases q : g items[i] (dwipe ρ vs) with
      | none => simp only [q] at h2; exact h2.elim
      | some ρ3 =>
        simp only [q] at h2
        refine .inr ⟨go, fun H' => ∃ m' S accV accD, Tr m1 H1 m' H' ∧ EnvR K (Dd :: b) m' H' (wipe σ vs) (dwipe ρ vs) ∧ StoR K (Dd :: b) m' H' S ∧ H' Dd = some (.lst accV) ∧ Reps K (Dd :: b) m' H' accV accD ∧ accD.length ≤ i + 1 ∧
          Post K mg W b m1 H1 σ (RV K) ((compL g ft fe (dwipe ρ vs) (items.drop (i + 1)) S).then fun ys => mnew (accD ++ ys)) Q, fun H' ⟨m3, S3, aV, aD, x⟩ => ⟨items.length - (i + 1), by omega, rfl, hlt, m3, S3, aV, aD, x⟩, fun x H3 hy => ?_⟩
        obtain ⟨sm, rx⟩ := yld x H3 hy
        have t3 : Tr m2 H2 m2 H3 := Same.tr sm
        refine ⟨Dd :: b, m2, _, items[i], ρ3, v2.tr t3, rx, q, fun σ4 v4 o4 => ⟨?_, ?_⟩⟩
        · rw [← wipe_wipe σ vs]
          exact wipe_eq ⟨o4.1, fun j hj => o4.2 j fun z => hj (hw j z)⟩
        · refine ⟨Dd :: b, m2, ρ3, S2, v4, s2.same sm, ?_⟩
          have eD3 : H3 Dd = some (.lst accV) := sm.old _ _ eD
          have nDm : Dd ∉ m2 := (s2.ban Dd List.mem_cons_self).1
          have ra3 := ra.tr t3
          have v3 := v2.tr t3
          have h2' : Post K mg W b m1 H1 σ (RV K) (((nox (ft ρ3) S2).then fun c => if c then mbind (nox (fe ρ3)) fun y => mbind (compL g ft fe (dwipe ρ vs) (items.drop (i + 1))) fun ys => mret (y :: ys) else compL g ft fe (dwipe ρ vs) (items.drop (i + 1))).then fun ys => mnew (accD ++ ys)) Q := h2
          unfold nox at h2'
          cases q2 : ft ρ3 S2 with
          | bad => simp only [q2] at h2'; exact h2'.elim
          | ex e S5 => simp only [q2] at h2'; exact h2'.elim
          | ok c S5 =>
            simp only [q2] at h2'
            intro m6 H6 y t6 s6 ey
            obtain rfl : y = c := ey
            have T6 : Tr m1 H1 m6 H6 := (t2.trans t3).trans t6
            have eD6 : H6 Dd = some (.lst accV) := t6.keptL eD3 nDm
            cases y with
            | false => exact iteF ⟨m6, S5, accV, accD, T6, v3.tr t6, s6, eD6, ra3.tr t6, by omega, h2'⟩
            | true =>
              refine iteT ⟨Dd :: b, m6, ρ3, S5, v4.tr t6, s6, ?_⟩
              have h3' : Post K mg W b m1 H1 σ (RV K) (((nox (fe ρ3) S5).then fun y => mbind (compL g ft fe (dwipe ρ vs) (items.drop (i + 1))) fun ys => mret (y :: ys)).then fun ys => mnew (accD ++ ys)) Q := h2'
              unfold nox at h3'
              cases q3 : fe ρ3 S5 with
              | bad => simp only [q3] at h3'; exact h3'.elim
              | ex e S7 => simp only [q3] at h3'; exact h3'.elim
              | ok dy S7 =>
                simp only [q3] at h3'
                intro m8 H8 y t8 s8 ry
                have nD6 : Dd ∉ m6 := (s6.ban Dd List.mem_cons_self).1
                have eD8 : H8 Dd = some (.lst accV) := t8.keptL eD6 nD6
                have ra8 := (ra3.tr t6).tr t8
                have hlen : accV.length = accD.length := ra8.length
                refine ⟨accV, eD8, by omega, m8, S7, accV ++ [y], accD ++ [dy], (T6.trans t8).side hDd, ((v3.tr t6).tr t8).side eD8 List.mem_cons_self, s8.side eD8 List.mem_cons_self, upd_same, (ra8.append (.cons ry .nil)).side eD8 List.mem_cons_self, by simp; omega, ?_⟩
                have h4' : Post K mg W b m1 H1 σ (RV K) (((compL g ft fe (dwipe ρ vs) (items.drop (i + 1)) S7).then fun ys => mret (dy :: ys)).then fun ys => mnew (accD ++ ys)) Q := h3'
                cases q4 : compL g ft fe (dwipe ρ vs) (items.drop (i + 1)) S7 with
                | bad => rw [q4] at h4'; exact h4'.elim
                | ex e S9 => rw [q4] at h4'; exact h4'
                | ok ys S9 =>
                  rw [q4] at h4'
                  have e5 : accD ++ dy :: ys = (accD ++ [dy]) ++ ys := by simp
                  show Post K mg W b m1 H1 σ (RV K) (mnew ((accD ++ [dy]) ++ ys) S9) Q
                  rw [← e5]
                  exact h4'
    · have e : i = items.length := by omega
      subst e
      rw [List.drop_length] at h2
      refine .inl ⟨rstop, ?_⟩
      have h2' : Post K mg W b m1 H1 σ (RV K) (.ok (.ptr S2.length) (S2 ++ [.lst (accD ++ [])])) Q := h2
      rw [List.append_nil] at h2'
      have nb : Dd ∉ b := fun z => by
        obtain ⟨_, o, e⟩ := s1.ban Dd z
        rw [hDd] at e
        cases e
      exact h2' (m2 ++ [Dd]) H2 _ (t2.adopt hDd) (s2.adopt eD nb ra) (.ptr (by rw [← s2.len, List.getElem?_append_right (Nat.le_refl _)]; simp))
  · rw [if_neg hz] at h1; exact h1.elim
theorem pd_compP (hc : X.calm = true) (hN : X.N.Nodup) (hi : ID X W tg iter fi) (ok : BlkOk X.N X.env.scope scope own) (hw : ∀ i ∈ ws, i ∈ own.map (·.2))
    (hg : ∀ (s : Shared) (H : Hp) (C : Addr) (cl : List (Str × Addr)) (fp : List Addr), GD (X.blk s H scope (compEnvC scope cl C X.env) fp) tg ws g) (ht : ∀ (s : Shared) (H : Hp) (C : Addr) (cl : List (Str × Addr)) (fp : List Addr), TsD (X.blk s H scope (compEnvC scope cl C X.env) fp) WF ifs ft)
    (he : ∀ (s : Shared) (H : Hp) (C : Addr) (cl : List (Str × Addr)) (fp : List Addr), PD (X.blk s H scope (compEnvC scope cl C X.env) fp) WF elt fe) (hs : ∀ x, foldedSetIterable iter X.env x = pure x := by intro _; rfl) :
    PD X W (.ListComp elt [⟨tg, iter, ifs, 0⟩] scope pos) (dCompP fi g ft fe (own.map (·.2))) :=
  PE.imp (pe_lc (g := tGt X.K ws g) (tt := tG X.K X.mg WF ReqB ft) (te := tG X.K X.mg WF (RV X.K) fe) hc hN hi ok hg ht he hs) fun σ H Q h => lc_denP hw h
theorem sd_setCompP (i : Nat) {y : Str} {py spos : Pos} (hc : X.calm = true) (hN : X.N.Nodup) (hy : X.N[i]? = some y) (hyl : X.env.scope.names.lookup y = some .local)
    (hsw : swapsWith (.ListComp elt [⟨tg, iter, ifs, 0⟩] scope pos) (some (.Name y py)) spos.line X.env = pure true) (hi : ID X W tg iter fi) (ok : BlkOk X.N X.env.scope scope own) (hw : ∀ i ∈ ws, i ∈ own.map (·.2))
    (hg : ∀ (s : Shared) (H : Hp) (C : Addr) (cl : List (Str × Addr)) (fp : List Addr), GD (X.blk s H scope (compEnvC scope cl C X.env) fp) tg ws g) (ht : ∀ (s : Shared) (H : Hp) (C : Addr) (cl : List (Str × Addr)) (fp : List Addr), TsD (X.blk s H scope (compEnvC scope cl C X.env) fp) WF ifs ft)
    (he : ∀ (s : Shared) (H : Hp) (C : Addr) (cl : List (Str × Addr)) (fp : List Addr), PD (X.blk s H scope (compEnvC scope cl C X.env) fp) WF elt fe) (hs : ∀ x, foldedSetIterable iter X.env x = pure x := by intro _; rfl) :
    SD X W (.Assign [.Name y py] (.ListComp elt [⟨tg, iter, ifs, 0⟩] scope pos) spos) (sAsg (dCompP fi g ft fe (own.map (·.2))) (gtName i)) :=
  PS.imp (ps_setLc (g := tGt X.K ws g) (tt := tG X.K X.mg WF ReqB ft) (te := tG X.K X.mg WF (RV X.K) fe) hc hN hy hyl hsw hi ok hg ht he hs) fun E σ H h => by
    obtain ⟨b, m, ρ, S, hv, hs, h⟩ := asg_den (ws := [i]) h
    refine lc_denP hw ⟨b, m, ρ, S, hv, hs, Post.imp h fun y H' ⟨b, m, ρ, d, ρ', hv', r, e, q⟩ => ?_⟩
    cases e
    exact q _ (hv'.set i r) ⟨by simp, fun j hj => List.getElem?_set_ne (fun z => hj (by simp [z]))⟩
end
end DL
set_option Elab.async false
set_option linter.all false
set_option maxRecDepth 100000
set_option maxHeartbeats 4000000
/-! == of a plain value with itself; lists of ints; own lists left behind -/
namespace DL.Pre
open PySem PySem.Spec PyProof.Rows L2 DL
mutual
theorem plain_py : ∀ d : D, Plain d = true → ∃ p, d.py = some p ∧ p.canLay0 = true ∧ p.depth ≤ dep d
  | .non, _ => ⟨.none, rfl, rfl, Nat.le_refl _⟩
  | .bl b, _ => ⟨.bool b, rfl, rfl, Nat.le_refl _⟩
  | .int i, _ => ⟨.int i, rfl, rfl, Nat.le_refl _⟩
  | .str x, h => ⟨.str x, rfl, h, Nat.le_refl _⟩
  | .tup ds, h => by
    obtain ⟨ps, e1, e2, e3⟩ := plains_py ds (plain_tup h).1
    exact ⟨.tuple ps, by unfold D.py; rw [e1], e2, Nat.succ_le_succ e3⟩
  | .lst ds, h => by
    obtain ⟨ps, e1, e2, e3⟩ := plains_py ds (Bool.and_eq_true_iff.mp h).1
    exact ⟨.list ps, by unfold D.py; rw [e1], e2, Nat.succ_le_succ e3⟩
  | .ty _, h => by cases h
  | .flst _, h => by cases h
  | .ptr _, h => by cases h
  | .obj _, h => by cases h
theorem plains_py : ∀ ds : List D, Plains ds = true → ∃ ps, D.pys ds = some ps ∧ PyData.canLayAll0 ps = true ∧ PyData.depthAll ps ≤ deps ds
  | [], _ => ⟨[], rfl, rfl, Nat.le_refl _⟩
  | d :: ds, h => by
    have h : Plain d = true ∧ Plains ds = true := Bool.and_eq_true_iff.mp h
    obtain ⟨p, a1, a2, a3⟩ := plain_py d h.1
    obtain ⟨ps, e1, e2, e3⟩ := plains_py ds h.2
    refine ⟨p :: ps, by unfold D.pys; rw [a1, e1], by simp [PyData.canLayAll0, a2, e2], ?_⟩
    show max p.depth (PyData.depthAll ps) ≤ max (dep d) (deps ds)
    omega
end
theorem plain_pyS {d : D} (S : Sto) (h : Plain d = true) (hd : dep d ≤ 64) : ∃ p, pyS S d = some p ∧ SeqAt.shaped p = true := by
  obtain ⟨p, e1, e2, e3⟩ := plain_py d h
  refine ⟨p, ?_, ?_⟩
  · cases d with
    | ptr n => cases h
    | _ => exact e1
  · unfold SeqAt.shaped
    rw [e2, decide_eq_true (by omega)]
    rfl
theorem deqv_self {d : D} (S : Sto) (h : Plain d = true) (hd : dep d ≤ 64) : deqv S d d = some true := by
  obtain ⟨p, e1, e2⟩ := plain_pyS S h hd
  rw [deqv_of e1 e1 e2 e2, PySem.SeqAt.eqv_refl p (by unfold SeqAt.shaped at e2; exact (Bool.and_eq_true_iff.mp e2).1)]
theorem gNe_self {d : D} (S : Sto) (h : Plain d = true) (hd : dep d ≤ 64) : gNe S d d = some (.bl false) := gNe_of (deqv_self S h hd)
theorem gEq_self {d : D} (S : Sto) (h : Plain d = true) (hd : dep d ≤ 64) : gEq S d d = some (.bl true) := gEq_of (deqv_self S h hd)
theorem plains_ints : ∀ ns : List Int, Plains (ns.map D.int) = true
  | [] => rfl
  | n :: ns => by show (true && Plains (ns.map D.int)) = true; rw [plains_ints ns]; rfl
theorem deps_ints : ∀ ns : List Int, deps (ns.map D.int) = 0
  | [] => rfl
  | n :: ns => by show max 0 (deps (ns.map D.int)) = 0; rw [deps_ints ns]; rfl
theorem plain_ints (ns : List Int) (h : ns.length < 16777216) : Plain (.lst (ns.map D.int)) = true := by
  show (Plains (ns.map D.int) && decide ((ns.map D.int).length < 16777216)) = true
  rw [plains_ints, List.length_map, decide_eq_true h]
  rfl
theorem dep_ints (ns : List Int) : dep (.lst (ns.map D.int)) = 1 := by show deps (ns.map D.int) + 1 = 1; rw [deps_ints]
/-- a def that returns its own list -/
theorem finP {R S : Sto} {n : Nat} {ds : List D} (h : St R S) (hR : Cl R) (hn : n = R.length + 1) (hd : ∀ n, noPtrs n ds = true) : finO n (.ok (.ptr n) (S ++ [.lst ds])) = .ok (.lst ds) S := by
  subst hn
  have hl := h.len
  obtain ⟨es, hp, rfl⟩ := h
  have e1 : ¬ ((.lst es :: R ++ [.lst ds] : Sto)).length = R.length + 1 := by simp
  have e0 : ((.lst es :: R ++ [.lst ds] : Sto)).take (R.length + 1) = .lst es :: R := by
    rw [List.take_append_of_le_length (by simp), List.take_of_length_le (by simp)]
  have e2 : (((.lst es :: R ++ [.lst ds] : Sto)).take (R.length + 1)).all (noPtrC (R.length + 1)) = true := by
    rw [e0, List.all_cons, pool_nopn _ hp]
    exact hR
  have e4 : ofPtr (.lst es :: R ++ [.lst ds]) (R.length + 1) = some ds := by
    have := ofPtr_end (.lst es :: R) ds
    rw [hl] at this
    exact this
  have e3 : fz (.lst es :: R ++ [.lst ds]) (R.length + 1) (.ptr (R.length + 1)) = some (.lst ds) := by
    unfold fz
    rw [if_neg (by simp [noPtr])]
    simp only [e4]
    rw [if_pos (hd _)]
  simp only [finO]
  rw [if_neg e1, if_pos e2]
  simp only [e3, e0]
theorem to_ints {P : Int → Prop} : ∀ ds : List D, (∀ d ∈ ds, ∃ w : Int, d = .int w ∧ P w) → ∃ ws : List Int, ds = ws.map D.int ∧ ∀ w ∈ ws, P w
  | [], _ => ⟨[], rfl, by simp⟩
  | d :: ds, h => by
    obtain ⟨w, rfl, hw⟩ := h d List.mem_cons_self
    obtain ⟨ws, rfl, hs⟩ := to_ints ds fun x hx => h x (List.mem_cons_of_mem _ hx)
    refine ⟨w :: ws, rfl, fun x hx => ?_⟩
    rcases List.mem_cons.mp hx with rfl | hx
    · exact hw
    · exact hs x hx
theorem cSum_ints (S : Sto) (ns : List Int) : cSum S [.lst (ns.map D.int)] = some (.int ns.sum) := by
  show (intsD (ns.map D.int)).map _ = _
  rw [intsD_map]
  rfl
theorem cSum_end (S : Sto) (ns : List Int) : cSum (S ++ [.lst (ns.map D.int)]) [.ptr S.length] = some (.int ns.sum) := by
  unfold cSum intsL seqL
  simp only [ofPtr_end]
  rw [intsD_map]
  rfl
theorem atI_map {ns : List Int} {k : Nat} (h : k < ns.length) : atI (ns.map D.int) (k : Int) = some (.int ns[k]) := by
  rw [atI_n, List.getElem?_map, List.getElem?_eq_getElem h]
  rfl
theorem dCompP_ok {fi : DL.Env → M (List D)} {g : DG} {t : DL.Env → M Bool} {e : DL.Env → M D} {vs : List Nat} {ρ : DL.Env} {S S1 S2 : Sto} {items ds : List D} (h1 : fi ρ S = .ok items S1) (h2 : items.length ≤ sizeLine) (h3 : compL g t e (dwipe ρ vs) items S1 = .ok ds S2) : dCompP fi g t e vs ρ S = .ok (.ptr S2.length) (S2 ++ [.lst ds]) := by
  show (fi ρ S).then _ = _
  rw [h1]
  show (if items.length ≤ sizeLine then mbind (compL g t e (dwipe ρ vs) items) fun ds => mnew ds else mbad : M D) S1 = _
  rw [if_pos h2]
  show (compL g t e (dwipe ρ vs) items S1).then _ = _
  rw [h3]
  rfl
end DL.Pre
set_option Elab.async false
set_option linter.all false
set_option maxRecDepth 100000
/-! what is known of own classes, over a written part with more behind it -/
namespace DL
open PySem PySem.Spec PyProof.Rows L2
section
variable {K K' : PySem.W.Frag}
theorem LkEq.clsIn' (h : LkEq K K') (C : Addr) : PySem.W.clsIn K' C = PySem.W.clsIn K C := by
  unfold PySem.W.clsIn
  rw [h C]
theorem LkEq.findInR (h : LkEq K K') {v : Value} {x : Str} {r : Option (Option Value)} (e : PySem.W.findIn K v x = r) : PySem.W.findIn K' v x = r := (h.findIn v x).trans e
theorem LkEq.hasDictIn (h : LkEq K K') {C : Addr} {r : Bool} (e : PySem.W.hasDictIn K C = r) : PySem.W.hasDictIn K' C = r := by
  unfold PySem.W.hasDictIn at e ⊢
  rw [h.clsIn']; exact e
theorem LkEq.specialIn' (h : LkEq K K') (v : Value) (x : Str) : PySem.W.specialIn K' v x = PySem.W.specialIn K v x := by
  unfold PySem.W.specialIn
  rw [h.typeIn']
  cases PySem.W.typeIn K v with
  | none => rfl
  | some t => exact h.findIn t x
theorem LkEq.specialIn (h : LkEq K K') {v : Value} {x : Str} {r : Option (Option Value)} (e : PySem.W.specialIn K v x = r) : PySem.W.specialIn K' v x = r := (h.specialIn' v x).trans e
theorem LkEq.takesIn (h : LkEq K K') {v : Value} {r : Option Bool} (e : PySem.W.takesIn K v = r) : PySem.W.takesIn K' v = r := by
  unfold PySem.W.takesIn at e ⊢
  rw [h.specialIn', h.specialIn']; exact e
theorem LkEq.mroIn' (h : LkEq K K') (C : Addr) (b : Value) : PySem.W.mroIn K' C b = PySem.W.mroIn K C b := by
  unfold PySem.W.mroIn
  rw [h.clsIn']
theorem LkEq.mroIn (h : LkEq K K') {C : Addr} {b : Value} {r : Option Bool} (e : PySem.W.mroIn K C b = r) : PySem.W.mroIn K' C b = r := (h.mroIn' C b).trans e
theorem LkEq.subIn' (h : LkEq K K') (v b : Value) : PySem.W.subIn K' v b = PySem.W.subIn K v b := by
  cases v <;> simp only [PySem.W.subIn, h.mroIn']
theorem LkEq.kitCls' (h : LkEq K K') (t c : Value) : PySem.W.kitCls K' t c = PySem.W.kitCls K t c := by
  cases c <;> simp only [PySem.W.kitCls, h.subIn', h.clsIn', h.typeIn']
theorem LkEq.kitOne (h : LkEq K K') {t c : Value} {r : Option Bool} (e : PySem.W.kitOne K t c = r) : PySem.W.kitOne K' t c = r := by
  unfold PySem.W.kitOne at e ⊢
  rw [h.kitCls']; exact e
theorem LkEq.exmOne (h : LkEq K K') {t c : Value} {r : Option Bool} (e : PySem.W.exmOne K t c = r) : PySem.W.exmOne K' t c = r := by
  unfold PySem.W.exmOne at e ⊢
  rw [h.kitCls', h.subIn']; exact e
end
end DL
set_option Elab.async false
set_option linter.all false
set_option maxRecDepth 100000
set_option maxHeartbeats 2000000
/-! dicts -/
namespace DL
open PySem PySem.Spec PyProof.Rows L2
section
variable {K : PySem.W.Frag} {b m m' : List Addr} {H H' : Hp}
theorem hoD_isCd (t : DK) (vs : List V) : isCd (hoD t vs) = false := by cases t <;> rfl
theorem hoD_tup (t : DK) (vs : List V) : ∀ xs, hoD t vs ≠ .tup xs := fun xs z => by cases t <;> cases z
theorem hoD_frz (t : DK) (vs : List V) : ∀ o u, hoD t vs ≠ .frz o u := fun o u z => by cases t <;> cases z
theorem hoD_lst (t : DK) (vs : List V) : ∀ xs, hoD t vs ≠ .lst xs := fun xs z => by cases t <;> cases z
/-- a new cell -/
theorem Tr.newO {p : Addr} {o : HO} (hp : H p = none) (hc : isCd o = false) : Tr m H (m ++ [p]) (upd H p o) where
  ext := ⟨[p], rfl⟩
  fresh := fun a h h' => by
    rcases List.mem_append.mp h with h | h
    · exact absurd h h'
    · rw [List.mem_singleton.mp h]; exact hp
  kept := fun a u h _ _ => (Same.upd hp hc).old a u h
  there := fun a u h _ => ⟨u, (Same.upd hp hc).old a u h⟩
  tups := fun a xs h => (Same.tr (m := m) (Same.upd hp hc)).tups a xs h
  frzs := fun a w u h => (Same.upd hp hc).old a _ h
  tupH := fun a xs h => (Same.upd hp hc).old a _ h
theorem CellR.tr (t : Tr m H m' H') {a : Addr} {c : Cell} (k : ∀ o, H a = some o → H' a = some o) (r : CellR K b m H a c) : CellR K b m' H' a c := by
  cases c with
  | lst ds => obtain ⟨xs, h1, h2⟩ := r; exact ⟨xs, k _ h1, h2.tr t⟩
  | dct l u ds => obtain ⟨xs, h1, hl, h2⟩ := r; exact ⟨xs, h1.imp fun o z _ => k _ z, hl, h2.tr t⟩
theorem StoR.newC {S : Sto} {p : Addr} {o : HO} {c : Cell} (h : StoR K b m H S) (hp : H p = none) (hc : isCd o = false) (r : CellR K b (m ++ [p]) (upd H p o) p c) : StoR K b (m ++ [p]) (upd H p o) (S ++ [c]) := by
  have t : Tr m H (m ++ [p]) (upd H p o) := Tr.newO hp hc
  refine ⟨by simp [h.len], ?_, fun n a c' e1 e2 => ?_, fun a ha => ?_, h.tabs.same (Same.upd hp hc)⟩
  · refine List.nodup_append.mpr ⟨h.nd, by simp, fun a ha c hc e => ?_⟩
    rw [List.mem_singleton.mp hc] at e
    exact h.nmem hp (e ▸ ha)
  · by_cases hn : n < m.length
    · rw [List.getElem?_append_left hn] at e1
      rw [List.getElem?_append_left (by rw [← h.len]; exact hn)] at e2
      exact CellR.tr t (fun u z => (Same.upd hp hc).old _ _ z) (h.cell n a c' e1 e2)
    · have hn' : n = m.length := by
        have := (List.getElem?_eq_some_iff.mp e1).1
        simp at this
        omega
      subst hn'
      rw [List.getElem?_append_right (Nat.le_refl _)] at e1
      rw [h.len, List.getElem?_append_right (Nat.le_refl _)] at e2
      simp at e1 e2
      subst e1 e2
      exact r
  · obtain ⟨h1, u, h2⟩ := h.ban a ha
    refine ⟨fun z => ?_, u, (Same.upd hp hc).old _ _ h2⟩
    rcases List.mem_append.mp z with z | z
    · exact h1 z
    · rw [List.mem_singleton.mp z, hp] at h2; cases h2
/-- a dict's cell is written -/
theorem Tr.writeD {a : Addr} {t u : DK} {xs ys : List V} (ha : a ∈ m) (e : H a = some (hoD t xs)) : Tr m H m (upd H a (hoD u ys)) where
  ext := ⟨[], by simp⟩
  fresh := fun _ h h' => absurd h h'
  kept := fun c o h n _ => by rw [upd_ne (fun z : c = a => n (by rw [z]; exact ha))]; exact h
  there := fun c o h n => ⟨o, by rw [upd_ne (fun z : c = a => n (by rw [z]; exact ha))]; exact h⟩
  tups := fun c zs h => by
    have hc : c ≠ a := fun z => by
      subst z
      rcases h with h | ⟨o, h⟩ <;> rw [e] at h
      · exact hoD_tup t xs _ (Option.some.inj h)
      · exact hoD_frz t xs _ _ (Option.some.inj h)
    rcases h with h | ⟨o, h⟩
    · exact .inl (by rw [upd_ne hc]; exact h)
    · exact .inr ⟨o, by rw [upd_ne hc]; exact h⟩
  frzs := fun c o w h => by
    have hc : c ≠ a := fun z => by subst z; rw [e] at h; exact hoD_frz t xs _ _ (Option.some.inj h)
    rw [upd_ne hc]; exact h
  tupH := fun c zs h => by
    have hc : c ≠ a := fun z => by subst z; rw [e] at h; exact hoD_tup t xs _ (Option.some.inj h)
    rw [upd_ne hc]; exact h
theorem StoR.writeD {S : Sto} {n : Nat} {a : Addr} {t u : DK} {xs ys : List V} {es : List D} (h : StoR K b m H S) (hm : m[n]? = some a) (e : H a = some (hoD t xs)) (hl : u.len = ys.length) (r : Reps K b m H ys es) :
    StoR K b m (upd H a (hoD u ys)) (S.set n (.dct false u es)) := by
  have tr : Tr m H m (upd H a (hoD u ys)) := Tr.writeD (List.mem_of_getElem? hm) e
  refine ⟨by simp [h.len], h.nd, fun k c cl e1 e2 => ?_, fun c hc => ?_, h.tabs.upd (fun w z => by rw [e] at z; cases z; exact ⟨hoD_isCd t xs, hoD_tbl t xs⟩) (hoD_isCd u ys)⟩
  · by_cases hk : k = n
    · subst hk
      rw [hm] at e1
      cases e1
      have hl' : k < S.length := by
        have := (List.getElem?_eq_some_iff.mp hm).1
        rw [← h.len]; exact this
      rw [List.getElem?_set_self hl'] at e2
      cases e2
      exact ⟨ys, upd_same, hl, r.tr tr⟩
    · rw [List.getElem?_set_ne (Ne.symm hk)] at e2
      have hc : c ≠ a := fun z => by
        subst z
        obtain ⟨h1, e1'⟩ := List.getElem?_eq_some_iff.mp e1
        obtain ⟨h2, e2'⟩ := List.getElem?_eq_some_iff.mp hm
        exact hk ((List.getElem_inj h.nd).mp (e1'.trans e2'.symm))
      exact CellR.tr tr (fun o z => by rw [upd_ne hc]; exact z) (h.cell k c cl e1 e2)
  · obtain ⟨h1, o, h2⟩ := h.ban c hc
    exact ⟨h1, o, by rw [upd_ne (fun z => h1 (by rw [z]; exact List.mem_of_getElem? hm))]; exact h2⟩
/-! ### keys -/
def keyOf : D → Option Key
  | .int i => some (.inl i)
  | .str s => some (.inr s)
  | _ => none
def keysOf : List D → Option (List Key)
  | [] => some []
  | d :: r => match keyOf d, keysOf r with
    | some k, some ks => some (k :: ks)
    | _, _ => none
theorem key_rep {v : V} {d : D} {k : Key} (r : Rep K b m H v d) (e : keyOf d = some k) : v = kV k := by
  cases r <;> first
    | (cases e; done)
    | (cases e; rfl)
theorem keys_rep : ∀ {ds : List D} {vs : List V} {ks : List Key}, Reps K b m H vs ds → keysOf ds = some ks → vs = ks.map kV
  | [], _, _, r, e => by cases r; cases e; rfl
  | d :: ds, _, _, r, e => by
    cases r with
    | cons r rs =>
      unfold keysOf at e
      split at e
      · rename_i k ks h1 h2
        cases e
        rw [List.map_cons, ← key_rep r h1, ← keys_rep rs h2]
      · cases e
def keyD : Key → D
  | .inl i => .int i
  | .inr s => .str s
theorem keyD_rep (k : Key) : Rep K b m H (kV k) (keyD k) := by cases k <;> first | exact .int _ | exact .str _
theorem keysD_rep : ∀ ks : List Key, Reps K b m H (ks.map kV) (ks.map keyD)
  | [] => .nil
  | k :: ks => .cons (keyD_rep k) (keysD_rep ks)
section
variable {κ : Type} [DecidableEq κ]
def valD (ks : List κ) (ds : List D) (k : κ) : Option D := ((ks.zip ds).find? fun p => decide (p.1 = k)).map (·.2)
def putDs (ks : List κ) (ds : List D) (k : κ) (d : D) : List κ × List D := if (ks.any fun j => decide (j = k)) = true then (ks, List.zipWith (fun j x => if j = k then d else x) ks ds) else (ks ++ [k], ds ++ [d])
theorem val_rep (k : κ) : ∀ (ks : List κ) (vs : List V) (ds : List D), Reps K b m H vs ds → (∀ d, valD ks ds k = some d → ∃ v, valV (ks.zip vs) k = some v ∧ Rep K b m H v d) ∧ (valD ks ds k = none → valV (ks.zip vs) k = none)
  | [], vs, ds, _ => ⟨fun d h => (by cases h), fun _ => rfl⟩
  | j :: ks, [], _, .nil => ⟨fun d h => (by cases h), fun _ => rfl⟩
  | j :: ks, v :: vs, d :: ds, .cons r rs => by
    by_cases h : j = k
    · refine ⟨fun d' e => ?_, fun e => ?_⟩
      · have e' : some d = some d' := by rw [← e]; simp [valD, h]
        cases e'
        exact ⟨v, valV_pos (p := (j, v)) h, r⟩
      · have e' : some d = none := by rw [← e]; simp [valD, h]
        cases e'
    · obtain ⟨i1, i2⟩ := val_rep k ks vs ds rs
      have e1 : valD (j :: ks) (d :: ds) k = valD ks ds k := by simp [valD, h]
      have e2 : valV ((j :: ks).zip (v :: vs)) k = valV (ks.zip vs) k := valV_neg (p := (j, v)) h
      rw [e1, e2]
      exact ⟨i1, i2⟩
theorem any_zip (k : κ) : ∀ (ks : List κ) (vs : List V), ks.length = vs.length → ((ks.zip vs).any fun p => decide (p.1 = k)) = ks.any fun j => decide (j = k)
  | [], _, _ => rfl
  | j :: ks, [], h => by simp at h
  | j :: ks, v :: vs, h => by
    rw [List.zip_cons_cons, List.any_cons, List.any_cons, any_zip k ks vs (by simpa using h)]
theorem zip_with (k : κ) (w : V) : ∀ (ks : List κ) (vs : List V), (ks.zip vs).map (fun p => if p.1 = k then (p.1, w) else p) = ks.zip (List.zipWith (fun j x => if j = k then w else x) ks vs)
  | [], _ => rfl
  | j :: ks, [] => by simp
  | j :: ks, v :: vs => by
    rw [List.zip_cons_cons, List.map_cons, List.zipWith_cons_cons, List.zip_cons_cons, zip_with k w ks vs]
    by_cases h : j = k <;> simp [h]
theorem reps_with {w : V} {d : D} (k : κ) (r : Rep K b m H w d) : ∀ (ks : List κ) (vs : List V) (ds : List D), Reps K b m H vs ds → Reps K b m H (List.zipWith (fun j x => if j = k then w else x) ks vs) (List.zipWith (fun j x => if j = k then d else x) ks ds)
  | [], vs, ds, _ => by simp; exact .nil
  | j :: ks, [], _, .nil => by simp; exact .nil
  | j :: ks, v :: vs, e :: ds, .cons q rs => by
    rw [List.zipWith_cons_cons, List.zipWith_cons_cons]
    refine .cons ?_ (reps_with k r ks vs ds rs)
    by_cases h : j = k
    · rw [if_pos h, if_pos h]; exact r
    · rw [if_neg h, if_neg h]; exact q
theorem put_rep {ks : List κ} {vs : List V} {ds : List D} {v : V} {d : D} (k : κ) (hl : ks.length = vs.length) (rs : Reps K b m H vs ds) (r : Rep K b m H v d) :
    ∃ vs', putK (ks.zip vs) k v = (putDs ks ds k d).1.zip vs' ∧ (putDs ks ds k d).1.length = vs'.length ∧ Reps K b m H vs' (putDs ks ds k d).2 := by
  unfold putK putDs
  rw [any_zip k ks vs hl]
  by_cases h : (ks.any fun j => decide (j = k)) = true
  · rw [if_pos h, if_pos h]
    exact ⟨_, zip_with k v ks vs, by simp [hl], reps_with k r ks vs ds rs⟩
  · rw [if_neg h, if_neg h]
    refine ⟨vs ++ [v], ?_, by simp [hl], rs.append (.cons r .nil)⟩
    rw [List.zip_append hl]
    rfl
end
/-! ### reading -/
def dictOf (S : Sto) : D → Option (DK × List D)
  | .dct t ds => some (t, ds)
  | .ptr n => match S[n]? with
    | some (.dct _ t ds) => some (t, ds)
    | _ => none
  | _ => none
theorem dict_rep {S : Sto} {v : V} {d : D} {t : DK} {ds : List D} (hs : StoR K b m H S) (r : Rep K b m H v d) (e : dictOf S d = some (t, ds)) : ∃ a vs, v = .ref a ∧ Rd H a (hoD t vs) ∧ t.len = vs.length ∧ Reps K b m H vs ds := by
  cases r with
  | dct h1 hl _ _ h2 => cases e; exact ⟨_, _, rfl, h1.rd, hl, h2⟩
  | @ptr n a h =>
    have e' : (match S[n]? with
      | some (.dct _ t ds) => some (t, ds)
      | _ => none) = some (t, ds) := e
    split at e'
    · rename_i l u es h2
      cases e'
      obtain ⟨xs, h3, hl, h4⟩ := hs.cell n a _ h h2
      exact ⟨a, xs, rfl, h3.rd, hl, h4⟩
    · cases e'
  | _ => cases e
def getDD (S : Sto) (o i : D) : Option (Option D) := match dictOf S o with
  | some (.K ks, ds) => (keyOf i).map (valD ks ds)
  | some (.T ks, ds) => match i with
    | .tup es => (keysOf es).map (valD ks ds)
    | _ => none
  | none => none
theorem get_rep {S : Sto} {vo vi : V} {o i : D} {r : Option D} (hs : StoR K b m H S) (ro : Rep K b m H vo o) (ri : Rep K b m H vi i) (e : getDD S o i = some r) :
    ∃ a w, vo = .ref a ∧ DGet H a vi w ∧ (∀ d, r = some d → ∃ v, w = some v ∧ Rep K b m H v d) ∧ (r = none → w = none) := by
  unfold getDD at e
  split at e
  · rename_i ks ds q
    obtain ⟨a, vs, rfl, h1, hl, h2⟩ := dict_rep hs ro q
    cases q2 : keyOf i with
    | none => rw [q2] at e; cases e
    | some k =>
      rw [q2] at e
      cases e
      obtain ⟨i1, i2⟩ := val_rep k ks vs ds h2
      exact ⟨a, _, rfl, .inl ⟨_, k, h1, key_rep ri q2, rfl⟩, i1, i2⟩
  · rename_i ks ds q
    obtain ⟨a, vs, rfl, h1, hl, h2⟩ := dict_rep hs ro q
    split at e
    · rename_i es
      cases q2 : keysOf es with
      | none => rw [q2] at e; cases e
      | some k =>
        rw [q2] at e
        cases e
        obtain ⟨i1, i2⟩ := val_rep k ks vs ds h2
        cases ri with
        | tup g1 g2 =>
          rw [keys_rep g2 q2] at g1
          exact ⟨a, _, rfl, .inr ⟨_, k, _, h1, rfl, g1, rfl⟩, i1, i2⟩
    · cases e
  · cases e
@[simp] def dGet (fo fi : Env → M D) : Env → M D := fun ρ => mbind (fo ρ) fun o => mbind (fi ρ) fun i S => (mopt (getDD S o i).join : M D) S
@[simp] def dDIn (fi fo : Env → M D) : Env → M D := fun ρ => mbind (fi ρ) fun i => mbind (fo ρ) fun o S => (mopt ((getDD S o i).map fun r => .bl r.isSome) : M D) S
@[simp] def dDNotIn (fi fo : Env → M D) : Env → M D := fun ρ => mbind (fi ρ) fun i => mbind (fo ρ) fun o S => (mopt ((getDD S o i).map fun r => .bl !r.isSome) : M D) S
end
section
variable {X : Cx} {W : WX} {e o i : Expr} {fe fo fi : Env → M D} {pos pos' : Pos}
theorem pd_dget (hu : X.A.units + 64 < cLine) (ho : PD X W o fo) (hi : PD X W i fi) (hs : NoSl i) : PD X W (.Subscript o i pos) (dGet fo fi) := PE.imp (pe_dget (by omega) ho hi hs) fun σ H Q ⟨b, m, ρ, S, hv, hs, h⟩ =>
  ⟨b, m, ρ, S, hv, hs, Post.then h fun dx S1 m1 H1 x e1 t1 s1 r1 h1 => ⟨b, m1, ρ, S1, hv.tr t1, s1, Post.then h1 fun dy S2 m2 H2 y e2 t2 s2 r2 h2 => by
    unfold mopt at h2
    cases q : getDD S2 dx dy with
    | none => rw [q] at h2; exact h2.elim
    | some r =>
      rw [q] at h2
      cases r with
      | none => exact h2.elim
      | some d =>
        obtain ⟨a, w, rfl, g, k1, k2⟩ := get_rep s2 (r1.tr t2) r2 q
        obtain ⟨v, rfl, rv⟩ := k1 d rfl
        exact ⟨a, v, rfl, g, h2 _ _ _ Tr.refl s2 rv⟩⟩⟩
theorem pd_din (hu : X.A.units + 64 < cLine) (hi : PD X W i fi) (ho : PD X W o fo) (hm : behindInMarks .In o = false := by first | exact nobehind _ (by decide) (by decide) | rfl) : PD X W (.Compare i [.In] [o] pos) (dDIn fi fo) := PE.imp (pe_cmp (pc_din (by omega) hi ho) hm) fun σ H Q ⟨b, m, ρ, S, hv, hs, h⟩ =>
  ⟨b, m, ρ, S, hv, hs, Post.then h fun dy S1 m1 H1 y e1 t1 s1 r1 h1 => ⟨b, m1, ρ, S1, hv.tr t1, s1, Post.then h1 fun dx S2 m2 H2 x e2 t2 s2 r2 h2 => by
    unfold mopt at h2
    cases q : getDD S2 dx dy with
    | none => rw [q] at h2; exact h2.elim
    | some r =>
      rw [q] at h2
      obtain ⟨a, w, rfl, g, k1, k2⟩ := get_rep s2 r2 (r1.tr t2) q
      refine ⟨a, w, rfl, g, ?_⟩
      have : w.isSome = r.isSome := by
        cases r with
        | none => rw [k2 rfl]; rfl
        | some d => obtain ⟨v, rfl, _⟩ := k1 d rfl; rfl
      rw [this]
      exact h2 _ _ _ Tr.refl s2 (.bl _)⟩⟩
theorem pd_dnotin (hu : X.A.units + 64 < cLine) (hi : PD X W i fi) (ho : PD X W o fo) (hm : behindInMarks .NotIn o = false := by first | exact nobehind _ (by decide) (by decide) | rfl) : PD X W (.Compare i [.NotIn] [o] pos) (dDNotIn fi fo) := PE.imp (pe_cmp (pc_dnotin (by omega) hi ho) hm) fun σ H Q ⟨b, m, ρ, S, hv, hs, h⟩ =>
  ⟨b, m, ρ, S, hv, hs, Post.then h fun dy S1 m1 H1 y e1 t1 s1 r1 h1 => ⟨b, m1, ρ, S1, hv.tr t1, s1, Post.then h1 fun dx S2 m2 H2 x e2 t2 s2 r2 h2 => by
    unfold mopt at h2
    cases q : getDD S2 dx dy with
    | none => rw [q] at h2; exact h2.elim
    | some r =>
      rw [q] at h2
      obtain ⟨a, w, rfl, g, k1, k2⟩ := get_rep s2 r2 (r1.tr t2) q
      refine ⟨a, w, rfl, g, ?_⟩
      have : w.isSome = r.isSome := by
        cases r with
        | none => rw [k2 rfl]; rfl
        | some d => obtain ⟨v, rfl, _⟩ := k1 d rfl; rfl
      rw [this]
      exact h2 _ _ _ Tr.refl s2 (.bl _)⟩⟩
/-! ### new, written -/
@[simp] def dNewD (t : DK) : Env → M D := fun _ S => .ok (.ptr S.length) (S ++ [.dct false t []])
theorem newPtrO {K : PySem.W.Frag} {b m : List Addr} {H : Hp} {S : Sto} {p : Addr} {o : HO} (hs : StoR K b m H S) : Rep K b (m ++ [p]) (upd H p o) (.ref p) (.ptr S.length) :=
  .ptr (by rw [← hs.len, List.getElem?_append_right (Nat.le_refl _)]; simp)
theorem pd_dnewK : PD X W (.Dict [] [] pos) (dNewD (.K [])) := PE.imp pe_dnewK fun σ H Q ⟨b, m, ρ, S, hv, hs, h⟩ p hp =>
  h _ _ _ (Tr.newO (o := hoD (.K []) []) hp rfl) (hs.newC hp (hoD_isCd (.K []) []) ⟨[], upd_same, rfl, .nil⟩) (newPtrO hs)
theorem pd_dnewT : PD X W (.Dict [] [] pos) (dNewD (.T [])) := PE.imp pe_dnewT fun σ H Q ⟨b, m, ρ, S, hv, hs, h⟩ p hp =>
  h _ _ _ (Tr.newO (o := hoD (.T []) []) hp rfl) (hs.newC hp (hoD_isCd (.T []) []) ⟨[], upd_same, rfl, .nil⟩) (newPtrO hs)
def putDD (S : Sto) (o i d : D) : Option Sto := match o with
  | .ptr n => match S[n]? with
    | some (.dct false (.K ks) ds) => match keyOf i with
      | some k => if ks.length < sizeLine then some (S.set n (.dct false (.K (putDs ks ds k d).1) (putDs ks ds k d).2)) else none
      | none => none
    | some (.dct false (.T ks) ds) => match i with
      | .tup es => match keysOf es with
        | some k => if ks.length < sizeLine then some (S.set n (.dct false (.T (putDs ks ds k d).1) (putDs ks ds k d).2)) else none
        | none => none
      | _ => none
    | _ => none
  | _ => none
theorem putD_rep {K : PySem.W.Frag} {b m : List Addr} {H : Hp} {S S' : Sto} {vo vi v : V} {o i d : D} (hs : StoR K b m H S) (ro : Rep K b m H vo o) (ri : Rep K b m H vi i) (r : Rep K b m H v d) (e : putDD S o i d = some S') :
    ∃ a H', vo = .ref a ∧ DPut H a vi v H' ∧ StoR K b m H' S' ∧ Tr m H m H' := by
  unfold putDD at e
  split at e
  · rename_i n
    cases ro with
    | @ptr _ a hn =>
      split at e
      · rename_i ks ds q
        obtain ⟨vs, h1, hl, h2⟩ := hs.cell n a _ hn q
        split at e
        · rename_i k hk
          split at e
          · rename_i hz
            cases e
            obtain ⟨vs', p1, p2, p3⟩ := put_rep k hl h2 r
            have p2' : (DK.K (putDs ks ds k d).1).len = vs'.length := p2
            refine ⟨a, _, rfl, .inl ⟨_, k, h1, key_rep ri hk, ?_, rfl⟩, ?_, ?_⟩
            · have hl' : ks.length = vs.length := hl
              rw [List.length_zip]; omega
            · rw [p1]
              exact hs.writeD hn h1 p2' p3
            · rw [p1]
              exact Tr.writeD (u := .K (putDs ks ds k d).1) (List.mem_of_getElem? hn) h1
          · cases e
        · cases e
      · rename_i ks ds q
        obtain ⟨vs, h1, hl, h2⟩ := hs.cell n a _ hn q
        split at e
        · rename_i es
          split at e
          · rename_i k hk
            split at e
            · rename_i hz
              cases e
              cases ri with
              | tup g1 g2 =>
                rw [keys_rep g2 hk] at g1
                obtain ⟨vs', p1, p2, p3⟩ := put_rep k hl h2 r
                have p2' : (DK.T (putDs ks ds k d).1).len = vs'.length := p2
                refine ⟨a, _, rfl, .inr ⟨_, k, _, h1, rfl, g1, ?_, rfl⟩, ?_, ?_⟩
                · have hl' : ks.length = vs.length := hl
                  rw [List.length_zip]; omega
                · rw [p1]
                  exact hs.writeD hn h1 p2' p3
                · rw [p1]
                  exact Tr.writeD (u := .T (putDs ks ds k d).1) (List.mem_of_getElem? hn) h1
            · cases e
          · cases e
        · cases e
      · cases e
  · cases e
@[simp] def sPut (fo fi fe : Env → M D) : DS := fun ρ S => sbind (fe ρ S) ρ fun d S1 => sbind (fo ρ S1) ρ fun o S2 => sbind (fi ρ S2) ρ fun i S3 => match putDD S3 o i d with
  | some S4 => .ok (.nx ρ) S4
  | none => .bad
theorem sd_dput (hu : X.A.units + 64 < cLine) (ho : PD X W o fo) (hi : PD X W i fi) (he : PD X W e fe) (hsw : swapsWith e (some (.Subscript o i pos')) pos.line X.env = pure false := by rfl) : SD X W (.Assign [.Subscript o i pos'] e pos) (sPut fo fi fe) :=
  PS.imp (ps_dput (by omega) ho hi he hsw) fun E σ H ⟨b, m, ρ, S, hv, hs, h⟩ => ⟨b, m, ρ, S, hv, hs, PostS.bind hv h fun d S1 m1 H1 y _ t1 s1 r1 v1 h1 =>
    ⟨b, m1, ρ, S1, v1, s1, PostS.bind v1 h1 fun o' S2 m2 H2 vo _ t2 s2 r2 v2 h2 =>
    ⟨b, m2, ρ, S2, v2, s2, PostS.bind v2 h2 fun i' S3 m3 H3 vi _ t3 s3 r3 v3 h3 => by
      cases q : putDD S3 o' i' d with
      | none => simp only [q] at h3; exact h3.elim
      | some S4 =>
        simp only [q] at h3
        obtain ⟨a, H4, rfl, g, s4, t4⟩ := putD_rep s3 (r2.tr t3) r3 ((r1.tr t2).tr t3) q
        exact ⟨a, H4, rfl, g, h3 _ _ _ t4 (v3.tr t4) s4⟩⟩⟩⟩
end
end DL
set_option Elab.async false
set_option linter.all false
set_option maxRecDepth 100000
set_option maxHeartbeats 2000000
/-! tuples from behind, many times, counted; sorted tuples of ints -/
namespace DL
open PySem PySem.Spec PySem.Calls PyProof.Rows L2
theorem back_adjust (n : Nat) : Builtin.Slice.sliceAdjust none none (-1) (n : Int) = ((n : Int) - 1, -1) := by
  unfold Builtin.Slice.sliceAdjust
  simp
theorem back_places (n : Nat) : Builtin.Slice.slicePlaces ((n : Int) - 1) (-1) (-1) = n := by
  unfold Builtin.Slice.slicePlaces
  simp
  try omega
theorem back_pick (xs : Array Value) : ((List.range xs.size).filterMap fun (m : Nat) => xs[(((xs.size : Int) - 1) + (m : Int) * (-1)).toNat]?).toArray = xs.toList.reverse.toArray := by
  have h := PySem.W.krv_pick xs
  unfold slicePick at h
  rw [PySem.W.krv_bounds] at h
  rw [← h]
  show _ = ((sliceRange ((xs.size : Int) - 1) (-1) (-1)).filterMap (xs[·]?)).toArray
  rw [PySem.W.krv_sliceRange, List.filterMap_map]
  have e : (fun (m : Nat) => xs[(((xs.size : Int) - 1) + (m : Int) * (-1)).toNat]?) = ((fun x => xs[x]?) ∘ fun k => xs.size - 1 - k) := by
    funext m
    show _ = xs[xs.size - 1 - m]?
    rw [show (((xs.size : Int) - 1) + (m : Int) * (-1)).toNat = xs.size - 1 - m by omega]
  rw [e]
section
variable {prog : Program} {w : World} {A : Around} {E : Value → Shared → Prop} {s : Shared}
theorem backApplied {sl : Addr} {v1 v2 v3 : Value} {n : Nat} {Q : Int × Int × Nat → Shared → Prop} (hS : s.heap.IsSliceOf sl v1 v2 v3) (p1 : IsPart v1 none) (p2 : IsPart v2 none) (p3 : IsPart v3 (some (-1))) (h : Q ((n : Int) - 1, -1, n) s) :
    wpAny (model prog w) A (Builtin.Slice.sliceApplied (.ref sl) (pure (n : Int))) Q E s := by
  obtain ⟨ob, g1, g2, g3⟩ := id hS
  unfold Builtin.Slice.sliceApplied
  unfold Builtin.Slice.sliceFields
  refine wpAny_bind (wpAny_bind (wpAny_field g1 g3 (x := v1) rfl (wpAny_bind (wpAny_field g1 g3 (x := v2) rfl (wpAny_bind (wpAny_field g1 g3 (x := v3) rfl (wpAny_pure ?_)))))))
  refine wpAny_bind (HT.slicePart_ p3 ?_)
  show wpAny _ _ (if ((-1 : Int) == 0) = true then _ else _) _ _ s
  rw [if_neg (by decide)]
  refine wpAny_bind (HT.slicePart_ p1 (wpAny_bind (HT.slicePart_ p2 (wpAny_bind (wpAny_pure ?_)))))
  show wpAny _ _ (match Builtin.Slice.sliceAdjust none none (-1) (n : Int) with | (a, b) => pure (a, (-1 : Int), Builtin.Slice.slicePlaces a b (-1))) _ _ s
  rw [back_adjust n]
  show wpAny _ _ (pure ((n : Int) - 1, (-1 : Int), Builtin.Slice.slicePlaces ((n : Int) - 1) (-1) (-1))) _ _ s
  rw [back_places]
  exact wpAny_pure h
theorem getItem_back {t sl : Addr} {xs : Array Value} {v1 v2 v3 : Value} {Q : Value → Shared → Prop} (hT : IsTup s.heap t xs) (hS : s.heap.IsSliceOf sl v1 v2 v3) (p1 : IsPart v1 none) (p2 : IsPart v2 none) (p3 : IsPart v3 (some (-1))) (hz : xs.size ≤ sizeLine)
    (h : Q (.ref s.heap.objs.size) { s with heap := s.heap.push { cls := .type "tuple", data := .seq xs.toList.reverse.toArray } }) : wpAny (model prog w) A (getItem (.ref t) (.ref sl)) Q E s := by
  have fits : sizeOk (.seq xs.toList.reverse.toArray) := by
    show xs.toList.reverse.toArray.size ≤ sizeLine
    simpa using hz
  obtain ⟨ob, g1, g2, g3⟩ := id hS
  have sT : s.TypeIs (.ref sl) "slice" := ⟨ob, g1, g2⟩
  unfold getItem
  try with_reducible refine wpAny_holding ?_
  first | refine wpAny_bind (wpAny_pure ?_) | skip
  refine wpAny_bind (wpAny_sequenceKey hT.typeIs (by decide) ?_)
  refine wpAny_bind (wpAny_callSpecial?_slot (name := Str.ofString "__getitem__") hT.typeIs PyProof.Rows.slot_tuple_getitem (wpAny_call_entry PyProof.Rows.slot_tuple_getitem hT.typeIs entry_tuple_getitem ?_ (args_tuple_getitem _ _)))
  show wpAny _ _ (Builtin.Tuple.tupleItemsOf (.ref t) >>= _) _ _ s
  refine wpAny_bind (tupleItemsOf_ hT ?_)
  refine wpAny_bind (wpAny_typeOf sT ?_)
  rw [if_pos (by decide)]
  refine wpAny_bind (backApplied (n := xs.size) hS p1 p2 p3 ?_)
  have no : ¬ ((((xs.size : Int) - 1 == 0 && (-1 : Int) == 1 && xs.size == xs.size)) = true) := by simp
  show wpAny _ _ (if ((xs.size : Int) - 1 == 0 && (-1 : Int) == 1 && xs.size == xs.size) = true then _ else _) _ _ s
  rw [if_neg no, back_pick]
  first
    | exact wpAny_bind (m := Builtin.Tuple.tupleExact _) (wpAny_newObj_type (wpAny_pure ⟨_, rfl, wpAny_pure h⟩) fits)
    | exact wpAny_bind (m := Builtin.Tuple.tupleExact _) (wpAny_newObj_type (wpAny_bind (wpAny_pure (wpAny_pure ⟨_, rfl, wpAny_pure h⟩))) fits)
    | exact wpAny_bind (wpAny_bind (m := Builtin.Tuple.tupleExact _) (wpAny_newObj_type (wpAny_pure (wpAny_pure ⟨_, rfl, wpAny_pure h⟩)) fits))
    | exact wpAny_bind (wpAny_bind (m := Builtin.Tuple.tupleExact _) (wpAny_newObj_type (wpAny_pure ⟨_, rfl, wpAny_pure h⟩) fits))
end
def tBack (K : PySem.W.Frag) (te : TE) : TE := fun σ H Q => te σ H fun x H1 => ∃ a xs, x = .ref a ∧ SqT K H1 a xs ∧ ∀ p, H1 p = none → Q (.ref p) (upd H1 p (.tup xs.reverse))
theorem pe_back {X : Cx} {e : Expr} {te : TE} {k : Nat} {p1 p2 p3 pos : Pos} (he : PE X e te) : PE X (.Subscript e (.Slice none none (some (.UnaryOp .USub (.Constant (.int 1) k p1) p2)) p3) pos) (tBack X.K te) := by
  refine ⟨fun pins s σ H Q I h => Subscript_ (thn (he.run pins s σ H _ I h) fun v s1 ⟨x, H1, I1, r1, a, xs, ex, hx, q⟩ => ?_)⟩
  subst ex
  cases r1
  have st : PO X (some (.UnaryOp .USub (.Constant (.int 1) k p1) p2)) (tPart (tUn (rU fun i => .int (-i)) (tC (.int 1)))) := po_some (pe_un un_neg pe_int)
  refine wpAny_Slice (thn (po_none.run pins s1 σ H1 (fun o H2 => o = none ∧ H2 = H1) I1 ⟨rfl, rfl⟩) fun vl s2 ⟨l, H2, I2, pl, el, e2⟩ => ?_)
  subst el e2
  refine thn (po_none.run pins s2 σ H2 (fun o H3 => o = none ∧ H3 = H2) I2 ⟨rfl, rfl⟩) fun vu s3 ⟨u, H3, I3, pu, eu, e3⟩ => ?_
  subst eu e3
  refine thn (st.run pins s3 σ H3 (fun o H4 => o = some (-1) ∧ H4 = H3) I3 ⟨1, rfl, -1, rfl, rfl, rfl⟩) fun vs s4 ⟨o, H4, I4, ps, eo, e4⟩ => ?_
  subst eo e4
  have I5 : Inv X pins σ H4 { s4 with heap := s4.heap.push { cls := .type "slice", data := .fields #[vl, vu, vs] } } := I4.kept (t' := s4.toks) fun b ob q => Heap.get?_push_of_some _ q
  obtain ⟨its, r, ht, hz⟩ := I5.tuple hx
  have len := r.length
  show wpAny (model X.prog X.w) X.A (subscriptTail e (.Slice none none (some (.UnaryOp .USub (.Constant (.int 1) k p1) p2)) p3) (.ref a) (.ref s4.heap.objs.size)) (EP X pins σ Q) X.xe { s4 with heap := s4.heap.push { cls := .type "slice", data := .fields #[vl, vu, vs] } }
  refine tail_any (ops := [.ref a, .ref s4.heap.objs.size]) ht.typeIs (PyProof.Rows.slot_tuple_getitem.lookup) ?_ (by with_unfolding_all rfl)
  refine getItem_back ht (Heap.IsSliceOf.new _ vl vu vs) pl pu ps (by rw [List.size_toArray]; omega) ?_
  refine ⟨.ref _, _, I5.laid (t' := s4.toks) (o := .tup xs.reverse) (fun b ob q => Heap.get?_push_of_some _ q) (Nat.le_refl _) ?_, rfl, q _ (I5.hok.fresh (Nat.le_refl _))⟩
  exact ⟨by rw [List.length_reverse]; exact hz, its.reverse, r.reverse, IsTup.new _ _⟩
section
variable {X : Cx} {W : WX} {e : Expr} {fe : Env → M D} {pos p1 p2 p3 : Pos} {k : Nat}
@[simp] def dRevT (f : Env → M D) : Env → M D := fun ρ => mbind (f ρ) fun d S => (mopt ((seqT d).map fun xs => .tup xs.reverse) : M D) S
theorem pd_revT (h : PD X W e fe) : PD X W (.Subscript e (.Slice none none (some (.UnaryOp .USub (.Constant (.int 1) k p1) p2)) p3) pos) (dRevT fe) :=
  PE.imp (pe_back h) fun σ H Q ⟨b, m, ρ, S, hv, hs, h⟩ => ⟨b, m, ρ, S, hv, hs, Post.then h fun d S1 m1 H1 x e1 t1 s1 r1 h1 => by
    cases q : seqT d with
    | none => simp only [q, Option.map_none] at h1; exact h1.elim
    | some ds =>
      simp only [q, Option.map_some] at h1
      obtain ⟨a, xs, rfl, h2, h3⟩ := seqT_rep r1 q
      exact ⟨a, xs, rfl, h2, fun p hp => h1 _ _ _ (Same.tr (Same.upd hp)) (s1.same (Same.upd hp)) (Rep.newTup hp h3.reverse)⟩⟩
end
end DL
set_option Elab.async false
set_option linter.all false
set_option maxRecDepth 100000
set_option maxHeartbeats 2000000
/-! list(d), displays, d.get, walks of dicts -/
namespace DL
open PySem PySem.Spec PyProof.Rows L2
section
variable {K : PySem.W.Frag} {b m : List Addr} {H : Hp}
def keyT (k : List Key) : D := .tup (k.map keyD)
theorem zip_fst {κ : Type} (f : κ → V) : ∀ (ks : List κ) (vs : List V), ks.length = vs.length → (ks.zip vs).map (fun kv => f kv.1) = ks.map f
  | [], _, _ => rfl
  | k :: ks, [], h => by simp at h
  | k :: ks, v :: vs, h => by
    rw [List.zip_cons_cons, List.map_cons, List.map_cons, zip_fst f ks vs (by simpa using h)]
theorem keysK_rep (ks : List Key) : Reps K b m H (ks.map kV) (ks.map keyD) := keysD_rep ks
theorem keysT_rep : ∀ (ks : List (List Key)) (vs : List V) (bs : List Addr), ks.length = vs.length → IsKeys H (ks.zip vs) bs → Reps K b m H (bs.map V.ref) (ks.map keyT)
  | [], vs, bs, _, h => by
    cases bs with
    | nil => exact .nil
    | cons _ _ => cases h
  | k :: ks, [], _, h, _ => by simp at h
  | k :: ks, v :: vs, bs, hl, h => by
    cases h with
    | cons h1 h2 => exact .cons (.tup h1 (keysD_rep k)) (keysT_rep ks vs _ (by simpa using hl) h2)
def keysL : DK → List D
  | .K ks => ks.map keyD
  | .T ks => ks.map keyT
def cListD : GC := fun S ds => match ds with
  | [d] => match dictOf S d with
    | some (t, _) => some (.lst (keysL t))
    | none => none
  | _ => none
def listRule : List V → Hp → VK → Prop := fun xs H Q => (∃ (a : Addr) (kvs : List (Key × V)), xs = [.ref a] ∧ Rd H a (.dK kvs) ∧ ∀ p, H p = none → Q (.ref p) (upd H p (.lst (kvs.map fun kv => kV kv.1)))) ∨
  (∃ d kvs, xs = [V.ref d] ∧ Rd H d (.dT kvs) ∧ ∀ p bs, H p = none → IsKeys H kvs bs → Q (.ref p) (upd H p (.lst (bs.map V.ref))))
theorem call_listU {X : Cx} (hc : X.calm = true) : CallR X (.type "list") listRule := by
  intro pins s σ H xs us Q I r h
  rcases h with h | h
  · exact call_listD hc pins s σ H xs us Q I r h
  · exact call_list_dT hc pins s σ H xs us Q I r h
theorem den_listD : CallDen K listRule cListD := by
  intro b m H S xs ds d Q hs r e q
  unfold cListD at e
  split at e
  · rename_i d0
    obtain ⟨v, rfl, rv⟩ := r.one
    cases q1 : dictOf S d0 with
    | none => simp only [q1] at e; cases e
    | some p =>
      obtain ⟨t, zs⟩ := p
      simp only [q1] at e
      cases e
      obtain ⟨a, vs, rfl, h1, hl, h2⟩ := dict_rep hs rv q1
      cases t with
      | K ks => exact .inl ⟨a, _, rfl, h1, fun p hp => q _ _ (Same.upd hp) (Rep.newLst hs hp (by rw [zip_fst kV ks vs hl]; exact keysK_rep ks))⟩
      | T ks => exact .inr ⟨a, _, rfl, h1, fun p bs hp hb => q _ _ (Same.upd hp) (Rep.newLst hs hp (keysT_rep ks vs bs hl hb))⟩
  · cases e
end
end DL
set_option Elab.async false
set_option linter.all false
set_option maxRecDepth 100000
set_option maxHeartbeats 2000000
/-! sorted(..) of tuples of ints and texts, all of one shape -/
namespace DL
open PySem PySem.Spec PyProof.Rows L2
abbrev itO : KeyOrd := listOrd itemOrd
def cod : List Key → List (Int ⊕ List Nat)
  | [] => []
  | .inl n :: r => .inl n :: cod r
  | .inr s :: r => .inr s.cps.toList :: cod r
def fitK (sh : Nat → Bool) : Nat → List Key → Bool
  | _, [] => true
  | i, .inl _ :: r => !sh i && fitK sh (i + 1) r
  | i, .inr _ :: r => sh i && fitK sh (i + 1) r
def leM (x y : List Key) : Bool := !itO.blt (cod y) (cod x)
theorem cod_inj : ∀ {x y : List Key}, cod x = cod y → x = y
  | [], [], _ => rfl
  | [], .inl _ :: _, h => by cases h
  | [], .inr _ :: _, h => by cases h
  | .inl _ :: _, [], h => by cases h
  | .inr _ :: _, [], h => by cases h
  | .inl a :: x, .inl b :: y, h => by
    have h' : (Sum.inl a : Int ⊕ List Nat) = .inl b ∧ cod x = cod y := by simpa [cod] using h
    obtain ⟨h1, h2⟩ := h'
    cases h1
    rw [cod_inj h2]
  | .inl a :: x, .inr b :: y, h => by simp [cod] at h
  | .inr a :: x, .inl b :: y, h => by simp [cod] at h
  | .inr a :: x, .inr b :: y, h => by
    have h' : a.cps.toList = b.cps.toList ∧ cod x = cod y := by simpa [cod] using h
    obtain ⟨h1, h2⟩ := h'
    have h3 : a = b := by
      cases a; cases b
      congr 1
      exact Array.toList_inj.mp h1
    rw [h3, cod_inj h2]
def sortM (ks : List (List Key)) : List (List Key) := ks.mergeSort leM
theorem leM_tot (x y : List Key) : (leM x y || leM y x) = true := by
  unfold leM
  cases h1 : itO.blt (cod y) (cod x) with
  | false => rfl
  | true =>
    cases h2 : itO.blt (cod x) (cod y) with
    | false => rfl
    | true =>
      have := itO.trans _ _ _ h1 h2
      rw [itO.irrefl] at this
      cases this
theorem leM_trans (x y z : List Key) (h1 : leM x y = true) (h2 : leM y z = true) : leM x z = true := by
  unfold leM at *
  cases h : itO.blt (cod z) (cod x) with
  | false => rfl
  | true =>
    rcases itO.negTrans (cod z) (cod y) (cod x) h with q | q
    · rw [q] at h2; cases h2
    · rw [q] at h1; cases h1
theorem sortM_eq {ks qs : List (List Key)} (hp : qs.Perm ks) (hs : qs.Pairwise fun x y => leM x y = true) : qs = sortM ks := by
  refine List.Perm.eq_of_pairwise (le := fun x y => leM x y = true) (fun a b _ _ h1 h2 => ?_) hs ?_ (hp.trans (List.mergeSort_perm _ _).symm)
  · refine cod_inj (itO.total _ _ ?_ ?_)
    · cases h : itO.blt (cod a) (cod b) with
      | false => rfl
      | true => unfold leM at h2; rw [h] at h2; cases h2
    · cases h : itO.blt (cod b) (cod a) with
      | false => rfl
      | true => unfold leM at h1; rw [h] at h1; cases h1
  · exact List.pairwise_mergeSort (le := leM) leM_trans leM_tot ks
theorem items_cod (sh : Nat → Bool) : ∀ (ks : List Key) (i : Nat) (its : List Value), Vals (ks.map kV) its → fitK sh i ks = true → tupItems sh i its = some (cod ks)
  | [], i, its, r, _ => by cases r; rfl
  | .inl n :: ks, i, its, r, h => by
    cases r with
    | cons a b =>
      obtain ⟨t, rfl⟩ := a
      simp only [fitK, Bool.and_eq_true, Bool.not_eq_true'] at h
      show (if sh i = true then none else (tupItems sh (i + 1) _).map (Sum.inl n :: ·)) = _
      rw [if_neg (by rw [h.1]; decide), items_cod sh ks (i + 1) _ b h.2]
      rfl
  | .inr s :: ks, i, its, r, h => by
    cases r with
    | cons a b =>
      obtain ⟨t, rfl⟩ := a
      simp only [fitK, Bool.and_eq_true] at h
      show (if sh i = true then (tupItems sh (i + 1) _).map (Sum.inr s.cps.toList :: ·) else none) = _
      rw [if_pos h.1, items_cod sh ks (i + 1) _ b h.2]
      rfl
/-- the tuples, by their references -/
def mixRule (K : PySem.W.Frag) : List V → Hp → VK → Prop := fun vs H Q => ∃ (a : Addr) (l : List (Addr × List Key)) (sh : Nat → Bool), vs = [V.ref a] ∧ SqL K H a (l.map fun z => V.ref z.1) ∧ (∀ z ∈ l, SqT K H z.1 (z.2.map kV) ∧ z.2 ≠ [] ∧ fitK sh 0 z.2 = true) ∧
  ∀ (zs : List (Addr × List Key)) (p : Addr), zs.Perm l → ((zs.map (·.2)).Pairwise fun x y => leM x y = true) → H p = none → Q (.ref p) (upd H p (.lst (zs.map fun z => V.ref z.1)))
theorem refs_vals : ∀ (l : List (Addr × List Key)) (its : List Value), Vals (l.map fun z => V.ref z.1) its → its = l.map fun z => Value.ref z.1
  | [], its, r => by cases r; rfl
  | z :: l, its, r => by
    cases r with
    | cons a b =>
      cases a
      rw [refs_vals l _ b]
      rfl
theorem kV_inj : ∀ {x y : List Key}, x.map kV = y.map kV → x = y
  | [], [], _ => rfl
  | [], _ :: _, h => by cases h
  | _ :: _, [], h => by cases h
  | a :: x, b :: y, h => by
    rw [List.map_cons, List.map_cons] at h
    have h1 := (List.cons.inj h).1
    have h2 := kV_inj (List.cons.inj h).2
    have h3 : a = b := by cases a <;> cases b <;> simp_all [kV]
    rw [h3, h2]
theorem vals_refs : ∀ (zs : List (Addr × List Key)), Vals (zs.map fun z => V.ref z.1) (zs.map fun z => Value.ref z.1)
  | [] => .nil
  | z :: zs => .cons rfl (vals_refs zs)
def adr : Value → Addr
  | .ref t => t
  | _ => 0
theorem callMix {X : Cx} : CallR X (.builtin "sorted") (mixRule X.K) := by
  rintro pins s σ H vs us Q I r ⟨a, l, sh, rfl, hs, hx, q⟩
  obtain ⟨its, rv, hl, hz⟩ := I.list hs
  obtain ⟨u, rfl, ru⟩ := vals1 r
  cases (show u = Value.ref a from ru)
  have eits := refs_vals l its rv
  subst eits
  let k : Value → List Key := fun v => match v with
    | .ref t => (match l.find? (fun z => z.1 == t) with
      | some z => z.2
      | none => [])
    | _ => []
  have hk : ∀ z ∈ l, k (Value.ref z.1) = z.2 := fun z hz => by
    show (match l.find? (fun y => y.1 == z.1) with | some z => z.2 | none => []) = z.2
    cases e : l.find? (fun y => y.1 == z.1) with
    | none => exact absurd (List.find?_eq_none.mp e z hz) (by simp)
    | some y =>
      have h1 : y.1 = z.1 := by simpa using List.find?_some e
      have h2 := (hx y (List.mem_of_find?_eq_some e)).1
      rw [h1] at h2
      exact kV_inj (I.tuple_inj h2 (hx z hz).1)
  have tupAt : ∀ z ∈ l, ∃ (o : Obj) (xs : Array Value) (n : Nat), s.heap.get? z.1 = some o ∧ o.cls = .type "tuple" ∧ o.data = .seq xs n ∧ Vals (z.2.map kV) xs.toList := fun z hz => by
    obtain ⟨its2, r2, ⟨o, ho, hc, n, hd⟩, _⟩ := I.tuple (hx z hz).1
    exact ⟨o, its2.toArray, n, ho, hc, hd, by simpa using r2⟩
  have key : ∀ z ∈ l, G.tupKeyC s.heap sh (Value.ref z.1) = some (cod z.2) := fun z hz => by
    obtain ⟨o, xs, n, ho, hc, hd, rr⟩ := tupAt z hz
    have e1 : G.isTupObj s.heap (Value.ref z.1) = true := by
      show (match s.heap.get? z.1 with
        | some o => (match o.cls with | .type n => n == "tuple" | _ => false)
        | none => false) = true
      rw [ho]
      show (match o.cls with | .type n => n == "tuple" | _ => false) = true
      rw [hc]
      rfl
    unfold G.tupKeyC
    rw [if_pos e1]
    show (match s.heap.get? z.1 with
      | some o => (match o.data with | .seq xs _ => tupItems sh 0 xs.toList | _ => none)
      | none => none) = _
    rw [ho]
    show (match o.data with | .seq xs _ => tupItems sh 0 xs.toList | _ => none) = _
    rw [hd]
    exact items_cod sh z.2 0 _ rr (hx z hz).2.2
  have tups : ∀ l' : List (Addr × List Key), (∀ z ∈ l', z ∈ l) → ∃ fs, TupsOf s.heap sh (l'.map fun z => Value.ref z.1) fs := by
    intro l'
    induction l' with
    | nil => intro _; exact ⟨[], .nil⟩
    | cons z l' ih =>
      intro h
      obtain ⟨fs, ih⟩ := ih fun y hy => h y (List.mem_cons_of_mem _ hy)
      have hz := h z List.mem_cons_self
      obtain ⟨o, xs, n, ho, hc, hd, rr⟩ := tupAt z hz
      obtain ⟨_, g1, g2⟩ := hx z hz
      cases e : z.2 with
      | nil => exact absurd e g1
      | cons k0 kr =>
        rw [e] at rr g2
        cases hxs : xs.toList with
        | nil => rw [hxs] at rr; cases rr
        | cons f xr =>
          rw [hxs] at rr
          have hf : xs[0]? = some f := by rw [← Array.getElem?_toList, hxs]; rfl
          cases rr with
          | cons ra rb =>
            refine ⟨f :: fs, .cons ⟨z.1, o, xs, n, rfl, ho, hc, hd, hf, fun h0 => ?_, fun h0 => ?_⟩ ih⟩
            · cases k0 with
              | inl m => obtain ⟨t, rfl⟩ := ra; exact ⟨m, t, rfl⟩
              | inr m => simp [fitK, h0] at g2
            · cases k0 with
              | inl m => simp [fitK, h0] at g2
              | inr m => obtain ⟨t, rfl⟩ := ra; exact ⟨m, t, rfl⟩
  obtain ⟨fs, ht⟩ := tups l fun _ h => h
  refine G.sorted_tups (shape := sh) (fs := fs) hl.isList ht ?_ (rv.length ▸ hz) fun st' hp hsrt _ => ?_
  · intro v hv
    obtain ⟨z, hz, rfl⟩ := List.mem_map.mp hv
    exact ⟨_, key z hz⟩
  · have hP : (arrOf st').toList.Perm ((l.map fun z => Value.ref z.1).zip (l.map fun z => Value.ref z.1)) := by
      have := hp.toList
      rwa [pairsOf_toList] at this
    have zz : (l.map fun z => Value.ref z.1).zip (l.map fun z => Value.ref z.1) = l.map fun z => (Value.ref z.1, Value.ref z.1) := by
      rw [List.zip_map']
    rw [zz] at hP
    have mem : ∀ p ∈ (arrOf st').toList, ∃ z ∈ l, p = (Value.ref z.1, Value.ref z.1) := fun p hpm => by
      obtain ⟨z, hz, e⟩ := List.mem_map.mp (hP.mem_iff.mp hpm)
      exact ⟨z, hz, e.symm⟩
    let zs : List (Addr × List Key) := (arrOf st').toList.map fun p => (adr p.1, k p.1)
    have pz : zs.Perm l := by
      refine (hP.map fun p => (adr p.1, k p.1)).trans ?_
      rw [List.map_map]
      refine List.Perm.of_eq ((List.map_congr_left (g := id) fun z hz => ?_).trans (List.map_id _))
      show (z.1, k (Value.ref z.1)) = z
      rw [hk z hz]
    have oz : ((arrOf st').map (·.2)).toList = zs.map fun z => Value.ref z.1 := by
      rw [Array.toList_map, List.map_map]
      refine List.map_congr_left fun p hpm => ?_
      obtain ⟨z, _, rfl⟩ := mem p hpm
      rfl
    have kk : ∀ i (hi : i < (arrOf st').toList.length), KK (G.tupKindC s.heap sh) (arrOf st') i = cod (k ((arrOf st').toList[i]).1) := fun i hi => by
      obtain ⟨z, hz, e⟩ := mem _ (List.getElem_mem hi)
      unfold KK
      have e1 : (arrOf st')[i]? = some (arrOf st').toList[i] := by rw [← Array.getElem?_toList, List.getElem?_eq_getElem hi]
      rw [e1]
      show ((G.tupKeyC s.heap sh ((arrOf st').toList[i]).1).getD []) = _
      rw [e]
      show ((G.tupKeyC s.heap sh (Value.ref z.1)).getD []) = cod (k (Value.ref z.1))
      rw [key z hz, hk z hz]
      rfl
    have szl : (pairsOf (l.map fun z => Value.ref z.1)).size = (arrOf st').toList.length := by rw [pairsOf_size, hP.length_eq]; simp
    have sz : (zs.map (·.2)).Pairwise fun x y => leM x y = true := by
      rw [List.map_map]
      refine List.pairwise_map.mpr (List.pairwise_iff_getElem.mpr fun i j hi hj hij => ?_)
      have h := hsrt i j (Nat.le_of_lt hij) (by rw [szl]; exact hj)
      rw [kk i hi, kk j hj] at h
      show leM (k ((arrOf st').toList[i]).1) (k ((arrOf st').toList[j]).1) = true
      unfold leM
      rw [show itO.blt (cod (k ((arrOf st').toList[j]).1)) (cod (k ((arrOf st').toList[i]).1)) = false from h]
      rfl
    obtain ⟨n, hn⟩ := sortedAll_at s.heap (l.map fun z => Value.ref z.1) ((arrOf st').map (·.2))
    have lz : zs.length ≤ sizeLine := by rw [pz.length_eq]; simpa using hz
    have hn' : (sortedAll s.heap (l.map fun z => Value.ref z.1) ((arrOf st').map (·.2))).get? (s.heap.objs.size + 1) = some (seqObj "list" (zs.map fun z => Value.ref z.1).toArray n) := by
      rw [hn]
      congr 2
      rw [← oz]
    exact ⟨.ref (s.heap.objs.size + 1), upd H (s.heap.objs.size + 1) (.lst (zs.map fun z => V.ref z.1)), I.laid (t' := s.toks) (fun b o e => sortedAll_old e) (Nat.le_succ _) ⟨by rw [List.length_map]; exact lz, zs.map fun z => Value.ref z.1, n, vals_refs zs, hn'⟩, rfl, q zs _ pz sz (I.hok.fresh (Nat.le_succ _))⟩

def keyLs : List D → Option (List (List Key))
  | [] => some []
  | .tup es :: r => match keysOf es, keyLs r with
    | some k, some ks => some (k :: ks)
    | _, _ => none
  | _ => none
def shOf (k : List Key) (i : Nat) : Bool := match k[i]? with
  | some (.inr _) => true
  | _ => false
def cSortedM : GC := fun S ds => match ds with
  | [d] => match seqL S d with
    | some xs => match keyLs xs with
      | some ks => if (ks.all fun k => !k.isEmpty && fitK (shOf (ks.headD [])) 0 k) = true then some (.lst ((sortM ks).map keyT)) else none
      | none => none
    | none => none
  | _ => none
section
variable {K : PySem.W.Frag}
theorem mix_reps {b m : List Addr} {H : Hp} : ∀ (xs : List D) (vs : List V) (ks : List (List Key)), Reps K b m H vs xs → keyLs xs = some ks → ∃ l : List (Addr × List Key), vs = l.map (fun z => V.ref z.1) ∧ l.map (·.2) = ks ∧ ∀ z ∈ l, H z.1 = some (.tup (z.2.map kV))
  | [], vs, ks, r, e => by cases r; cases e; exact ⟨[], rfl, rfl, by simp⟩
  | d :: xs, vs, ks, r, e => by
    cases r with
    | cons rv rr =>
      unfold keyLs at e
      split at e
      · rename_i h; cases h
      · rename_i es r' h
        cases h
        split at e
        · rename_i k ks' h1 h2
          cases e
          obtain ⟨l, rfl, e2, e3⟩ := mix_reps xs _ ks' rr h2
          cases rv with
          | tup g1 g2 =>
            rw [keys_rep g2 h1] at g1
            refine ⟨(_, k) :: l, rfl, by simp [e2], fun z hz => ?_⟩
            rcases List.mem_cons.mp hz with rfl | hz
            · exact g1
            · exact e3 z hz
        · cases e
      · cases e
theorem mix_back {b m : List Addr} {H : Hp} : ∀ (l : List (Addr × List Key)), (∀ z ∈ l, H z.1 = some (.tup (z.2.map kV))) → Reps K b m H (l.map fun z => V.ref z.1) ((l.map (·.2)).map keyT)
  | [], _ => .nil
  | z :: l, h => .cons (.tup (h z List.mem_cons_self) (keysD_rep z.2)) (mix_back l fun y hy => h y (List.mem_cons_of_mem _ hy))
theorem den_sortedM : CallDen K (mixRule K) cSortedM := by
  intro b m H S xs ds d Q hs r e q
  unfold cSortedM at e
  split at e
  · rename_i d0
    obtain ⟨v, rfl, rv⟩ := r.one
    cases q1 : seqL S d0 with
    | none => simp only [q1] at e; cases e
    | some zs =>
      simp only [q1] at e
      cases q2 : keyLs zs with
      | none => simp only [q2] at e; cases e
      | some ks =>
        simp only [q2] at e
        split at e
        · rename_i hall
          cases e
          obtain ⟨a, vs, rfl, h1, h2⟩ := seqL_rep hs rv q1
          obtain ⟨l, rfl, e2, e3⟩ := mix_reps zs vs ks h2 q2
          refine ⟨a, l, shOf (ks.headD []), rfl, h1, fun z hz => ?_, fun ys p hp hq hn => q _ _ (Same.upd hn) (Rep.newLst hs hn ?_)⟩
          · have hm : z.2 ∈ ks := by rw [← e2]; exact List.mem_map.mpr ⟨z, hz, rfl⟩
            have := List.all_eq_true.mp hall z.2 hm
            simp only [Bool.and_eq_true, Bool.not_eq_true', List.isEmpty_eq_false_iff] at this
            exact ⟨.inl (.inl (e3 z hz)), this.1, this.2⟩
          · have : ys.map (·.2) = sortM ks := sortM_eq (by rw [← e2]; exact hp.map _) hq
            rw [← this]
            exact mix_back ys fun z hz => e3 z (hp.mem_iff.mp hz)
        · cases e
  · cases e
end
/-! ### a display with texts as keys, asked at once; d.get -/
def dPairs : List (Str × D) → Str → Option D := fun t k => t.lookup k
end DL
set_option Elab.async false
set_option linter.all false
set_option maxRecDepth 100000
set_option maxHeartbeats 2000000
/-! displays with constant texts and values; d.get -/
namespace DL
open PySem PySem.Spec PyProof.Rows L2
theorem valV_none {kvs : List (Key × V)} {k : Key} (h : ∀ p ∈ kvs, p.1 ≠ k) : valV kvs k = none := by
  unfold valV
  rw [List.find?_eq_none.mpr fun p hp => by simpa using h p hp]
  rfl
theorem merge_nodup : ∀ (more acc : List (Key × V)), ((acc ++ more).map (·.1)).Nodup → mergeK acc more = acc ++ more
  | [], acc, _ => by rw [List.append_nil]; rfl
  | p :: more, acc, h => by
    show mergeK (putK acc p.1 p.2) more = _
    have hn : valV acc p.1 = none := valV_none fun q hq e => by
      rw [List.map_append, List.map_cons] at h
      have := (List.nodup_append.mp h).2.2 q.1 (List.mem_map.mpr ⟨q, hq, rfl⟩) p.1 List.mem_cons_self
      exact this e
    rw [putK_new p.2 hn]
    have e : acc ++ [(p.1, p.2)] ++ more = acc ++ p :: more := by simp
    rw [← e] at h ⊢
    exact merge_nodup more (acc ++ [(p.1, p.2)]) h
section
variable {X : Cx}
/-- constant pairs -/
inductive CPs (X : Cx) : List (Option Expr) → List Expr → List (Str × V × D) → Prop
  | nil : CPs X [] [] []
  | cons {j : Nat} {p : Pos} {ks : List (Option Expr)} {v : Expr} {vs : List Expr} {s : Str} {u : V} {d : D} {t : List (Str × V × D)} (hv : PE X v (tC u)) (hr : ∀ b m H, Rep X.K b m H u d) (r : CPs X ks vs t) : CPs X (some (.Constant (.str s) j p) :: ks) (v :: vs) ((s, u, d) :: t)
theorem cps_pps (pos : Pos) : ∀ {ks : List (Option Expr)} {vs : List Expr} {t : List (Str × V × D)}, CPs X ks vs t → PPs X pos ks vs (t.map fun q => (tC (.str q.1), tC q.2.1))
  | _, _, _, .nil => pps_nil
  | _, _, _, .cons hv _ r => pps_cons pe_str hv (cps_pps pos r)
theorem cps_run : ∀ (t : List (Str × V × D)) (σ : L2.St) (H : Hp) (Q : List (V × V) → Hp → Prop), Q (t.map fun q => (.str q.1, q.2.1)) H → tPairs (t.map fun q => (tC (.str q.1), tC q.2.1)) σ H Q
  | [], σ, H, Q, h => h
  | q :: t, σ, H, Q, h => cps_run t σ H _ h
theorem cps_len : ∀ {ks : List (Option Expr)} {vs : List Expr} {t : List (Str × V × D)}, CPs X ks vs t → ks.all (·.isSome) = true ∧ ks.length = vs.length ∧ ks.length = t.length ∧ (∀ q ∈ t, ∀ b m H, Rep X.K b m H q.2.1 q.2.2)
  | _, _, _, .nil => ⟨rfl, rfl, rfl, by simp⟩
  | _, _, _, .cons hv hr r => by
    obtain ⟨h1, h2, h3, h4⟩ := cps_len r
    refine ⟨by simpa using h1, by simp [h2], by simp [h3], fun q hq => ?_⟩
    rcases List.mem_cons.mp hq with rfl | hq
    · exact hr
    · exact h4 q hq
theorem cps_reps {K : PySem.W.Frag} {b m : List Addr} {H : Hp} : ∀ t : List (Str × V × D), (∀ q ∈ t, ∀ b m H, Rep K b m H q.2.1 q.2.2) → Reps K b m H (t.map fun q => q.2.1) (t.map fun q => q.2.2)
  | [], _ => .nil
  | q :: t, h => .cons (h q List.mem_cons_self _ _ _) (cps_reps t fun x hx => h x (List.mem_cons_of_mem _ hx))
variable {W : WX} {pos : Pos} {ks : List (Option Expr)} {vs : List Expr} {t : List (Str × V × D)}
theorem pd_disp (h : CPs X ks vs t) (h0 : ks ≠ []) (h15 : ks.length ≤ 15) (nd : (t.map fun q => (Sum.inr q.1 : Key)).Nodup) : PD X W (.Dict ks vs pos) (dC (.dct (.K (t.map fun q => .inr q.1)) (t.map fun q => q.2.2))) := by
  obtain ⟨a1, a2, a3, a4⟩ := cps_len h
  refine PE.imp (pe_disp (cps_pps pos h) a1 a2 h0 h15) fun σ H Q ⟨b, m, ρ, S, hv, hs, hq⟩ p hp => ?_
  refine cps_run t σ _ _ ⟨upd_same, t.map fun q => (.inr q.1, q.2.1), by rw [List.map_map]; rfl, by rw [List.length_map]; omega, ?_⟩
  have em : mergeK [] (t.map fun q => ((.inr q.1 : Key), q.2.1)) = t.map fun q => ((.inr q.1 : Key), q.2.1) := by
    rw [merge_nodup _ [] (by rw [List.nil_append, List.map_map]; exact nd), List.nil_append]
  rw [em, upd_upd]
  have ez : HO.dK (t.map fun q => ((.inr q.1 : Key), q.2.1)) = hoD (.K (t.map fun q => .inr q.1)) (t.map fun q => q.2.1) := by
    show _ = HO.dK _
    rw [List.zip_map']
  rw [ez]
  have sm : Same H (upd H p (hoD (.K (t.map fun q => .inr q.1)) (t.map fun q => q.2.1))) := Same.upd hp (hoD_isCd _ _)
  exact hq _ _ _ (Same.tr sm) (hs.same sm) (.dct (l := false) upd_same (by show (t.map _).length = (t.map _).length; simp) (hs.nmem hp) (fun z => by obtain ⟨_, o, e⟩ := hs.ban p z; rw [hp] at e; cases e) (cps_reps t a4))
end

/-! ### a, b = x, y -/
@[simp] def sPar (i j : Nat) (fa : Env → M (List D)) : DS := fun ρ S => sbind (fa ρ S) ρ fun ds S' => match ds with
  | [d, e] => .ok (.nx ((ρ.set i (some d)).set j (some e))) S'
  | _ => .bad
section
variable {X : Cx} {W : WX} {x y : Str} {a c : Expr} {fa : Env → M (List D)} {px py pt pos : Pos} {kt k2 pt2}
theorem sd_par (i j : Nat) (hc : X.calm = true) (hN : X.N.Nodup) (ha : AD X W [a, c] fa) (hi : X.N[i]? = some x := by rfl) (hj : X.N[j]? = some y := by rfl) (hij : i ≠ j := by decide) (hx : X.env.scope.names.lookup x = some .local := by rfl) (hy : X.env.scope.names.lookup y = some .local := by rfl)
    (hw : swappedStores [.Tuple [.Name x px, .Name y py] kt pt] (.Tuple [a, c] k2 pt2) X.env = pure (some [x, y]) := by rfl) (hs : swapsWithSole [.Tuple [.Name x px, .Name y py] kt pt] (.Tuple [a, c] k2 pt2) pos.line X.env = pure false := by rfl) :
    SD X W (.Assign [.Tuple [.Name x px, .Name y py] kt pt] (.Tuple [a, c] k2 pt2) pos) (sPar i j fa) :=
  PS.imp (ps_par hc hN hi hj hij hx hy ha hw hs) fun E σ H ⟨b, m, ρ, S, hv, hs, h⟩ => ⟨b, m, ρ, S, hv, hs, PostS.bind hv h fun ds S1 m1 H1 vs _ t1 s1 r1 v1 h1 => by
    match ds, r1, h1 with
    | [d, e], .cons (v := vd) ra (.cons (v := ve) rb .nil), h1 => exact ⟨vd, ve, rfl, h1 m1 H1 _ Tr.refl ((v1.set i ra).set j rb) s1⟩
    | [], _, h1 => exact h1.elim
    | [_], _, h1 => exact h1.elim
    | _ :: _ :: _ :: _, _, h1 => exact h1.elim⟩
end
end DL
set_option Elab.async false
set_option linter.all false
set_option maxRecDepth 100000
set_option maxHeartbeats 2000000
/-! range with a step, list(range(..)) -/
namespace DL
open PySem PySem.Spec PyProof.Rows L2
section
variable {K : PySem.W.Frag} {b m : List Addr} {H : Hp}
/-- lo, lo - 1, .. -/
def downD (lo : Int) (n : Nat) : List D := (List.range n).map fun i => .int (lo + (i : Nat) * (-1))
theorem downD_get {lo : Int} {n i : Nat} {d : D} (h : (downD lo n)[i]? = some d) : i < n ∧ d = .int (lo + (i : Nat) * (-1)) := by
  unfold downD at h
  rw [List.getElem?_map] at h
  cases e : (List.range n)[i]? with
  | none => rw [e] at h; cases h
  | some j =>
    rw [e] at h
    cases h
    obtain ⟨h1, h2⟩ := List.getElem?_eq_some_iff.mp e
    rw [List.length_range] at h1
    rw [List.getElem_range] at h2
    subst h2
    exact ⟨h1, rfl⟩
theorem rit_down (lo : Int) (n : Nat) : RIt K b m H (Itc lo (-1) n) (downD lo n) := fun b' m' H' t hb => ⟨fun i d hi => by
  obtain ⟨h1, rfl⟩ := downD_get hi
  exact ⟨h1, fun x H'' ⟨eh, ex⟩ => by subst eh ex; exact ⟨Same.refl _, .int _⟩⟩, by show n ≤ _; unfold downD; simp⟩
def rng3 : List D → Option (List D)
  | [.int i, .int j, .int c] => if c = -1 ∧ -(2 ^ 62) ≤ i ∧ i < 2 ^ 62 ∧ -(2 ^ 62) ≤ j ∧ j < 2 ^ 62 then some (downD i (i - j).toNat) else none
  | _ => none
end
section
variable {X : Cx} {W : WX} {tg e e2 e3 : Expr} {p pos : Pos} {fs : Env → M (List D)} {f f2 : Env → M D}
theorem id_range3 (hg : Gl X "range") (hm : X.mg "range" = none) (ha : AD X W [e, e2, e3] fs)
    (hs : starEach [e, e2, e3] X.env = (false, eval e X.env) :: starEach [e2, e3] X.env := by rfl) (hpl : (backTo pos (starEach [e2, e3] X.env)).any (·.1) = false := by rfl) : ID X W tg (.Call (.Name "range" p) [e, e2, e3] [] pos) (iArgs rng3 fs) :=
  PI.imp (pi_range3 hg hm ha hs hpl) fun σ H Q ⟨b, m, ρ, S, hv, hs, h⟩ => ⟨b, m, ρ, S, hv, hs, Post.then h fun ds S1 m1 H1 xs e1 t1 s1 r1 h1 => by
    cases q : rng3 ds with
    | none => simp only [q] at h1; exact h1.elim
    | some ds' =>
      simp only [q] at h1
      unfold rng3 at q
      split at q
      · rename_i i j c
        split at q
        · rename_i hz
          cases q
          obtain ⟨h0, h2, h3, h4, h5⟩ := hz
          subst h0
          cases r1 with
          | cons a r =>
            obtain ⟨v, v', rfl, rv, rv'⟩ := r.two
            cases a; cases rv; cases rv'
            exact ⟨i, j, -1, _, rfl, RgC.neg h2 h3 h4 h5, h1 _ _ _ Tr.refl s1 (rit_down i _)⟩
        · cases q
      · cases q⟩
theorem rgV_reps {K : PySem.W.Frag} {b m : List Addr} {H : Hp} (lo : Int) : ∀ l : List Nat, Reps K b m H (l.map fun i => V.int (lo + (i : Nat))) (l.map fun i => D.int (lo + (i : Nat)))
  | [] => .nil
  | i :: l => .cons (.int _) (rgV_reps lo l)
def mlistR1 (P : Bool) (d : D) : M D := fun S => match d with
  | .int n => if -(2 ^ 62) ≤ n ∧ n ≤ 16777216 then (if P then mnew (rangeD 0 n.toNat) S else .ok (.lst (rangeD 0 n.toNat)) S) else .bad
  | _ => .bad
@[simp] def dListR1 (P : Bool) (f : Env → M D) : Env → M D := fun ρ => mbind (f ρ) (mlistR1 P)
theorem pd_listR1 (P : Bool) (hc : X.calm = true) (hg : Gl X "list") (hm : X.mg "list" = none) (hg' : Gl X "range") (hm' : X.mg "range" = none) (ha : PD X W e f)
    (na : starEach [e] X.env = (false, eval e X.env) :: starEach [] X.env := by rfl) (nb : starEach [.Call (.Name "range" p) [e] [] pos] X.env = (false, eval (.Call (.Name "range" p) [e] [] pos) X.env) :: starEach [] X.env := by rfl) :
    PD X W (.Call (.Name "list" p2) [.Call (.Name "range" p) [e] [] pos] [] pos2) (dListR1 P f) :=
  PE.imp (pe_listRg hc hg hm (prg_1 hg' hm' ha na) nb) fun σ H Q h => by
    obtain ⟨b, m, ρ, S, hv, hs, h⟩ := h
    refine ⟨b, m, ρ, S, hv, hs, Post.then h fun d S1 m1 H1 x e1 t1 s1 r1 h1 => ?_⟩
    unfold mlistR1 at h1
    split at h1
    · rename_i n
      split at h1
      · rename_i hz
        cases r1
        refine ⟨n, rfl, ⟨by decide, by decide, hz.1, by omega, by omega⟩, fun q hq => ?_⟩
        have r : Reps X.K b m1 H1 (rgV 0 n) (rangeD 0 n.toNat) := by
          have := rgV_reps (K := X.K) (b := b) (m := m1) (H := H1) 0 (List.range n.toNat)
          unfold rgV rangeD
          rw [Int.sub_zero]
          exact this
        split at h1
        · exact h1 _ _ _ (Tr.new hq) (s1.new hq r) (newPtr s1)
        · exact h1 _ _ _ (Same.tr (Same.upd hq)) (s1.same (Same.upd hq)) (Rep.newLst s1 hq r)
      · exact h1.elim
    · exact h1.elim
end
section
variable {X : Cx} {W : WX} {o i : Expr} {fo fi : Env → M D} {pos : Pos}
theorem din_den {K : PySem.W.Frag} {mg : Str → Option Value} {W : WX} {σ : L2.St} {H : Hp} {Q : VK} (h : tG K mg W (RV K) (dDIn fi fo) σ H Q) : tDIn (tG K mg W (RV K) fi) (tG K mg W (RV K) fo) σ H Q := by
  obtain ⟨b, m, ρ, S, hv, hs, h⟩ := h
  refine ⟨b, m, ρ, S, hv, hs, Post.then h fun dy S1 m1 H1 y e1 t1 s1 r1 h1 => ⟨b, m1, ρ, S1, hv.tr t1, s1, Post.then h1 fun dx S2 m2 H2 x e2 t2 s2 r2 h2 => ?_⟩⟩
  unfold mopt at h2
  cases q : getDD S2 dx dy with
  | none => rw [q] at h2; exact h2.elim
  | some r =>
    rw [q] at h2
    obtain ⟨a, w, rfl, g, k1, k2⟩ := get_rep s2 r2 (r1.tr t2) q
    refine ⟨a, w, rfl, g, ?_⟩
    have : w.isSome = r.isSome := by
      cases r with
      | none => rw [k2 rfl]; rfl
      | some d => obtain ⟨v, rfl, _⟩ := k1 d rfl; rfl
    rw [this]
    exact h2 _ _ _ Tr.refl s2 (.bl _)
theorem dnotin_den {K : PySem.W.Frag} {mg : Str → Option Value} {W : WX} {σ : L2.St} {H : Hp} {Q : VK} (h : tG K mg W (RV K) (dDNotIn fi fo) σ H Q) : tDNotIn (tG K mg W (RV K) fi) (tG K mg W (RV K) fo) σ H Q := by
  obtain ⟨b, m, ρ, S, hv, hs, h⟩ := h
  refine ⟨b, m, ρ, S, hv, hs, Post.then h fun dy S1 m1 H1 y e1 t1 s1 r1 h1 => ⟨b, m1, ρ, S1, hv.tr t1, s1, Post.then h1 fun dx S2 m2 H2 x e2 t2 s2 r2 h2 => ?_⟩⟩
  unfold mopt at h2
  cases q : getDD S2 dx dy with
  | none => rw [q] at h2; exact h2.elim
  | some r =>
    rw [q] at h2
    obtain ⟨a, w, rfl, g, k1, k2⟩ := get_rep s2 r2 (r1.tr t2) q
    refine ⟨a, w, rfl, g, ?_⟩
    have : w.isSome = r.isSome := by
      cases r with
      | none => rw [k2 rfl]; rfl
      | some d => obtain ⟨v, rfl, _⟩ := k1 d rfl; rfl
    rw [this]
    exact h2 _ _ _ Tr.refl s2 (.bl _)
theorem td_din (hu : X.A.units + 64 < cLine) (hi : PD X W i fi) (ho : PD X W o fo) (hm : behindInMarks .In o = false := by first | exact nobehind _ (by decide) (by decide) | rfl) : TD X W (.Compare i [.In] [o] pos) (dTest (dDIn fi fo)) :=
  PT.imp (pt_cmp (pc_din (by omega) hi ho) hm) fun σ H Q h => din_den (tTest_den h)
theorem td_dnotin (hu : X.A.units + 64 < cLine) (hi : PD X W i fi) (ho : PD X W o fo) (hm : behindInMarks .NotIn o = false := by first | exact nobehind _ (by decide) (by decide) | rfl) : TD X W (.Compare i [.NotIn] [o] pos) (dTest (dDNotIn fi fo)) :=
  PT.imp (pt_cmp (pc_dnotin (by omega) hi ho) hm) fun σ H Q h => dnotin_den (tTest_den h)
end
end DL
set_option Elab.async false
set_option linter.all false
set_option maxRecDepth 100000
set_option maxHeartbeats 4000000
/-! ### what comes out, as wishes: no environment has to be written out -/
namespace DL
open PySem PySem.Spec PyProof.Rows L2
section
variable {α β : Type}
def Out.sat (x : Out α) (Q : α → Sto → Prop) : Prop := match x with
  | .ok a S => Q a S
  | _ => False
@[simp] theorem sat_ok (a : α) (S : Sto) (Q : α → Sto → Prop) : (Out.ok a S).sat Q = Q a S := rfl
@[simp] theorem sat_bad (Q : α → Sto → Prop) : (Out.bad : Out α).sat Q = False := rfl
@[simp] theorem sat_ex (e : Exn) (S : Sto) (Q : α → Sto → Prop) : (Out.ex e S : Out α).sat Q = False := rfl
@[simp] theorem sat_then (x : Out α) (g : α → M β) (Q : β → Sto → Prop) : (x.then g).sat Q = x.sat fun a S => (g a S).sat Q := by cases x <;> rfl
@[simp] theorem sat_ite {p : Prop} [Decidable p] (x y : Out α) (Q : α → Sto → Prop) : (if p then x else y).sat Q = if p then x.sat Q else y.sat Q := by split <;> rfl
@[simp] theorem sat_nox (f : M α) (S : Sto) (Q : α → Sto → Prop) : (nox f S).sat Q = (f S).sat Q := by unfold nox; cases f S <;> rfl
theorem sat_of {x : Out α} {a : α} {S : Sto} {Q : α → Sto → Prop} (h : x = .ok a S) (q : Q a S) : x.sat Q := by rw [h]; exact q
theorem sat_ex_of {x : Out α} {Q : α → Sto → Prop} (h : x.sat Q) : ∃ a S, x = .ok a S ∧ Q a S := by
  cases x with
  | ok a S => exact ⟨a, S, rfl, h⟩
  | ex e S => exact h.elim
  | bad => exact h.elim
theorem sat_mono {x : Out α} {Q Q' : α → Sto → Prop} (h : x.sat Q) (k : ∀ a S, Q a S → Q' a S) : x.sat Q' := by
  cases x with
  | ok a S => exact k _ _ h
  | ex e S => exact h.elim
  | bad => exact h.elim
theorem sat_eq {x : Out α} {a : α} {S : Sto} (h : x.sat fun a' S' => a' = a ∧ S' = S) : x = .ok a S := by
  obtain ⟨a', S', rfl, rfl, rfl⟩ := sat_ex_of h; rfl
end
/-! ### statements -/
def Wp (x : OutS) (Q : Fl → Sto → Prop) : Prop := match x with
  | .ok f S => Q f S
  | _ => False
def seqQ (g : DS) (Q : Fl → Sto → Prop) : Fl → Sto → Prop := fun f S => match f with
  | .nx ρ => Wp (g ρ S) Q
  | f => Q f S
theorem wp_mono {x : OutS} {Q Q' : Fl → Sto → Prop} (h : Wp x Q) (k : ∀ f S, Q f S → Q' f S) : Wp x Q' := by
  cases x with
  | ok f S => exact k _ _ h
  | ex e ρ S => exact h.elim
  | bad => exact h.elim
theorem wp_ex {x : OutS} {Q : Fl → Sto → Prop} (h : Wp x Q) : ∃ f S, x = .ok f S ∧ Q f S := by
  cases x with
  | ok f S => exact ⟨f, S, rfl, h⟩
  | ex e ρ S => exact h.elim
  | bad => exact h.elim
theorem wp_of {x : OutS} {Q : Fl → Sto → Prop} {f : Fl} {S : Sto} (h : x = .ok f S) (q : Q f S) : Wp x Q := by rw [h]; exact q
section
variable {f g : DS} {ρ : Env} {S : Sto} {Q : Fl → Sto → Prop} {fe : Env → M D} {gt : DG} {t : Env → M Bool} {i : Nat}
theorem w_seq (h : Wp (f ρ S) (seqQ g Q)) : Wp (sSeq f g ρ S) Q := by
  unfold sSeq
  cases e : f ρ S with
  | ok fl S' =>
    rw [e] at h
    cases fl <;> exact h
  | ex e ρ S => rw [e] at h; exact h.elim
  | bad => rw [e] at h; exact h.elim
theorem l_asg (h : (fe ρ S).sat fun d S' => ∃ ρ', gt d ρ = some ρ' ∧ Q (.nx ρ') S') : Wp (sAsg fe gt ρ S) Q := by
  obtain ⟨d, S', e, ρ', h1, h2⟩ := sat_ex_of h
  show Wp (sbind (fe ρ S) ρ _) Q
  rw [e, sbind_ok, h1]
  exact h2
theorem l_set (h : (fe ρ S).sat fun d S' => Q (.nx (ρ.set i (some d))) S') : Wp (sAsg fe (gtName i) ρ S) Q := l_asg (sat_mono h fun d S' h => ⟨_, rfl, h⟩)
theorem l_ret (h : (fe ρ S).sat fun d S' => Q (.rt d) S') : Wp (sRet fe ρ S) Q := by
  obtain ⟨d, S', e, h1⟩ := sat_ex_of h
  show Wp (sbind (fe ρ S) ρ _) Q
  rw [e]
  exact h1
theorem l_expr (h : (fe ρ S).sat fun d S' => Q (.nx ρ) S') : Wp (sExpr fe ρ S) Q := by
  obtain ⟨d, S', e, h1⟩ := sat_ex_of h
  show Wp (sbind (fe ρ S) ρ _) Q
  rw [e]
  exact h1
theorem l_if (h : (t ρ S).sat fun c S' => (c = true → Wp (f ρ S') Q) ∧ (c = false → Wp (g ρ S') Q)) : Wp (sIf t f g ρ S) Q := by
  obtain ⟨c, S', e, h1, h2⟩ := sat_ex_of h
  show Wp (sbind (t ρ S) ρ _) Q
  rw [e, sbind_ok]
  cases c with
  | true => exact h1 rfl
  | false => exact h2 rfl
theorem l_nil (h : Q (.nx ρ) S) : Wp (sNil ρ S) Q := h
theorem w_asg (h : (fe ρ S).sat fun d S' => ∃ ρ', gt d ρ = some ρ' ∧ Wp (g ρ' S') Q) : Wp (sSeq (sAsg fe gt) g ρ S) Q := w_seq (l_asg h)
theorem w_set (h : (fe ρ S).sat fun d S' => Wp (g (ρ.set i (some d)) S') Q) : Wp (sSeq (sAsg fe (gtName i)) g ρ S) Q := w_seq (l_set h)
theorem w_expr (h : (fe ρ S).sat fun d S' => Wp (g ρ S') Q) : Wp (sSeq (sExpr fe) g ρ S) Q := w_seq (l_expr h)
/-- if with nothing else, that returns -/
theorem w_if {a b : DS} (h : (t ρ S).sat fun c S' => (c = true → Wp (a ρ S') (seqQ g Q)) ∧ (c = false → Wp (b ρ S') (seqQ g Q))) : Wp (sSeq (sIf t a b) g ρ S) Q := w_seq (l_if h)
/-! loops -/
def turnQ (Q : Fl → Sto → Prop) (I : Env → Sto → Prop) : Fl → Sto → Prop := fun fl S => match fl with
  | .nx ρ => I ρ S
  | .ct ρ => I ρ S
  | .bk ρ => Q (.nx ρ) S
  | .rt d => Q (.rt d) S
theorem wp_loop (I : List D → Env → Sto → Prop) (step : ∀ d r ρ S, I (d :: r) ρ S → ∃ ρ1, gt d ρ = some ρ1 ∧ Wp (f ρ1 S) (turnQ Q (I r))) (fin : ∀ ρ S, I [] ρ S → Q (.nx ρ) S) : ∀ ds ρ S, I ds ρ S → Wp (sLoop gt f ds ρ S) Q
  | [], ρ, S, h => fin ρ S h
  | d :: r, ρ, S, h => by
    obtain ⟨ρ1, e1, h1⟩ := step d r ρ S h
    obtain ⟨fl, S', e2, h2⟩ := wp_ex h1
    rw [sLoop_cons]
    simp only [e1, e2]
    cases fl with
    | nx ρ2 => exact wp_loop I step fin r ρ2 S' h2
    | ct ρ2 => exact wp_loop I step fin r ρ2 S' h2
    | bk ρ2 => exact h2
    | rt d => exact h2
/-- the loop over the items of a list of things, by number -/
theorem wp_loopN {α : Type} (xs : List α) (q : α → D) (I : Nat → Env → Sto → Prop) (step : ∀ k (h : k < xs.length) ρ S, I k ρ S → ∃ ρ1, gt (q xs[k]) ρ = some ρ1 ∧ Wp (f ρ1 S) (turnQ Q (I (k + 1)))) (fin : ∀ ρ S, I xs.length ρ S → Q (.nx ρ) S) (h0 : I 0 ρ S) : Wp (sLoop gt f (xs.map q) ρ S) Q := by
  refine wp_loop (fun ds ρ S => ∃ k, k ≤ xs.length ∧ ds = (xs.drop k).map q ∧ I k ρ S) ?_ ?_ _ ρ S ⟨0, Nat.zero_le _, rfl, h0⟩
  · rintro d r ρ S ⟨k, hk, e, h⟩
    by_cases hl : k < xs.length
    · rw [List.drop_eq_getElem_cons hl, List.map_cons] at e
      injection e with e1 e2
      obtain ⟨ρ1, h1, h2⟩ := step k hl ρ S h
      refine ⟨ρ1, by rw [e1]; exact h1, wp_mono h2 fun fl S' => ?_⟩
      cases fl with
      | nx ρ => exact fun h => ⟨k + 1, hl, e2, h⟩
      | ct ρ => exact fun h => ⟨k + 1, hl, e2, h⟩
      | bk ρ => exact id
      | rt d => exact id
    · rw [List.drop_of_length_le (by omega)] at e; cases e
  · rintro ρ S ⟨k, hk, e, h⟩
    have : ((xs.drop k).map q).length = 0 := by rw [← e]; rfl
    rw [List.length_map, List.length_drop] at this
    obtain rfl : k = xs.length := by omega
    exact fin ρ S h
theorem wp_loopR {n : Nat} (I : Nat → Env → Sto → Prop) (step : ∀ k, k < n → ∀ ρ S, I k ρ S → ∃ ρ1, gt (.int (k : Int)) ρ = some ρ1 ∧ Wp (f ρ1 S) (turnQ Q (I (k + 1)))) (fin : ∀ ρ S, I n ρ S → Q (.nx ρ) S) (h0 : I 0 ρ S) : Wp (sLoop gt f (rangeD 0 n) ρ S) Q := by
  rw [rangeD0]
  refine wp_loopN (List.range n) (fun i : Nat => D.int (i : Int)) I (fun k hk ρ S h => ?_) (by rw [List.length_range]; exact fin) h0
  rw [List.length_range] at hk
  rw [List.getElem_range]
  exact step k hk ρ S h
theorem l_for {fi : Env → M (List D)} (h : (fi ρ S).sat fun ds S' => Wp (sLoop gt f ds ρ S') Q) : Wp (sFor fi gt f ρ S) Q := by
  obtain ⟨ds, S', e, h1⟩ := sat_ex_of h
  rw [Pre.sFor_ok e]
  exact h1
theorem w_for {fi : Env → M (List D)} (h : (fi ρ S).sat fun ds S' => Wp (sLoop gt f ds ρ S') (seqQ g Q)) : Wp (sSeq (sFor fi gt f) g ρ S) Q := w_seq (l_for h)
end
/-! ### comprehensions -/
section
variable {g : DG} {t : Env → M Bool} {e : Env → M D} {ρ : Env}
/-- step by step, with a state -/
theorem sat_compL (I : List D → List D → Sto → Prop) {Q : List D → Sto → Prop} (step : ∀ d r out S, I (d :: r) out S → ∃ ρ1, g d ρ = some ρ1 ∧ (t ρ1 S).sat fun c S1 => (c = true → (e ρ1 S1).sat fun y S2 => I r (out ++ [y]) S2) ∧ (c = false → I r out S1)) (fin : ∀ out S, I [] out S → Q out S) : ∀ ds out S, I ds out S → (compL g t e ρ ds S).sat fun ys S' => Q (out ++ ys) S'
  | [], out, S, h => by show Q (out ++ []) S; rw [List.append_nil]; exact fin _ _ h
  | d :: r, out, S, h => by
    obtain ⟨ρ1, e1, h1⟩ := step d r out S h
    obtain ⟨c, S1, e2, h2, h3⟩ := sat_ex_of h1
    rw [compL_cons e1, nox_ok e2, then_ok]
    cases c with
    | true =>
      obtain ⟨y, S2, e3, h4⟩ := sat_ex_of (h2 rfl)
      rw [if_pos rfl]
      show ((nox (e ρ1) S1).then _).sat _
      rw [nox_ok e3, then_ok]
      have ih := sat_compL I step fin r (out ++ [y]) S2 h4
      obtain ⟨ys, S3, e4, h5⟩ := sat_ex_of ih
      show ((compL g t e ρ r S2).then _).sat _
      rw [e4]
      show Q (out ++ y :: ys) S3
      rw [List.append_assoc] at h5
      exact h5
    | false => exact sat_compL I step fin r out S1 (h3 rfl)
/-- each item gives one, with a state that keeps J -/
theorem sat_compJ (J : Sto → Prop) (P : D → Prop) {Q : List D → Sto → Prop} {ds : List D} {S : Sto} (step : ∀ d ∈ ds, ∀ S, J S → ∃ ρ1, g d ρ = some ρ1 ∧ (t ρ1 S).sat fun c S1 => c = true ∧ (e ρ1 S1).sat fun y S2 => P y ∧ J S2) (hJ : J S) (fin : ∀ ys S, J S → ys.length = ds.length → (∀ y ∈ ys, P y) → Q ys S) : (compL g t e ρ ds S).sat Q := by
  have := sat_compL (g := g) (t := t) (e := e) (ρ := ρ) (fun r out S => J S ∧ out.length + r.length = ds.length ∧ (∀ y ∈ out, P y) ∧ ∀ d ∈ r, d ∈ ds) (Q := Q) (fun d r out S ⟨h1, h2, h3, h4⟩ => by
    obtain ⟨ρ1, e1, h5⟩ := step d (h4 d List.mem_cons_self) S h1
    refine ⟨ρ1, e1, sat_mono h5 fun c S1 ⟨hc, h6⟩ => ⟨fun _ => sat_mono h6 fun y S2 ⟨h7, h8⟩ => ⟨h8, ?_, ?_, fun d h => h4 d (List.mem_cons_of_mem _ h)⟩, fun z => ?_⟩⟩
    · simp at h2 ⊢; omega
    · intro z hz
      rcases List.mem_append.mp hz with hz | hz
      · exact h3 z hz
      · rw [List.mem_singleton.mp hz]; exact h7
    · rw [hc] at z; cases z) (fun out S ⟨h1, h2, h3, _⟩ => fin out S h1 (by simpa using h2) h3) ds [] S ⟨hJ, by simp, by simp, fun d h => h⟩
  simpa using this
/-- nothing changes: filter and map, over things -/
theorem compL_of {α : Type} (q : α → D) (p : α → Bool) (fn : α → D) {S : Sto} (xs : List α) (h : ∀ x ∈ xs, ∃ ρ1, g (q x) ρ = some ρ1 ∧ t ρ1 S = .ok (p x) S ∧ (p x = true → e ρ1 S = .ok (fn x) S)) : compL g t e ρ (xs.map q) S = .ok ((xs.filter p).map fn) S := by
  induction xs with
  | nil => rfl
  | cons x r ih =>
    obtain ⟨ρ1, h1, h2, h3⟩ := h x List.mem_cons_self
    have ih := ih fun y hy => h y (List.mem_cons_of_mem _ hy)
    rw [List.map_cons, compL_cons h1, nox_ok h2]
    by_cases hp : p x = true
    · have h4 := h3 hp
      simp only [then_ok, hp, if_true, mbind, nox_ok h4, ih, mret, List.filter_cons_of_pos, List.map_cons]
    · simp only [then_ok, hp, if_false, ih, Bool.false_eq_true]
      rw [List.filter_cons_of_neg hp]
theorem compL_all {α : Type} (q : α → D) (fn : α → D) {S : Sto} (xs : List α) (h : ∀ x ∈ xs, ∃ ρ1, g (q x) ρ = some ρ1 ∧ t ρ1 S = .ok true S ∧ e ρ1 S = .ok (fn x) S) : compL g t e ρ (xs.map q) S = .ok (xs.map fn) S := by
  have := compL_of (g := g) (t := t) (e := e) (ρ := ρ) (S := S) q (fun _ => true) fn xs fun x hx => by
    obtain ⟨ρ1, h1, h2, h3⟩ := h x hx
    exact ⟨ρ1, h1, h2, fun _ => h3⟩
  rw [this, List.filter_eq_self.mpr fun _ _ => rfl]
/-- all(..) of what changes nothing -/
theorem boolL_all {α : Type} (q : α → D) (p : α → Bool) {S : Sto} : ∀ (xs : List α), (∀ x ∈ xs, ∃ ρ1, g (q x) ρ = some ρ1 ∧ t ρ1 S = .ok true S ∧ e ρ1 S = .ok (.bl (p x)) S) → boolL false g t e ρ (xs.map q) S = .ok (xs.all p) S
  | [], _ => rfl
  | x :: r, h => by
    obtain ⟨ρ1, h1, h2, h3⟩ := h x List.mem_cons_self
    have ih := boolL_all q p r fun y hy => h y (List.mem_cons_of_mem _ hy)
    show (match g (q x) ρ with
      | none => mbad
      | some ρ1 => mbind (nox (t ρ1)) fun c => if c then mbind (nox (e ρ1)) fun y => mbind (asB y) fun k => if k = false then mret false else boolL false g t e ρ (r.map q) else boolL false g t e ρ (r.map q)) S = _
    rw [h1]
    simp only [mbind, nox_ok h2, then_ok, if_true, nox_ok h3, asB_bl, mret]
    cases hp : p x with
    | true => simp [ih, hp]
    | false => simp [hp]
theorem boolL_any {α : Type} (q : α → D) (p : α → Bool) {S : Sto} : ∀ (xs : List α), (∀ x ∈ xs, ∃ ρ1, g (q x) ρ = some ρ1 ∧ t ρ1 S = .ok true S ∧ e ρ1 S = .ok (.bl (p x)) S) → boolL true g t e ρ (xs.map q) S = .ok (xs.any p) S
  | [], _ => rfl
  | x :: r, h => by
    obtain ⟨ρ1, h1, h2, h3⟩ := h x List.mem_cons_self
    have ih := boolL_any q p r fun y hy => h y (List.mem_cons_of_mem _ hy)
    show (match g (q x) ρ with
      | none => mbad
      | some ρ1 => mbind (nox (t ρ1)) fun c => if c then mbind (nox (e ρ1)) fun y => mbind (asB y) fun k => if k = true then mret true else boolL true g t e ρ (r.map q) else boolL true g t e ρ (r.map q)) S = _
    rw [h1]
    simp only [mbind, nox_ok h2, then_ok, if_true, nox_ok h3, asB_bl, mret]
    cases hp : p x with
    | true => simp [hp]
    | false => simp [ih, hp]
end
/-! ### defs, draws -/
theorem fin_wp {N : Nat} {G : DS} {ds : List D} {S : Sto} {v : D} (h : Wp (G (startE N ds) S) fun f S' => S' = S ∧ match f with
    | .rt d => d = v
    | .nx _ => v = .non
    | _ => False) : fzF (mkF N G) ds S = .ok v S := by
  obtain ⟨f, S', e, rfl, h⟩ := wp_ex h
  show finO S'.length (outS _) = _
  rw [e]
  cases f with
  | nx ρ => subst h; exact finO_ok _ _
  | rt d => subst h; exact finO_ok _ _
  | bk ρ => exact h.elim
  | ct ρ => exact h.elim
theorem sat_draw {R S : Sto} (h : Pre.St R S) (many : Int) {Q : D → Sto → Prop} (h0 : 0 < many) (h1 : many < 1073741824) (q : ∀ k S', Pre.St R S' → 0 ≤ k → k < many → Q (.int k) S') : (Pre.F__law_draw [.ptr 0, .int many] S).sat Q := by
  obtain ⟨k, S', hS, a, b, e⟩ := Pre.dS h many h0 h1
  rw [← sat_nox, e]
  exact q k S' hS a b
@[simp] theorem rangeD_length (lo : Int) (n : Nat) : (rangeD lo n).length = n := Pre.rangeD_len lo n
/-- the law's end -/
theorem law_wp {N : Nat} {G : DS} {ns : List Int} (h : ∀ ds, Pre.PoolOk ds → nox (Pre.F__law_pool [scriptD ns]) [] = .ok (.ptr 0) [.lst ds] → Wp (G (startE N [scriptD ns]) []) fun f _ => f = .rt (.bl true)) (hn : ns.length ≤ 63) : ∃ S, mkF N G [scriptD ns] [] = .ok (.bl true) S := by
  obtain ⟨ds0, p0, e0⟩ := Pre.pool_ok ns hn []
  obtain ⟨f, S, e, rfl⟩ := wp_ex (h ds0 p0 (nox_ok e0))
  exact ⟨S, by show outS (G (startE N [scriptD ns]) []) = _; rw [e]; rfl⟩
/-- the pool is made: the first statement of a law -/
theorem w_pool {ns : List Int} {ds : List D} {g : DS} {Q : Fl → Sto → Prop} {r : Env} {x1 : Option D} (hp : Pre.PoolOk ds) (e : nox (Pre.F__law_pool [scriptD ns]) [] = .ok (.ptr 0) [.lst ds]) (h : ∀ S, Pre.St [] S → Wp (g (some (scriptD ns) :: some (.ptr 0) :: r) S) Q) : Wp (sSeq (sAsg (dCall 1 Pre.F__law_pool (aCons (dVar 0) aNil)) (gtName 1)) g (some (scriptD ns) :: x1 :: r) []) Q := by
  refine w_set ?_
  have e2 : dCall 1 Pre.F__law_pool (aCons (dVar 0) aNil) (some (scriptD ns) :: x1 :: r) [] = .ok (.ptr 0) [.lst ds] := by simp [e]
  rw [e2]
  exact h _ ⟨ds, hp, rfl⟩
@[simp] theorem wp_sbind {α : Type} (x : Out α) (ρ : Env) (k : α → Sto → OutS) (Q : Fl → Sto → Prop) : Wp (sbind x ρ k) Q = x.sat fun a S => Wp (k a S) Q := by cases x <;> rfl
@[simp] theorem wp_ok (f : Fl) (S : Sto) (Q : Fl → Sto → Prop) : Wp (.ok f S) Q = Q f S := rfl
@[simp] theorem wp_ite {p : Prop} [Decidable p] (x y : OutS) (Q : Fl → Sto → Prop) : Wp (if p then x else y) Q = if p then Wp x Q else Wp y Q := by split <;> rfl
@[simp] theorem seqQ_nx (g : DS) (Q : Fl → Sto → Prop) (ρ : Env) (S : Sto) : seqQ g Q (.nx ρ) S = Wp (g ρ S) Q := rfl
@[simp] theorem seqQ_rt (g : DS) (Q : Fl → Sto → Prop) (d : D) (S : Sto) : seqQ g Q (.rt d) S = Q (.rt d) S := rfl
@[simp] theorem seqQ_bk (g : DS) (Q : Fl → Sto → Prop) (ρ : Env) (S : Sto) : seqQ g Q (.bk ρ) S = Q (.bk ρ) S := rfl
@[simp] theorem seqQ_ct (g : DS) (Q : Fl → Sto → Prop) (ρ : Env) (S : Sto) : seqQ g Q (.ct ρ) S = Q (.ct ρ) S := rfl
@[simp] theorem turnQ_nx (Q : Fl → Sto → Prop) (I : Env → Sto → Prop) (ρ : Env) (S : Sto) : turnQ Q I (.nx ρ) S = I ρ S := rfl
@[simp] theorem turnQ_ct (Q : Fl → Sto → Prop) (I : Env → Sto → Prop) (ρ : Env) (S : Sto) : turnQ Q I (.ct ρ) S = I ρ S := rfl
@[simp] theorem turnQ_bk (Q : Fl → Sto → Prop) (I : Env → Sto → Prop) (ρ : Env) (S : Sto) : turnQ Q I (.bk ρ) S = Q (.nx ρ) S := rfl
@[simp] theorem turnQ_rt (Q : Fl → Sto → Prop) (I : Env → Sto → Prop) (d : D) (S : Sto) : turnQ Q I (.rt d) S = Q (.rt d) S := rfl
@[simp] theorem cMin2_int (S : Sto) (i j : Int) : cMin2 S [.int i, .int j] = some (.int (if j < i then j else i)) := rfl
@[simp] theorem cMax2_int (S : Sto) (i j : Int) : cMax2 S [.int i, .int j] = some (.int (if j > i then j else i)) := rfl
/-- the rest is held apart -/
theorem w_cut {f g : DS} {ρ : Env} {S : Sto} {Q : Fl → Sto → Prop} (h : ∀ g', g' = g → Wp (sSeq f g' ρ S) Q) : Wp (sSeq f g ρ S) Q := h g rfl
theorem c_set {i : Nat} {fe : Env → M D} {g : DS} {ρ : Env} {S : Sto} {Q : Fl → Sto → Prop} (h : ∀ g', g' = g → (fe ρ S).sat fun d S' => Wp (g' (ρ.set i (some d)) S') Q) : Wp (sSeq (sAsg fe (gtName i)) g ρ S) Q := w_set (h g rfl)
theorem c_asg {gt : DG} {fe : Env → M D} {g : DS} {ρ : Env} {S : Sto} {Q : Fl → Sto → Prop} (h : ∀ g', g' = g → (fe ρ S).sat fun d S' => ∃ ρ', gt d ρ = some ρ' ∧ Wp (g' ρ' S') Q) : Wp (sSeq (sAsg fe gt) g ρ S) Q := w_asg (h g rfl)
theorem c_expr {fe : Env → M D} {g : DS} {ρ : Env} {S : Sto} {Q : Fl → Sto → Prop} (h : ∀ g', g' = g → (fe ρ S).sat fun d S' => Wp (g' ρ S') Q) : Wp (sSeq (sExpr fe) g ρ S) Q := w_expr (h g rfl)
/-- if, with what follows and both ways held apart -/
theorem c_if {t : Env → M Bool} {a b g : DS} {ρ : Env} {S : Sto} {Q : Fl → Sto → Prop} (h : ∀ a' b' g', a' = a → b' = b → g' = g → (t ρ S).sat fun c S' => (c = true → Wp (a' ρ S') (seqQ g' Q)) ∧ (c = false → Wp (b' ρ S') (seqQ g' Q))) : Wp (sSeq (sIf t a b) g ρ S) Q := w_if (h a b g rfl rfl rfl)
/-- an if without else that is not taken -/
theorem c_skip {t : Env → M Bool} {a g : DS} {ρ : Env} {S : Sto} {Q : Fl → Sto → Prop} (h : ∀ g', g' = g → (t ρ S).sat fun c S' => c = false ∧ Wp (g' ρ S') Q) : Wp (sSeq (sIf t a sNil) g ρ S) Q :=
  w_if (sat_mono (h g rfl) fun c S' ⟨e, h⟩ => ⟨fun z => (by rw [e] at z; cases z), fun _ => h⟩)
theorem e_skip {t : Env → M Bool} {a : DS} {ρ : Env} {S : Sto} {Q : Fl → Sto → Prop} (h : (t ρ S).sat fun c S' => c = false ∧ Q (.nx ρ) S') : Wp (sIf t a sNil ρ S) Q :=
  l_if (sat_mono h fun c S' ⟨e, h⟩ => ⟨fun z => (by rw [e] at z; cases z), fun _ => h⟩)
theorem w_forI {gt : DG} {f g : DS} {ρ : Env} {S : Sto} {Q : Fl → Sto → Prop} (j : Int) (h0 : -(2 ^ 62) ≤ j ∧ j < 2 ^ 62) (h : ∀ g', g' = g → Wp (sLoop gt f (rangeD 0 j.toNat) ρ S) (seqQ g' Q)) : Wp (sSeq (sFor (iArgs rng1 (aCons (dC (.int j)) aNil)) gt f) g ρ S) Q := by
  refine w_for ?_
  have e : iArgs rng1 (aCons (dC (.int j)) aNil) ρ S = .ok (rangeD 0 j.toNat) S := by
    have := rng1_int j h0.1 h0.2
    simp [this]
  rw [e]
  exact h g rfl
@[simp] theorem dwipe_nil (ρ : Env) : dwipe ρ [] = ρ := rfl
@[simp] theorem dwipe_cons (ρ : Env) (v : Nat) (vs : List Nat) : dwipe ρ (v :: vs) = (dwipe ρ vs).set v none := rfl
theorem sat_same {a b : D} {S : Sto} {Q : D → Sto → Prop} (e : a = b) (hp : Pre.Plain b = true) (hd : Pre.dep b < 60) (q : Q (.bl true) S) : (Pre.F__law_same 60 [a, b] S).sat Q := by subst e; exact sat_of (Pre.same_refl 60 a S hp hd) q
end DL
set_option Elab.async false
set_option linter.all false
set_option maxRecDepth 100000
set_option maxHeartbeats 4000000
namespace DL.Pre
open PySem PySem.Spec PyProof.Rows L2 DL
def G_shares : DS := (sSeq (sIf (dNot (dTrue (dVar 1))) (sRaise "NoWeights") sNil)
  (sSeq (sAsg (dCallB cSum (aCons (dVar 1) aNil)) (gtName 2))
  (sSeq (sIf (dTest (dOp2 gEq (dVar 2) (dC (.int 0)))) (sRet (dOp2 gAdd (dLst (aCons (dVar 0) aNil)) (dOp2 gRep (dLst (aCons (dC (.int 0)) aNil)) (dOp2 gSub (dCallB cLen (aCons (dVar 1) aNil)) (dC (.int 1)))))) sNil)
  (sSeq (sAsg (dCompP (iLst (dVar 1)) (gtName 8) dYes (dOp2 gDiv (dOp2 gMul (dVar 0) (dVar 8)) (dVar 2)) [8]) (gtName 3))
  (sSeq (sAsg (dOp2 gSub (dVar 0) (dCallB cSum (aCons (dVar 3) aNil))) (gtName 4))
  (sSeq (sAsg (dCallB cSortedP (aCons (dComp (iArgs kEnum (aCons (dVar 1) aNil)) (gtTup 2 (gtCons (gtName 7) (gtCons (gtName 8) gtNil))) dYes (dTup (aCons (dNeg (dOp2 gMod (dOp2 gMul (dVar 0) (dVar 8)) (dVar 2))) (aCons (dVar 7) aNil))) [7, 8]) aNil)) (gtName 5))
  (sSeq (sFor (iLst (dSlice (dVar 5) oNone (oSome (dVar 4)))) (gtTup 2 (gtCons (gtName 6) (gtCons (gtName 7) gtNil))) (sAugIx (dVar 3) (dVar 7) gIAdd (dC (.int 1))))
  (sRet (dVar 3)))))))))
def F_shares : List D → M D := fzF (mkF 9 G_shares)
def G__law_shares : DS := (sSeq (sAsg (dCallB cSum (aCons (dVar 1) aNil)) (gtName 2))
  (sSeq (sIf (dTest (dOp2 gEq (dVar 2) (dC (.int 0)))) (sRet (dOp2 gAdd (dLst (aCons (dVar 0) aNil)) (dOp2 gRep (dLst (aCons (dC (.int 0)) aNil)) (dOp2 gSub (dCallB cLen (aCons (dVar 1) aNil)) (dC (.int 1)))))) sNil)
  (sSeq (sAsg (dCompP (iLst (dVar 1)) (gtName 7) dYes (dOp2 gDiv (dOp2 gMul (dVar 0) (dVar 7)) (dVar 2)) [7]) (gtName 3))
  (sSeq (sAsg (dCallB cSortedP (aCons (dComp (iArgs rng1 (aCons (dCallB cLen (aCons (dVar 1) aNil)) aNil)) (gtName 5) dYes (dTup (aCons (dOp2 gSub (dC (.int 0)) (dOp2 gSub (dOp2 gMul (dVar 0) (dOp2 gIx (dVar 1) (dVar 5))) (dOp2 gMul (dOp2 gIx (dVar 3) (dVar 5)) (dVar 2)))) (aCons (dVar 5) aNil))) [5]) aNil)) (gtName 4))
  (sSeq (sFor (iArgs rng1 (aCons (dOp2 gSub (dVar 0) (dCallB cSum (aCons (dVar 3) aNil))) aNil)) (gtName 5) (sSeq (sAsg (dOp2 gIx (dOp2 gIx (dVar 4) (dVar 5)) (dC (.int 1))) (gtName 6))
  (sSetIx (dVar 3) (dVar 6) (dOp2 gAdd (dOp2 gIx (dVar 3) (dVar 6)) (dC (.int 1))))))
  (sRet (dVar 3)))))))
def F__law_shares : List D → M D := fzF (mkF 8 G__law_shares)
end DL.Pre
namespace DL.P7
open PySem PySem.Spec PyProof.Rows L2 DL DL.Pre
/-! ### shares and the law's (as for k55) -/
/-! ### what is counted -/
def bump (fs : List Int) (k : Nat) : List Int := fs.set k (fs.getD k 0 + 1)
def bumps (fs : List Int) (ks : List Nat) : List Int := ks.foldl bump fs
theorem bump_len (fs : List Int) (k : Nat) : (bump fs k).length = fs.length := by unfold bump; rw [List.length_set]
theorem bumps_len : ∀ (ks : List Nat) (fs : List Int), (bumps fs ks).length = fs.length
  | [], fs => rfl
  | k :: ks, fs => (bumps_len ks (bump fs k)).trans (bump_len fs k)
theorem sum_set : ∀ (fs : List Int) (k : Nat) (v : Int), k < fs.length → (fs.set k v).sum = fs.sum - fs.getD k 0 + v
  | f :: fs, 0, v, _ => by simp; omega
  | f :: fs, k + 1, v, h => by
    have := sum_set fs k v (by simpa using h)
    simp at this ⊢
    omega
theorem bump_sum (fs : List Int) (k : Nat) (h : k < fs.length) : (bump fs k).sum = fs.sum + 1 := by
  unfold bump
  rw [sum_set fs k _ h]
  omega
theorem bumps_sum : ∀ (ks : List Nat) (fs : List Int), (∀ k ∈ ks, k < fs.length) → (bumps fs ks).sum = fs.sum + ks.length
  | [], fs, _ => by simp [bumps]
  | k :: ks, fs, h => by
    have h1 := bump_sum fs k (h k List.mem_cons_self)
    have h2 := bumps_sum ks (bump fs k) fun x hx => by rw [bump_len]; exact h x (List.mem_cons_of_mem _ hx)
    show (bumps (bump fs k) ks).sum = _
    rw [h2, h1, List.length_cons]
    omega
theorem bump_map (fs : List Int) (k : Nat) (h : k < fs.length) : (fs.map D.int).set k (.int (fs[k] + 1)) = (bump fs k).map D.int := by
  unfold bump
  rw [List.map_set, List.getD_eq_getElem?_getD, List.getElem?_eq_getElem h]
  rfl
/-- the pairs of the rests -/
def rests (t W : Int) : Nat → List Int → List (Int × Int)
  | _, [] => []
  | k, w :: ws => (-(t * w % W), (k : Int)) :: rests t W (k + 1) ws
theorem rests_len (t W : Int) : ∀ (ws : List Int) (k : Nat), (rests t W k ws).length = ws.length
  | [], _ => rfl
  | _ :: ws, k => congrArg Nat.succ (rests_len t W ws (k + 1))
theorem rests_idx (t W : Int) : ∀ (ws : List Int) (k : Nat), ∀ z ∈ rests t W k ws, (k : Int) ≤ z.2 ∧ z.2 < k + ws.length
  | [], _, z, h => by cases h
  | w :: ws, k, z, h => by
    rcases List.mem_cons.mp h with rfl | h
    · simp; omega
    · have := rests_idx t W ws (k + 1) z h
      simp at this ⊢
      omega
def srt (t W : Int) (ws : List Int) : List (Int × Int) := sortP (rests t W 0 ws)
theorem srt_len (t W : Int) (ws : List Int) : (srt t W ws).length = ws.length := by
  unfold srt sortP
  rw [List.length_mergeSort, rests_len]
theorem srt_idx (t W : Int) (ws : List Int) : ∀ z ∈ srt t W ws, 0 ≤ z.2 ∧ z.2 < ws.length := fun z h => by
  have := rests_idx t W ws 0 z ((List.mergeSort_perm _ _).mem_iff.mp h)
  simpa using this
def qs (t W : Int) (ws : List Int) : List Int := ws.map fun w => t * w / W
theorem qs_sum (t W : Int) : ∀ ws : List Int, ∃ r : Int, t * ws.sum = W * (qs t W ws).sum + r ∧ (0 < W → 0 ≤ r ∧ (ws ≠ [] → r < W * ws.length) ∧ (ws = [] → r = 0))
  | [] => ⟨0, by simp [qs], fun h => ⟨by omega, by simp, by simp⟩⟩
  | w :: ws => by
    obtain ⟨r, e, h⟩ := qs_sum t W ws
    refine ⟨r + t * w % W, ?_, fun hW => ?_⟩
    · have := Int.mul_ediv_add_emod (t * w) W
      simp only [qs, List.map_cons, List.sum_cons] at e ⊢
      rw [Int.mul_add, Int.mul_add, e]
      omega
    · obtain ⟨h1, h2, h3⟩ := h hW
      have m1 := Int.emod_nonneg (t * w) (show W ≠ 0 by omega)
      have m2 := Int.emod_lt_of_pos (t * w) hW
      refine ⟨by omega, fun _ => ?_, by simp⟩
      rw [List.length_cons]
      by_cases z : ws = []
      · have := h3 z
        subst z
        simp
        omega
      · have := h2 z
        have e2 : W * ((ws.length + 1 : Nat) : Int) = W * (ws.length : Int) + W := by
          rw [Int.natCast_add, Int.mul_add]; simp
        rw [e2]
        omega
theorem left_ok {t : Int} {ws : List Int} (hW : 0 < ws.sum) : 0 ≤ t - (qs t ws.sum ws).sum ∧ t - (qs t ws.sum ws).sum < ws.length := by
  obtain ⟨r, e, h⟩ := qs_sum t ws.sum ws
  obtain ⟨h1, h2, h3⟩ := h hW
  have hne : ws ≠ [] := fun z => by subst z; simp at hW
  have h2 := h2 hne
  have e2 : ws.sum * (t - (qs t ws.sum ws).sum) = r := by rw [Int.mul_sub, Int.mul_comm ws.sum t, e]; omega
  constructor
  · by_cases z : t - (qs t ws.sum ws).sum < 0
    · have := Int.mul_neg_of_pos_of_neg hW z
      omega
    · omega
  · rw [← e2] at h2
    exact Int.lt_of_mul_lt_mul_left h2 (Int.le_of_lt hW)
def told (t : Int) (ws : List Int) : List Int :=
  if ws.sum = 0 then t :: List.replicate (ws.length - 1) 0
  else bumps (qs t ws.sum ws) (((srt t ws.sum ws).take (t - (qs t ws.sum ws).sum).toNat).map fun z => z.2.toNat)
theorem told_sum {t : Int} {ws : List Int} (h0 : 0 ≤ ws.sum) : (told t ws).sum = t := by
  unfold told
  split
  · rw [List.sum_cons]
    have : (List.replicate (ws.length - 1) (0 : Int)).sum = 0 := by
      generalize ws.length - 1 = n
      induction n with
      | zero => rfl
      | succ n ih => rw [List.replicate_succ, List.sum_cons, ih]; rfl
    omega
  · rename_i hz
    obtain ⟨h1, h2⟩ := left_ok (t := t) (ws := ws) (by omega)
    rw [bumps_sum]
    · rw [List.length_map, List.length_take, srt_len]
      omega
    · intro k hk
      obtain ⟨z, hz, rfl⟩ := List.mem_map.mp hk
      have := srt_idx _ _ _ z (List.mem_of_mem_take hz)
      unfold qs
      rw [List.length_map]
      omega
theorem told_len {t : Int} {ws : List Int} (h : ws ≠ []) : (told t ws).length = ws.length := by
  have : 0 < ws.length := List.length_pos_iff.mpr h
  unfold told
  split
  · rw [List.length_cons, List.length_replicate]; omega
  · rw [bumps_len]; unfold qs; rw [List.length_map]
/-! ### shares -/
theorem aug_ok (S : Sto) (fs : List Int) (k : Nat) (hk : k < fs.length) (x0 x1 x2 x4 x5 x6 x8 : Option D) :
    sAugIx (dVar 3) (dVar 7) gIAdd (dC (.int 1)) [x0, x1, x2, some (.ptr S.length), x4, x5, x6, some (.int k), x8] (S ++ [.lst (fs.map D.int)]) = .ok (.nx [x0, x1, x2, some (.ptr S.length), x4, x5, x6, some (.int k), x8]) (S ++ [.lst ((bump fs k).map D.int)]) := by
  have o := ofPtr_end S (fs.map D.int)
  have g : (if (0 : Int) ≤ (k : Int) then (fs.map D.int)[(k : Int).toNat]? else none) = some (.int fs[k]) := by
    rw [if_pos (by omega), Int.toNat_natCast, List.getElem?_map, List.getElem?_eq_getElem hk]
    rfl
  have st := setAt_end S (fs.map D.int) k (.int (fs[k] + 1)) (by omega) (by rw [List.length_map]; omega)
  rw [Int.toNat_natCast, bump_map fs k hk] at st
  have g' : fs[k]? = some fs[k] := List.getElem?_eq_getElem hk
  unfold sAugIx
  simp -implicitDefEqProofs [o, g', st]
theorem loop1 (S : Sto) (x0 x1 x2 x4 x5 x8 : Option D) : ∀ (zs : List (Int × Int)) (fs : List Int) (x6 x7 : Option D), (∀ z ∈ zs, 0 ≤ z.2 ∧ z.2 < fs.length) → ∃ y6 y7,
    sLoop (gtTup 2 (gtCons (gtName 6) (gtCons (gtName 7) gtNil))) (sAugIx (dVar 3) (dVar 7) gIAdd (dC (.int 1))) (zs.map prD) [x0, x1, x2, some (.ptr S.length), x4, x5, x6, x7, x8] (S ++ [.lst (fs.map D.int)])
      = .ok (.nx [x0, x1, x2, some (.ptr S.length), x4, x5, y6, y7, x8]) (S ++ [.lst ((bumps fs (zs.map fun z => z.2.toNat)).map D.int)])
  | [], fs, x6, x7, _ => ⟨x6, x7, rfl⟩
  | z :: zs, fs, x6, x7, h => by
    obtain ⟨h1, h2⟩ := h z List.mem_cons_self
    obtain ⟨k, hk⟩ : ∃ k : Nat, z.2 = k := ⟨z.2.toNat, by omega⟩
    have hk' : k < fs.length := by omega
    obtain ⟨y6, y7, e⟩ := loop1 S x0 x1 x2 x4 x5 x8 zs (bump fs k) (some (.int z.1)) (some (.int k)) fun y hy => by rw [bump_len]; exact h y (List.mem_cons_of_mem _ hy)
    refine ⟨y6, y7, ?_⟩
    rw [List.map_cons, List.map_cons]
    have hz : z.2.toNat = k := by omega
    rw [hz]
    exact (sLoop_step (by simp -implicitDefEqProofs [DL.prD, hk]) (aug_ok S fs k hk' x0 x1 x2 x4 x5 (some (.int z.1)) x8)).trans e
theorem enum_ok (t W : Int) (x0 x1 x3 x4 x5 x6 : Option D) (S : Sto) (hm : (-18446744073709551616 : Int) < t ∧ t < 18446744073709551616) (hW : 0 < W) : ∀ (ws : List Int) (k : Nat),
    compL (gtTup 2 (gtCons (gtName 7) (gtCons (gtName 8) gtNil))) dYes (dTup (aCons (dNeg (dOp2 gMod (dOp2 gMul (dVar 0) (dVar 8)) (dVar 2))) (aCons (dVar 7) aNil))) [some (.int t), x1, some (.int W), x3, x4, x5, x6, none, none] (enumD k (ws.map D.int)) S = .ok ((rests t W k ws).map prD) S
  | [], k => rfl
  | w :: ws, k => by
    show compL _ _ _ _ (.tup [.int k, .int w] :: enumD (k + 1) (ws.map D.int)) S = _
    rw [compL_cons (ρ1 := [some (.int t), x1, some (.int W), x3, x4, x5, x6, some (.int k), some (.int w)]) (by simp -implicitDefEqProofs)]
    have ih := enum_ok t W x0 x1 x3 x4 x5 x6 S hm hW ws (k + 1)
    have f : nox (dTup (aCons (dNeg (dOp2 gMod (dOp2 gMul (dVar 0) (dVar 8)) (dVar 2))) (aCons (dVar 7) aNil)) [some (.int t), x1, some (.int W), x3, x4, x5, x6, some (.int k), some (.int w)]) S = .ok (prD (-(t * w % W), (k : Int))) S := nox_ok (by simp -implicitDefEqProofs [hm, hW, DL.prD])
    simp -implicitDefEqProofs only [dYes, nox_mret, then_ok, if_true, mbind, f, ih, mret]
    rfl
theorem comp_ok (t W : Int) (S : Sto) (x1 x3 x4 x5 x6 x7 : Option D) (hm : (-18446744073709551616 : Int) < t ∧ t < 18446744073709551616) (hW : 0 < W ∧ W < 1073741824) (ws : List Int) :
    compL (gtName 8) dYes (dOp2 gDiv (dOp2 gMul (dVar 0) (dVar 8)) (dVar 2)) [some (.int t), x1, some (.int W), x3, x4, x5, x6, x7, none] (ws.map D.int) S = .ok ((qs t W ws).map D.int) S := by
  have := compL_pure (g := gtName 8) (t := dYes) (e := dOp2 gDiv (dOp2 gMul (dVar 0) (dVar 8)) (dVar 2)) (ρ := [some (.int t), x1, some (.int W), x3, x4, x5, x6, x7, none]) (S := S) (fun _ => true) (fun d => match d with | .int w => .int (t * w / W) | d => d) (ws.map D.int) fun d hd => by
    obtain ⟨w, _, rfl⟩ := List.mem_map.mp hd
    exact ⟨[some (.int t), x1, some (.int W), x3, x4, x5, x6, x7, some (.int w)], rfl, rfl, fun _ => by simp -implicitDefEqProofs [hm, hW]⟩
  rw [this, List.filter_eq_self.mpr fun _ _ => rfl, List.map_map]
  unfold qs
  rw [List.map_map]
  rfl
theorem rep_zero (n : Nat) : repD [.int 0] ((n : Int)) = (List.replicate n 0).map D.int := by
  unfold repD
  rw [Int.toNat_natCast]
  induction n with
  | zero => rfl
  | succ n ih => rw [List.replicate_succ, List.flatten_cons, ih, List.replicate_succ, List.map_cons]; rfl
theorem sl_left (S : Sto) (xs : List D) (k : Int) (h0 : 0 ≤ k) (h1 : k ≤ xs.length) : gSl S none (some k) (.lst xs) = some (.lst (xs.take k.toNat)) := by
  obtain ⟨n, rfl⟩ : ∃ n : Nat, k = n := ⟨k.toNat, by omega⟩
  show some (D.lst (DL.cutD xs none (some (n : Int)))) = _
  unfold DL.cutD
  rw [HT.sIx_none, HT.sIx_nat, List.drop_zero, Nat.min_eq_left (by omega)]
  simp
def Ws (ws : List Int) : Prop := (∀ w ∈ ws, 0 ≤ w ∧ w ≤ 1000000) ∧ ws.length ≤ 9
theorem ws_sum : ∀ (ws : List Int), (∀ w ∈ ws, 0 ≤ w ∧ w ≤ 1000000) → 0 ≤ ws.sum ∧ ws.sum ≤ 1000000 * ws.length
  | [], _ => by simp
  | w :: ws, h => by
    have h1 := h w List.mem_cons_self
    have h2 := ws_sum ws fun x hx => h x (List.mem_cons_of_mem _ hx)
    rw [List.sum_cons, List.length_cons]
    omega
theorem v_shares {R S : Sto} (hS : St R S) (hR : Cl R) (t : Int) (ws : List Int) (ht : 0 ≤ t ∧ t ≤ 1000000000) (hw : Ws ws) (hne : ws ≠ []) : F_shares [.int t, .lst (ws.map D.int)] S = .ok (.lst ((told t ws).map D.int)) S := by
  have hpos : 0 < ws.length := List.length_pos_iff.mpr hne
  obtain ⟨s0, s1⟩ := ws_sum ws hw.1
  have hl := hw.2
  have hlen := hS.len
  have hm : (-18446744073709551616 : Int) < t ∧ t < 18446744073709551616 := by omega
  have hsum := cSum_ints S ws
  have nE : (ws.map D.int).isEmpty = false := by cases ws with | nil => exact absurd rfl hne | cons _ _ => rfl
  by_cases hz : ws.sum = 0
  · have e1 : gRep S (.lst [.int 0]) (.int ((ws.length : Int) - 1)) = some (.lst ((List.replicate (ws.length - 1) 0).map D.int)) := by
      obtain ⟨n, hn⟩ : ∃ n : Nat, ws.length = n + 1 := ⟨ws.length - 1, by omega⟩
      have e : (ws.length : Int) - 1 = (n : Int) := by omega
      rw [e, show ws.length - 1 = n by omega, ← rep_zero]
      show (if _ then _ else _) = _
      rw [if_pos]
      refine ⟨by omega, by omega, ?_⟩
      rw [Int.toNat_natCast, sl_eq]
      simp
      omega
    have e2 : 1 + (ws.length - 1) ≤ 16777216 := by omega
    have e3 : told t ws = t :: List.replicate (ws.length - 1) 0 := by unfold told; rw [if_pos hz]
    rw [hz] at hsum
    rw [e3]
    simp -implicitDefEqProofs [F_shares, G_shares, hsum, nE, e1, hne, e2]
  · obtain ⟨l1, l2⟩ := left_ok (t := t) (ws := ws) (by omega)
    have hW : 0 < ws.sum ∧ ws.sum < 1073741824 := by omega
    have e3 : told t ws = bumps (qs t ws.sum ws) (((srt t ws.sum ws).take (t - (qs t ws.sum ws).sum).toNat).map fun z => z.2.toNat) := by unfold told; rw [if_neg hz]
    have ql : (qs t ws.sum ws).length = ws.length := by unfold qs; rw [List.length_map]
    obtain ⟨y6, y7, e6⟩ := loop1 S (some (.int t)) (some (.lst (ws.map D.int))) (some (.int ws.sum)) (some (.int (t - (qs t ws.sum ws).sum))) (some (.lst ((srt t ws.sum ws).map prD))) none ((srt t ws.sum ws).take (t - (qs t ws.sum ws).sum).toNat) (qs t ws.sum ws) none none fun z hz => by
      rw [ql]
      exact srt_idx _ _ _ z (List.mem_of_mem_take hz)
    have g : G_shares [some (.int t), some (.lst (ws.map D.int)), none, none, none, none, none, none, none] S = .ok (.rt (.ptr S.length)) (S ++ [.lst ((told t ws).map D.int)]) := by
      unfold G_shares
      refine (sSeq_nx (ρ' := [some (.int t), some (.lst (ws.map D.int)), none, none, none, none, none, none, none]) (S' := S) ?_).trans
        ((sSeq_nx (ρ' := [some (.int t), some (.lst (ws.map D.int)), some (.int ws.sum), none, none, none, none, none, none]) (S' := S) ?_).trans
        ((sSeq_nx (ρ' := [some (.int t), some (.lst (ws.map D.int)), some (.int ws.sum), none, none, none, none, none, none]) (S' := S) ?_).trans
        ((sSeq_nx (ρ' := [some (.int t), some (.lst (ws.map D.int)), some (.int ws.sum), some (.ptr S.length), none, none, none, none, none]) (S' := S ++ [.lst ((qs t ws.sum ws).map D.int)]) ?_).trans
        ((sSeq_nx (ρ' := [some (.int t), some (.lst (ws.map D.int)), some (.int ws.sum), some (.ptr S.length), some (.int (t - (qs t ws.sum ws).sum)), none, none, none, none]) (S' := S ++ [.lst ((qs t ws.sum ws).map D.int)]) ?_).trans
        ((sSeq_nx (ρ' := [some (.int t), some (.lst (ws.map D.int)), some (.int ws.sum), some (.ptr S.length), some (.int (t - (qs t ws.sum ws).sum)), some (.lst ((srt t ws.sum ws).map prD)), none, none, none]) (S' := S ++ [.lst ((qs t ws.sum ws).map D.int)]) ?_).trans
        ((sSeq_nx (ρ' := [some (.int t), some (.lst (ws.map D.int)), some (.int ws.sum), some (.ptr S.length), some (.int (t - (qs t ws.sum ws).sum)), some (.lst ((srt t ws.sum ws).map prD)), y6, y7, none]) (S' := S ++ [.lst ((told t ws).map D.int)]) ?_).trans ?_))))))
      · simp -implicitDefEqProofs [nE, hne]
      · simp -implicitDefEqProofs [hsum]
      · simp -implicitDefEqProofs [hz]
      · refine sAsg_ok (dCompP_ok (items := ws.map D.int) (S1 := S) (by simp -implicitDefEqProofs) (by rw [List.length_map, sl_eq]; omega) (comp_ok t ws.sum S _ _ _ _ _ _ hm hW ws)) rfl
      · have := cSum_end S (qs t ws.sum ws)
        simp -implicitDefEqProofs [this]
      · have e := enum_ok t ws.sum none (some (.lst (ws.map D.int))) (some (.ptr S.length)) (some (.int (t - (qs t ws.sum ws).sum))) none none (S ++ [.lst ((qs t ws.sum ws).map D.int)]) hm hW.1 ws 0
        have c : cSortedP (S ++ [.lst ((qs t ws.sum ws).map D.int)]) [.lst ((rests t ws.sum 0 ws).map prD)] = some (.lst ((srt t ws.sum ws).map prD)) := by
          show (prsOf _).map _ = _
          rw [prsOf_map]
          rfl
        have el : (enumD 0 (ws.map D.int)).length ≤ 16777216 := by
          have : ∀ (ds : List D) (k : Nat), (enumD k ds).length = ds.length := by
            intro ds
            induction ds with
            | nil => intro k; rfl
            | cons d ds ih => intro k; exact congrArg Nat.succ (ih (k + 1))
          rw [this, List.length_map]
          omega
        simp -implicitDefEqProofs [kEnum, dwipe, el, e, c]
      · have sl := sl_left (S ++ [.lst ((qs t ws.sum ws).map D.int)]) ((srt t ws.sum ws).map prD) (t - (qs t ws.sum ws).sum) l1 (by rw [List.length_map, srt_len]; omega)
        refine (sFor_ok (ds := ((srt t ws.sum ws).take (t - (qs t ws.sum ws).sum).toNat).map prD) (S' := S ++ [.lst ((qs t ws.sum ws).map D.int)]) ?_).trans ?_
        · rw [List.map_take]
          simp -implicitDefEqProofs [sl]
        · rw [e3]; exact e6
      · simp -implicitDefEqProofs
    show finO S.length (outS (G_shares [some (.int t), some (.lst (ws.map D.int)), none, none, none, none, none, none, none] S)) = _
    rw [g]
    show finO S.length (.ok (.ptr S.length) _) = _
    rw [hlen]
    exact finP hS hR rfl fun n => nop_ints n _
/-! ### the law's shares -/
theorem comp2_ok (t W : Int) (S : Sto) (x1 x3 x4 x5 x6 : Option D) (hm : (-18446744073709551616 : Int) < t ∧ t < 18446744073709551616) (hW : 0 < W ∧ W < 1073741824) (ws : List Int) :
    compL (gtName 7) dYes (dOp2 gDiv (dOp2 gMul (dVar 0) (dVar 7)) (dVar 2)) [some (.int t), x1, some (.int W), x3, x4, x5, x6, none] (ws.map D.int) S = .ok ((qs t W ws).map D.int) S := by
  have := compL_pure (g := gtName 7) (t := dYes) (e := dOp2 gDiv (dOp2 gMul (dVar 0) (dVar 7)) (dVar 2)) (ρ := [some (.int t), x1, some (.int W), x3, x4, x5, x6, none]) (S := S) (fun _ => true) (fun d => match d with | .int w => .int (t * w / W) | d => d) (ws.map D.int) fun d hd => by
    obtain ⟨w, _, rfl⟩ := List.mem_map.mp hd
    exact ⟨[some (.int t), x1, some (.int W), x3, x4, x5, x6, some (.int w)], rfl, rfl, fun _ => by simp -implicitDefEqProofs [hm, hW]⟩
  rw [this, List.filter_eq_self.mpr fun _ _ => rfl, List.map_map]
  unfold qs
  rw [List.map_map]
  rfl
theorem rests_app (t W : Int) : ∀ (us vs : List Int) (k : Nat), rests t W k (us ++ vs) = rests t W k us ++ rests t W (k + us.length) vs
  | [], vs, k => by simp [rests]
  | u :: us, vs, k => by
    rw [List.cons_append]
    show _ :: rests t W (k + 1) (us ++ vs) = _ :: (rests t W (k + 1) us ++ _)
    rw [rests_app t W us vs (k + 1), List.length_cons, show k + 1 + us.length = k + (us.length + 1) by omega]
theorem law_rests (t W : Int) (ws : List Int) (S : Sto) (x4 x6 x7 : Option D) (hm : (-18446744073709551616 : Int) < t ∧ t < 18446744073709551616) (hW : 0 < W ∧ W < 1073741824) : ∀ (n k : Nat), k + n = ws.length →
    compL (gtName 5) dYes (dTup (aCons (dOp2 gSub (dC (.int 0)) (dOp2 gSub (dOp2 gMul (dVar 0) (dOp2 gIx (dVar 1) (dVar 5))) (dOp2 gMul (dOp2 gIx (dVar 3) (dVar 5)) (dVar 2)))) (aCons (dVar 5) aNil))) [some (.int t), some (.lst (ws.map D.int)), some (.int W), some (.ptr S.length), x4, none, x6, x7] (rangeD k n) (S ++ [.lst ((qs t W ws).map D.int)])
      = .ok ((rests t W k (ws.drop k)).map DL.prD) (S ++ [.lst ((qs t W ws).map D.int)])
  | 0, k, h => by
    rw [List.drop_of_length_le (by omega)]
    rfl
  | n + 1, k, h => by
    rw [rangeD_cons]
    have hk : k < ws.length := by omega
    rw [compL_cons (ρ1 := [some (.int t), some (.lst (ws.map D.int)), some (.int W), some (.ptr S.length), x4, some (.int k), x6, x7]) rfl]
    have ih := law_rests t W ws S x4 x6 x7 hm hW n (k + 1) (by omega)
    rw [Int.natCast_add, Int.natCast_one] at ih
    have g1 := atI_map (ns := ws) hk
    have hq : k < (qs t W ws).length := by unfold qs; rw [List.length_map]; exact hk
    have g2 := atI_map (ns := qs t W ws) hq
    have g3 : (qs t W ws)[k] = t * ws[k] / W := by simp [qs]
    rw [g3] at g2
    have o := ofPtr_end S ((qs t W ws).map D.int)
    have m2 : (-18446744073709551616 : Int) < W ∧ W < 18446744073709551616 := by omega
    have ar : (0 : Int) - (t * ws[k] - t * ws[k] / W * W) = -(t * ws[k] % W) := by
      have := Int.mul_ediv_add_emod (t * ws[k]) W
      rw [Int.mul_comm W] at this
      omega
    have f : nox (dTup (aCons (dOp2 gSub (dC (.int 0)) (dOp2 gSub (dOp2 gMul (dVar 0) (dOp2 gIx (dVar 1) (dVar 5))) (dOp2 gMul (dOp2 gIx (dVar 3) (dVar 5)) (dVar 2)))) (aCons (dVar 5) aNil)) [some (.int t), some (.lst (ws.map D.int)), some (.int W), some (.ptr S.length), x4, some (.int k), x6, x7]) (S ++ [.lst ((qs t W ws).map D.int)])
        = .ok (DL.prD (-(t * ws[k] % W), (k : Int))) (S ++ [.lst ((qs t W ws).map D.int)]) := nox_ok (by
      rw [← ar]
      simp -implicitDefEqProofs [hm, m2, g1, g2, o, DL.prD])
    have dk : ws.drop k = ws[k] :: ws.drop (k + 1) := List.drop_eq_getElem_cons hk
    rw [dk]
    simp -implicitDefEqProofs only [dYes, nox_mret, then_ok, if_true, mbind, f, ih, mret]
    rfl
abbrev b2 : DS := (sSeq (sAsg (dOp2 gIx (dOp2 gIx (dVar 4) (dVar 5)) (dC (.int 1))) (gtName 6))
  (sSetIx (dVar 3) (dVar 6) (dOp2 gAdd (dOp2 gIx (dVar 3) (dVar 6)) (dC (.int 1)))))
theorem loop2 (S : Sto) (zs : List (Int × Int)) (x0 x1 x2 x7 : Option D) : ∀ (n k : Nat) (fs : List Int) (x5 x6 : Option D), k + n ≤ zs.length → (∀ z ∈ zs, 0 ≤ z.2 ∧ z.2 < fs.length) → ∃ y5 y6,
    sLoop (gtName 5) b2 (rangeD k n) [x0, x1, x2, some (.ptr S.length), some (.lst (zs.map DL.prD)), x5, x6, x7] (S ++ [.lst (fs.map D.int)])
      = .ok (.nx [x0, x1, x2, some (.ptr S.length), some (.lst (zs.map DL.prD)), y5, y6, x7]) (S ++ [.lst ((bumps fs (((zs.drop k).take n).map fun z => z.2.toNat)).map D.int)])
  | 0, k, fs, x5, x6, _, _ => ⟨x5, x6, rfl⟩
  | n + 1, k, fs, x5, x6, h, hz => by
    have hk : k < zs.length := by omega
    obtain ⟨h1, h2⟩ := hz zs[k] (List.getElem_mem hk)
    obtain ⟨j, hj⟩ : ∃ j : Nat, zs[k].2 = j := ⟨zs[k].2.toNat, by omega⟩
    have hj' : j < fs.length := by omega
    obtain ⟨y5, y6, e⟩ := loop2 S zs x0 x1 x2 x7 n (k + 1) (bump fs j) (some (.int k)) (some (.int j)) (by omega) fun z hz' => by rw [bump_len]; exact hz z hz'
    rw [Int.natCast_add, Int.natCast_one] at e
    refine ⟨y5, y6, ?_⟩
    rw [rangeD_cons, List.drop_eq_getElem_cons hk, List.take_succ_cons, List.map_cons]
    have hj2 : zs[k].2.toNat = j := by omega
    rw [hj2]
    refine (sLoop_step (ρ1 := [x0, x1, x2, some (.ptr S.length), some (.lst (zs.map DL.prD)), some (.int k), x6, x7]) (ρ2 := [x0, x1, x2, some (.ptr S.length), some (.lst (zs.map DL.prD)), some (.int k), some (.int j), x7]) (S2 := S ++ [.lst ((bump fs j).map D.int)]) rfl ?_).trans e
    have o := ofPtr_end S (fs.map D.int)
    have g1 : atI (zs.map DL.prD) (k : Int) = some (.tup [.int zs[k].1, .int j]) := by
      rw [atI_n, List.getElem?_map, List.getElem?_eq_getElem hk, ← hj]
      rfl
    have g2 := atI_map (ns := fs) hj'
    have st := setAt_end S (fs.map D.int) j (.int (fs[j] + 1)) (by omega) (by rw [List.length_map]; omega)
    rw [Int.toNat_natCast, bump_map fs j hj'] at st
    simp -implicitDefEqProofs [o, g1, g2, st]
theorem v_law_shares {R S : Sto} (hS : St R S) (hR : Cl R) (t : Int) (ws : List Int) (ht : 0 ≤ t ∧ t ≤ 1000000000) (hw : Ws ws) (hne : ws ≠ []) : F__law_shares [.int t, .lst (ws.map D.int)] S = .ok (.lst ((told t ws).map D.int)) S := by
  have hpos : 0 < ws.length := List.length_pos_iff.mpr hne
  obtain ⟨s0, s1⟩ := ws_sum ws hw.1
  have hl := hw.2
  have hlen := hS.len
  have hm : (-18446744073709551616 : Int) < t ∧ t < 18446744073709551616 := by omega
  have hsum := cSum_ints S ws
  by_cases hz : ws.sum = 0
  · have e1 : gRep S (.lst [.int 0]) (.int ((ws.length : Int) - 1)) = some (.lst ((List.replicate (ws.length - 1) 0).map D.int)) := by
      obtain ⟨n, hn⟩ : ∃ n : Nat, ws.length = n + 1 := ⟨ws.length - 1, by omega⟩
      have e : (ws.length : Int) - 1 = (n : Int) := by omega
      rw [e, show ws.length - 1 = n by omega, ← rep_zero]
      show (if _ then _ else _) = _
      rw [if_pos]
      refine ⟨by omega, by omega, ?_⟩
      rw [Int.toNat_natCast, sl_eq]
      simp
      omega
    have e2 : 1 + (ws.length - 1) ≤ 16777216 := by omega
    have e3 : told t ws = t :: List.replicate (ws.length - 1) 0 := by unfold told; rw [if_pos hz]
    rw [hz] at hsum
    rw [e3]
    simp -implicitDefEqProofs [F__law_shares, G__law_shares, hsum, e1, hne, e2]
  · obtain ⟨l1, l2⟩ := left_ok (t := t) (ws := ws) (by omega)
    have hW : 0 < ws.sum ∧ ws.sum < 1073741824 := by omega
    have e3 : told t ws = bumps (qs t ws.sum ws) (((srt t ws.sum ws).take (t - (qs t ws.sum ws).sum).toNat).map fun z => z.2.toNat) := by unfold told; rw [if_neg hz]
    have ql : (qs t ws.sum ws).length = ws.length := by unfold qs; rw [List.length_map]
    obtain ⟨y5, y6, e6⟩ := loop2 S (srt t ws.sum ws) (some (.int t)) (some (.lst (ws.map D.int))) (some (.int ws.sum)) none (t - (qs t ws.sum ws).sum).toNat 0 (qs t ws.sum ws) none none (by rw [srt_len]; omega) fun z hz => by
      rw [ql]
      exact srt_idx _ _ _ z hz
    rw [List.drop_zero] at e6
    have g : G__law_shares [some (.int t), some (.lst (ws.map D.int)), none, none, none, none, none, none] S = .ok (.rt (.ptr S.length)) (S ++ [.lst ((told t ws).map D.int)]) := by
      unfold G__law_shares
      refine (sSeq_nx (ρ' := [some (.int t), some (.lst (ws.map D.int)), some (.int ws.sum), none, none, none, none, none]) (S' := S) ?_).trans
        ((sSeq_nx (ρ' := [some (.int t), some (.lst (ws.map D.int)), some (.int ws.sum), none, none, none, none, none]) (S' := S) ?_).trans
        ((sSeq_nx (ρ' := [some (.int t), some (.lst (ws.map D.int)), some (.int ws.sum), some (.ptr S.length), none, none, none, none]) (S' := S ++ [.lst ((qs t ws.sum ws).map D.int)]) ?_).trans
        ((sSeq_nx (ρ' := [some (.int t), some (.lst (ws.map D.int)), some (.int ws.sum), some (.ptr S.length), some (.lst ((srt t ws.sum ws).map DL.prD)), none, none, none]) (S' := S ++ [.lst ((qs t ws.sum ws).map D.int)]) ?_).trans
        ((sSeq_nx (ρ' := [some (.int t), some (.lst (ws.map D.int)), some (.int ws.sum), some (.ptr S.length), some (.lst ((srt t ws.sum ws).map DL.prD)), y5, y6, none]) (S' := S ++ [.lst ((told t ws).map D.int)]) ?_).trans ?_))))
      · simp -implicitDefEqProofs [hsum]
      · simp -implicitDefEqProofs [hz]
      · refine sAsg_ok (dCompP_ok (items := ws.map D.int) (S1 := S) (by simp -implicitDefEqProofs) (by rw [List.length_map, sl_eq]; omega) (comp2_ok t ws.sum S _ _ _ _ _ hm hW ws)) rfl
      · have e := law_rests t ws.sum ws S none none none hm hW ws.length 0 (by omega)
        rw [List.drop_zero] at e
        have c : cSortedP (S ++ [.lst ((qs t ws.sum ws).map D.int)]) [.lst ((rests t ws.sum 0 ws).map DL.prD)] = some (.lst ((srt t ws.sum ws).map DL.prD)) := by
          show (prsOf _).map _ = _
          rw [prsOf_map]
          rfl
        have hr := rng_len (n := ws.length) (by omega)
        have el : (rangeD 0 ws.length).length ≤ 16777216 := by rw [rangeD_len]; omega
        have e' : compL (gtName 5) dYes _ _ (rangeD 0 ws.length) _ = _ := e
        simp -implicitDefEqProofs [hr, dwipe, (show ws.length ≤ 16777216 by omega), e', c]
      · have hs := cSum_end S (qs t ws.sum ws)
        have hr := rng1_int (t - (qs t ws.sum ws).sum) (by omega) (by omega)
        refine (sFor_ok (ds := rangeD 0 (t - (qs t ws.sum ws).sum).toNat) (S' := S ++ [.lst ((qs t ws.sum ws).map D.int)]) ?_).trans ?_
        · simp -implicitDefEqProofs [hs, hr]
        · rw [e3]; exact e6
      · simp -implicitDefEqProofs
    show finO S.length (outS (G__law_shares [some (.int t), some (.lst (ws.map D.int)), none, none, none, none, none, none] S)) = _
    rw [g]
    show finO S.length (.ok (.ptr S.length) _) = _
    rw [hlen]
    exact finP hS hR rfl fun n => nop_ints n _

end DL.P7
set_option Elab.async false
set_option linter.all false
set_option maxRecDepth 100000
namespace DL
open PySem PySem.Spec PyProof.Rows L2
/-! ### a, b = a list -/
def gtUnl (n : Nat) (h : DGs) : DG := fun d ρ => match d with
  | .lst ds => if ds.length = n then h ds ρ else none
  | .flst ds => if ds.length = n then h ds ρ else none
  | _ => none
section
variable {X : Cx} {pos : Pos}
theorem gd_unl {es : List Expr} {k : Nat} {h : DGs} {n : Nat} {ws : List Nat} (hc : X.calm = true) (h1 : GDs X es ws h) (hn : (assignEach es X.env).length = n := by rfl) (hst : (assignEach es X.env).findIdx? (·.1) = none := by rfl) : GD X (.Tuple es k pos) ws (gtUnl n h) :=
  PG.imp (pg_unl hc h1 hn hst) fun v σ H Q ⟨b, m, ρ, d, ρ', hv, r, e, hq⟩ => by
    cases r with
    | @lst a xs ds hs n1 n2 rs =>
      have e' : (if ds.length = n then h ds ρ else none) = some ρ' := e
      by_cases hl : ds.length = n
      · rw [if_pos hl] at e'
        exact ⟨a, xs, rfl, SqL.of hs, by rw [rs.length]; exact hl, b, m, ρ, ds, ρ', hv, rs, e', hq⟩
      · rw [if_neg hl] at e'; cases e'
    | @flst a xs ds hs rs =>
      have e' : (if ds.length = n then h ds ρ else none) = some ρ' := e
      by_cases hl : ds.length = n
      · rw [if_pos hl] at e'
        exact ⟨a, xs, rfl, hs.l, by rw [rs.length]; exact hl, b, m, ρ, ds, ρ', hv, rs, e', hq⟩
      · rw [if_neg hl] at e'; cases e'
    | _ => cases e
@[simp] theorem gtUnl_lst (n : Nat) (h : DGs) (ds : List D) (ρ : Env) : gtUnl n h (.lst ds) ρ = if ds.length = n then h ds ρ else none := rfl
/-! ### sum of a tuple of ints -/
def rSumT (K : PySem.W.Frag) : List V → Hp → VK → Prop := fun vs H Q => ∃ (a : Addr) (ns : List Int), vs = [V.ref a] ∧ SqT K H a (ns.map V.int) ∧ Q (.int ns.sum) H
theorem cr_sumT (hc : X.calm = true) : CallR X (.builtin "sum") (rSumT X.K) := by
  intro pins s σ H vs us Q I r h
  obtain ⟨a, ns, rfl, hs, q⟩ := h
  obtain ⟨its, rv, ht, _⟩ := I.tuple hs
  rw [Vals.ref1 r]
  obtain ⟨xs, e⟩ := rv.ints.allInts.items
  have hn : numsOf (intItems xs).toList = ns := by rw [← e]; exact rv.ints.numsOf
  rw [nums_intItems] at hn
  have ht' : s.heap.IsTuple a (intItems xs) := by
    rw [← e]
    exact ht
  refine PySem.W.ktm_sumG (I.ok.hd hc) ht' fun h' tk t' hk => ?_
  rw [preSum_eq, List.take_of_length_le (by simp), hn]
  exact ⟨.int _, H, I.kept hk, ⟨_, rfl⟩, q⟩
end
def intsT (S : Sto) : List D → Option (List Int)
  | [d] => match seqT d with
    | some ds => intsD ds
    | none => none
  | _ => none
def cSumT : GC := fun S ds => (intsT S ds).map fun ns => .int ns.sum
theorem intsT_rep {K : PySem.W.Frag} {b m : List Addr} {H : Hp} {S : Sto} {ds : List D} {xs : List V} {ns : List Int} (r : Reps K b m H xs ds) (e : intsT S ds = some ns) : ∃ a, xs = [.ref a] ∧ SqT K H a (ns.map V.int) := by
  unfold intsT at e
  split at e
  · rename_i d
    cases q : seqT d with
    | none => simp only [q] at e; cases e
    | some es =>
      simp only [q] at e
      obtain ⟨v, rfl, rv⟩ := r.one
      obtain ⟨a, ys, rfl, h1, h2⟩ := seqT_rep rv q
      obtain ⟨h3, h4⟩ := intsD_rep h2 e
      rw [h3] at h1
      exact ⟨a, rfl, h1⟩
  · cases e
theorem den_sumT {K : PySem.W.Frag} : CallDen K (rSumT K) cSumT := by
  intro b m H S xs ds d Q hs r e q
  unfold cSumT at e
  cases q1 : intsT S ds with
  | none => rw [q1] at e; cases e
  | some ns =>
    rw [q1] at e
    cases e
    obtain ⟨a, h1, h2⟩ := intsT_rep r q1
    exact ⟨a, ns, h1, h2, q _ _ (Same.refl _) (.int _)⟩
/-! ### min and max of data that can be compared -/
mutual
/-- nothing but ints, texts, booleans and new tuples of them: its data tell it -/
def D.can : D → Bool
  | .int _ => true
  | .str _ => true
  | .bl _ => true
  | .tup ds => D.cans ds
  | _ => false
def D.cans : List D → Bool
  | [] => true
  | d :: ds => D.can d && D.cans ds
end
mutual
def ofPy : PyData → D
  | .int i => .int i
  | .str x => .str x
  | .bool b => .bl b
  | .tuple ps => .tup (ofPys ps)
  | _ => .non
def ofPys : List PyData → List D
  | [] => []
  | p :: ps => ofPy p :: ofPys ps
end
mutual
theorem can_of : ∀ {d : D} {p : PyData}, d.can = true → d.py = some p → ofPy p = d
  | .int i, p, _, e => by cases e; rfl
  | .str x, p, _, e => by cases e; rfl
  | .bl b, p, _, e => by cases e; rfl
  | .tup ds, p, h, e => by
    unfold D.py at e
    cases q : D.pys ds with
    | none => rw [q] at e; cases e
    | some ps =>
      rw [q] at e
      cases e
      have := cans_of (ds := ds) (ps := ps) (by unfold D.can at h; exact h) q
      show D.tup (ofPys ps) = _
      rw [this]
theorem cans_of : ∀ {ds : List D} {ps : List PyData}, D.cans ds = true → D.pys ds = some ps → ofPys ps = ds
  | [], ps, _, e => by cases e; rfl
  | d :: ds, ps, h, e => by
    unfold D.cans at h
    rw [Bool.and_eq_true] at h
    unfold D.pys at e
    cases q : D.py d with
    | none => rw [q] at e; cases e
    | some p =>
      rw [q] at e
      cases q2 : D.pys ds with
      | none => rw [q2] at e; cases e
      | some rs =>
        rw [q2] at e
        cases e
        show ofPy p :: ofPys rs = _
        rw [can_of h.1 q, cans_of h.2 q2]
end
def alikeB (ps : List PyData) : Bool := (ps.all fun x => ps.all fun y => PySem.W.alike x y) && ps.all fun x => match x with | .none => false | _ => true
theorem alikeB_ok {ps : List PyData} (h : alikeB ps = true) : PySem.W.AlikeAll ps := by
  unfold alikeB at h
  rw [Bool.and_eq_true, List.all_eq_true, List.all_eq_true] at h
  refine ⟨fun x hx y hy => ?_, fun x hx e => ?_⟩
  · have := h.1 x hx
    rw [List.all_eq_true] at this
    exact this y hy
  · have := h.2 x hx
    rw [e] at this
    cases this
/-- a list or a tuple of such data, not too deep -/
def dataL (S : Sto) (d : D) : Option (List PyData) := match seqA S d with
  | some ds => match D.pys ds with
    | some ps => if D.cans ds = true ∧ alikeB ps = true ∧ PyData.canLayAll0 ps = true ∧ PyData.depthAll ps ≤ 62 then some ps else none
    | none => none
  | none => none
/-- min, max of such -/
def rBest (K : PySem.W.Frag) (best : PyData → List PyData → PyData) : List V → Hp → VK → Prop := fun vs H Q => ∃ (a : Addr) (xs : List V) (p : PyData) (ps : List PyData), vs = [V.ref a] ∧ (SqL K H a xs ∨ SqT K H a xs) ∧ DpAll K H xs (p :: ps) ∧ PySem.W.AlikeAll (p :: ps) ∧ PyData.canLayAll0 (p :: ps) = true ∧ PyData.depthAll (p :: ps) ≤ 62 ∧
  ∀ (i : Nat) (x : V), xs[i]? = some x → (p :: ps)[i]? = some (best p ps) → Q x H
section
variable {X : Cx}
theorem vals_back {xs : List V} {us : List Value} {i : Nat} {u : Value} (r : Vals xs us) (e : us[i]? = some u) : ∃ x, xs[i]? = some x ∧ RelV x u := by
  cases q : xs[i]? with
  | none => rw [r.none_of q] at e; cases e
  | some x =>
    obtain ⟨u', e', hr⟩ := r.get q
    rw [e] at e'
    cases e'
    exact ⟨x, rfl, hr⟩
theorem reads_at {h h' : Heap} {its : List Value} {ps : List PyData} {as : List Addr} {i : Nat} {v : Value} {p : PyData} {bs : List Addr} (k : ∀ b o, h.get? b = some o → h'.get? b = some o) (hc : PyData.canLayAll0 ps = true) (ra : ReadsAll h its ps as) (e : its[i]? = some v) (hp : p ∈ ps) (r : Reads h' v p bs) : ps[i]? = some p := by
  obtain ⟨cs, r1, hl, hm, hdp⟩ := PySem.W.readsAll_at ra i v e
  have r2 := PySem.W.reads_keeps k r1
  have c1 : ∀ q ∈ ps, q.canLay0 = true := fun q hq => by
    clear ra e r r1 r2 hl hm hp hdp
    induction ps with
    | nil => cases hq
    | cons z zs ih =>
      simp only [PyData.canLayAll0, Bool.and_eq_true] at hc
      rcases List.mem_cons.mp hq with rfl | hq
      · exact hc.1
      · exact ih hc.2 hq
  have e1 := SeqAt.readOf_eq (c1 _ hp) r
  have e2 := SeqAt.readOf_eq (c1 _ hm) r2
  rw [← e1, e2, List.getD_eq_getElem?_getD, List.getElem?_eq_getElem hl]
  rfl
theorem best_mem (f : PyData → PyData → Bool) : ∀ (ps : List PyData) (p : PyData), ps.foldl (fun a y => if f y a then y else a) p ∈ p :: ps
  | [], p => List.mem_cons_self
  | q :: ps, p => by
    show ps.foldl _ (if f q p then q else p) ∈ _
    have := best_mem f ps (if f q p then q else p)
    rcases List.mem_cons.mp this with e | e
    · rw [e]; split <;> simp
    · exact List.mem_cons_of_mem _ (List.mem_cons_of_mem _ e)
theorem minD_mem (p : PyData) (ps : List PyData) : PySem.W.minD p ps ∈ p :: ps := best_mem (fun y a => PySem.W.dataLt y a) ps p
theorem maxD_mem (p : PyData) (ps : List PyData) : PySem.W.maxD p ps ∈ p :: ps := best_mem (fun y a => PySem.W.dataLt a y) ps p
theorem cr_minU (hc : X.calm = true) (hu : X.A.units + 64 < cLine) : CallR X (.builtin "min") (rBest X.K PySem.W.minD) := by
  intro pins s σ H vs us Q I r h
  obtain ⟨a, xs, p, ps, rfl, hs, ha, al, cl, dp, q⟩ := h
  rw [Vals.ref1 r]
  rcases hs with hs | hs
  · obtain ⟨its, rv, hl, _⟩ := I.list hs
    obtain ⟨as, ra⟩ := Dp.readsAll I _ _ its ha rv
    refine PySem.W.min_list_data (I.ok.hd hc) hl.isList ra al (by omega) fun i v h' tk bs hi rd hk => ?_
    obtain ⟨x, e1, e2⟩ := vals_back (i := i) (u := v) rv (by simpa using hi)
    exact ⟨x, H, I.kept hk, e2, q i x e1 (reads_at hk cl ra (by simpa using hi) (minD_mem p ps) rd)⟩
  · obtain ⟨its, rv, hl, _⟩ := I.tuple hs
    obtain ⟨as, ra⟩ := Dp.readsAll I _ _ its ha rv
    refine PySem.W.min_tuple_data (I.ok.hd hc) hl ra al (by omega) fun i v h' tk bs hi rd hk => ?_
    obtain ⟨x, e1, e2⟩ := vals_back (i := i) (u := v) rv (by simpa using hi)
    exact ⟨x, H, I.kept hk, e2, q i x e1 (reads_at hk cl ra (by simpa using hi) (minD_mem p ps) rd)⟩
theorem cr_maxU (hc : X.calm = true) (hu : X.A.units + 64 < cLine) : CallR X (.builtin "max") (rBest X.K PySem.W.maxD) := by
  intro pins s σ H vs us Q I r h
  obtain ⟨a, xs, p, ps, rfl, hs, ha, al, cl, dp, q⟩ := h
  rw [Vals.ref1 r]
  rcases hs with hs | hs
  · obtain ⟨its, rv, hl, _⟩ := I.list hs
    obtain ⟨as, ra⟩ := Dp.readsAll I _ _ its ha rv
    refine PySem.W.max_list_data (I.ok.hd hc) hl.isList ra al (by omega) fun i v h' tk bs hi rd hk => ?_
    obtain ⟨x, e1, e2⟩ := vals_back (i := i) (u := v) rv (by simpa using hi)
    exact ⟨x, H, I.kept hk, e2, q i x e1 (reads_at hk cl ra (by simpa using hi) (maxD_mem p ps) rd)⟩
  · obtain ⟨its, rv, hl, _⟩ := I.tuple hs
    obtain ⟨as, ra⟩ := Dp.readsAll I _ _ its ha rv
    refine PySem.W.max_tuple_data (I.ok.hd hc) hl ra al (by omega) fun i v h' tk bs hi rd hk => ?_
    obtain ⟨x, e1, e2⟩ := vals_back (i := i) (u := v) rv (by simpa using hi)
    exact ⟨x, H, I.kept hk, e2, q i x e1 (reads_at hk cl ra (by simpa using hi) (maxD_mem p ps) rd)⟩
end
section
variable {K : PySem.W.Frag}
theorem dataL_rep {b m : List Addr} {H : Hp} {S : Sto} {d : D} {v : V} {ps : List PyData} (hs : StoR K b m H S) (r : Rep K b m H v d) (e : dataL S d = some ps) : ∃ a xs ds, v = .ref a ∧ (SqL K H a xs ∨ SqT K H a xs) ∧ Reps K b m H xs ds ∧ D.pys ds = some ps ∧ D.cans ds = true ∧ alikeB ps = true ∧ PyData.canLayAll0 ps = true ∧ PyData.depthAll ps ≤ 62 := by
  unfold dataL at e
  cases q : seqA S d with
  | none => simp only [q] at e; cases e
  | some ds =>
    simp only [q] at e
    cases q2 : D.pys ds with
    | none => simp only [q2] at e; cases e
    | some qs =>
      simp only [q2] at e
      split at e
      · rename_i hh
        cases e
        obtain ⟨a, xs, rfl, h1, h2⟩ := seqA_rep hs r q
        exact ⟨a, xs, ds, rfl, h1, h2, q2, hh⟩
      · cases e
def cBest (best : PyData → List PyData → PyData) : GC := fun S ds => match ds with
  | [d] => match dataL S d with
    | some (p :: ps) => some (ofPy (best p ps))
    | _ => none
  | _ => none
def cMinU : GC := cBest PySem.W.minD
def cMaxU : GC := cBest PySem.W.maxD
theorem pys_at : ∀ {ds : List D} {ps : List PyData} {i : Nat} {p : PyData}, D.pys ds = some ps → ps[i]? = some p → ∃ d, ds[i]? = some d ∧ d.py = some p
  | [], ps, i, p, e, h => by cases e; cases h
  | d :: ds, ps, i, p, e, h => by
    unfold D.pys at e
    cases q : D.py d with
    | none => rw [q] at e; cases e
    | some p0 =>
      rw [q] at e
      cases q2 : D.pys ds with
      | none => rw [q2] at e; cases e
      | some rs =>
        rw [q2] at e
        cases e
        cases i with
        | zero => cases h; exact ⟨d, rfl, q⟩
        | succ i => exact pys_at (i := i) q2 h
theorem cans_at : ∀ {ds : List D} {i : Nat} {d : D}, D.cans ds = true → ds[i]? = some d → d.can = true
  | e :: ds, 0, d, h, hi => by cases hi; unfold D.cans at h; rw [Bool.and_eq_true] at h; exact h.1
  | e :: ds, i + 1, d, h, hi => by unfold D.cans at h; rw [Bool.and_eq_true] at h; exact cans_at h.2 hi
theorem den_best (best : PyData → List PyData → PyData) : CallDen K (rBest K best) (cBest best) := by
  intro b m H S xs ds d Q hs r e q
  unfold cBest at e
  split at e
  · rename_i x
    split at e
    · rename_i p ps q1
      cases e
      obtain ⟨v, rfl, rv⟩ := r.one
      obtain ⟨a, ys, es, rfl, h1, h2, h3, h4, h5, h6, h7⟩ := dataL_rep hs rv q1
      refine ⟨a, ys, p, ps, rfl, h1, h2.dp h3, alikeB_ok h5, h6, h7, fun i x hx hp => ?_⟩
      obtain ⟨y, e1, e2⟩ := pys_at h3 hp
      obtain ⟨z, e3, e4⟩ := h2.get e1
      rw [hx] at e3
      cases e3
      exact q _ _ (Same.refl _) (by rw [can_of (cans_at h4 e1) e2]; exact e4)
    · cases e
  · cases e
theorem den_minU : CallDen K (rBest K PySem.W.minD) cMinU := den_best _
theorem den_maxU : CallDen K (rBest K PySem.W.maxD) cMaxU := den_best _
/-! with default= -/
def rBestD (K : PySem.W.Frag) (best : PyData → List PyData → PyData) : List V → List V → Hp → VK → Prop := fun vs zs H Q => ∃ (a : Addr) (z : V) (xs : List V) (ps : List PyData), vs = [V.ref a] ∧ zs = [z] ∧ (SqL K H a xs ∨ SqT K H a xs) ∧ DpAll K H xs ps ∧ PySem.W.AlikeAll ps ∧ PyData.canLayAll0 ps = true ∧ PyData.depthAll ps ≤ 62 ∧
  (ps = [] → Q z H) ∧ ∀ (p : PyData) (r : List PyData) (i : Nat) (x : V), ps = p :: r → xs[i]? = some x → ps[i]? = some (best p r) → Q x H
end
section
variable {X : Cx}
theorem cr_maxUd (hc : X.calm = true) (hu : X.A.units + 64 < cLine) : CallRK X (.builtin "max") ["default"] (rBestD X.K PySem.W.maxD) := by
  intro pins s σ H vs zs us ws Q I r rz h
  obtain ⟨a, z, xs, ps, rfl, rfl, hs, ha, al, cl, dp, q0, q⟩ := h
  rw [Vals.ref1 r]
  obtain ⟨w, rfl, rw'⟩ : ∃ w, ws = [w] ∧ RelV z w := by
    cases rz with
    | cons r1 r2 => cases r2; exact ⟨_, rfl, r1⟩
  rcases hs with hs | hs
  · obtain ⟨its, rv, hl, _⟩ := I.list hs
    obtain ⟨as, ra⟩ := Dp.readsAll I _ _ its ha rv
    refine PySem.W.max_list_default (I.ok.hd hc) hl.isList ra al (by omega) (fun e h' tk hk => ⟨z, H, I.kept hk, rw', q0 e⟩) fun p r i v h' tk bs e hi rd hk => ?_
    obtain ⟨x, e1, e2⟩ := vals_back (i := i) (u := v) rv (by simpa using hi)
    exact ⟨x, H, I.kept hk, e2, q p r i x e e1 (reads_at hk cl ra (by simpa using hi) (by rw [e]; exact maxD_mem p r) rd)⟩
  · obtain ⟨its, rv, hl, _⟩ := I.tuple hs
    obtain ⟨as, ra⟩ := Dp.readsAll I _ _ its ha rv
    refine PySem.W.max_tuple_default (I.ok.hd hc) hl ra al (by omega) (fun e h' tk hk => ⟨z, H, I.kept hk, rw', q0 e⟩) fun p r i v h' tk bs e hi rd hk => ?_
    obtain ⟨x, e1, e2⟩ := vals_back (i := i) (u := v) rv (by simpa using hi)
    exact ⟨x, H, I.kept hk, e2, q p r i x e e1 (reads_at hk cl ra (by simpa using hi) (by rw [e]; exact maxD_mem p r) rd)⟩
theorem cr_minUd (hc : X.calm = true) (hu : X.A.units + 64 < cLine) : CallRK X (.builtin "min") ["default"] (rBestD X.K PySem.W.minD) := by
  intro pins s σ H vs zs us ws Q I r rz h
  obtain ⟨a, z, xs, ps, rfl, rfl, hs, ha, al, cl, dp, q0, q⟩ := h
  rw [Vals.ref1 r]
  obtain ⟨w, rfl, rw'⟩ : ∃ w, ws = [w] ∧ RelV z w := by
    cases rz with
    | cons r1 r2 => cases r2; exact ⟨_, rfl, r1⟩
  rcases hs with hs | hs
  · obtain ⟨its, rv, hl, _⟩ := I.list hs
    obtain ⟨as, ra⟩ := Dp.readsAll I _ _ its ha rv
    refine PySem.W.min_list_default (I.ok.hd hc) hl.isList ra al (by omega) (fun e h' tk hk => ⟨z, H, I.kept hk, rw', q0 e⟩) fun p r i v h' tk bs e hi rd hk => ?_
    obtain ⟨x, e1, e2⟩ := vals_back (i := i) (u := v) rv (by simpa using hi)
    exact ⟨x, H, I.kept hk, e2, q p r i x e e1 (reads_at hk cl ra (by simpa using hi) (by rw [e]; exact minD_mem p r) rd)⟩
  · obtain ⟨its, rv, hl, _⟩ := I.tuple hs
    obtain ⟨as, ra⟩ := Dp.readsAll I _ _ its ha rv
    refine PySem.W.min_tuple_default (I.ok.hd hc) hl ra al (by omega) (fun e h' tk hk => ⟨z, H, I.kept hk, rw', q0 e⟩) fun p r i v h' tk bs e hi rd hk => ?_
    obtain ⟨x, e1, e2⟩ := vals_back (i := i) (u := v) rv (by simpa using hi)
    exact ⟨x, H, I.kept hk, e2, q p r i x e e1 (reads_at hk cl ra (by simpa using hi) (by rw [e]; exact minD_mem p r) rd)⟩
end
/-- max(xs, default=d): the default is reckoned behind xs -/
def cBestD (best : PyData → List PyData → PyData) (S : Sto) (x z : D) : Option D := match dataL S x with
  | some [] => some z
  | some (p :: ps) => some (ofPy (best p ps))
  | none => none
@[simp] def dBestD (best : PyData → List PyData → PyData) (fx fz : Env → M D) : Env → M D := fun ρ => mbind (fx ρ) fun x => mbind (fz ρ) fun z S => (mopt (cBestD best S x z) : M D) S
section
variable {X : Cx} {W : WX} {x : Str} {p pos kpos : Pos} {e z : Expr} {id : String} {fx fz : Env → M D} {best : PyData → List PyData → PyData}
theorem pd_bestD (hc : CallRK X (.builtin id) [("default" : Str)] (rBestD X.K best)) (hg : Gl X x) (hm : X.mg x = none) (hv : bootBuiltins x = some (.builtin id)) (ha : PD X W e fx) (hz : PD X W z fz) (hn : x ≠ "__name__" := by decide) (hdb : (x == ("__debug__" : Str)) = false := by decide)
    (he0 : starEach [e] X.env = (false, eval e X.env) :: starEach [] X.env := by rfl)
    (he : backTo pos (starEach [e] X.env) = (false, eval e X.env) :: backTo pos (starEach [] X.env) := by rfl) (hpl : (backTo pos (starEach [e] X.env)).any (·.1) = false := by rfl)
    (hall : (backToKw pos (keywordEach [⟨some "default", z, kpos⟩] X.env)).all (·.1.isSome) = true := by rfl) (hnone : (backToKw pos (keywordEach [⟨some "default", z, kpos⟩] X.env)).any (·.1.isNone) = false := by rfl) (hks : (backToKw pos (keywordEach [⟨some "default", z, kpos⟩] X.env)).filterMap (·.1) = [("default" : Str)] := by rfl) :
    PD X W (.Call (.Name x p) [e] [⟨some "default", z, kpos⟩] pos) (dBestD best fx fz) :=
  PE.imp (pe_callBK hc hg hm hv (pa_cons ha pa_nil he0) (pk_cons hz pk_nil) hn hdb he hpl hall hnone hks) fun σ H Q ⟨b, m, ρ, S, hv, hs, h⟩ => ⟨b, m, ρ, S, hv, hs, Post.then h fun dx S1 m1 H1 vx e1 t1 s1 r1 h1 =>
    ⟨b, m1, ρ, S1, hv.tr t1, s1, Post.then h1 fun dz S2 m2 H2 vz e2 t2 s2 r2 h2 => by
    unfold mopt at h2
    cases q : cBestD best S2 dx dz with
    | none => simp only [q] at h2; exact h2.elim
    | some d =>
      simp only [q] at h2
      have r1 := r1.tr t2
      unfold cBestD at q
      cases q1 : dataL S2 dx with
      | none => simp only [q1] at q; cases q
      | some ps =>
        obtain ⟨a, ys, es, rfl, g1, g2, g3, g4, g5, g6, g7⟩ := dataL_rep s2 r1 q1
        refine ⟨a, vz, ys, ps, rfl, rfl, g1, g2.dp g3, alikeB_ok g5, g6, g7, fun e => ?_, fun p r i x e hx hp => ?_⟩
        · subst e
          simp only [q1] at q
          cases q
          exact h2 _ _ _ Tr.refl s2 r2
        · subst e
          simp only [q1] at q
          cases q
          obtain ⟨y, e1, e2⟩ := pys_at g3 hp
          obtain ⟨z', e3, e4⟩ := g2.get e1
          rw [hx] at e3
          cases e3
          exact h2 _ _ _ Tr.refl s2 (by rw [can_of (cans_at g4 e1) e2]; exact e4)⟩⟩
end
end DL
set_option Elab.async false
set_option linter.all false
set_option maxRecDepth 100000
/-! enumerate of a tuple -/
namespace REN
open PySem PySem.Spec PyProof.Rows L2
open Sem (wp)
set_option maxHeartbeats 1000000 in
theorem meets_new1 {v : Value} {o : Obj} {H : Heap → Prop} (B : Begins v o H) :
    Meets (Builtin.«enumerate.__new__» ⟨[.type "enumerate", v], []⟩) (fun _ R s => H s.heap ∧
      R (.ok (.ret (.ref (s.heap.push o).objs.size))) { s with heap := (s.heap.push o).push { cls := .type "enumerate", data := .fields #[.none, .bool false, .ref s.heap.objs.size, rawInt 0, .none, .none] } }) :=
  .of_wp fun prog w A R s h => by
    obtain ⟨hp, g, d, tk, os⟩ := s; obtain ⟨h1, h⟩ := h
    have hsub := sub_enumerate
    have q1 : ∀ {A' : Around} {E : Value → Shared → Prop} {Q : Value → Shared → Prop}, Q (.ref hp.objs.size) ⟨hp.push o, g, d, tk, os⟩ → wpAny (model prog w) A' (pyIter v) Q E ⟨hp, g, d, tk, os⟩ :=
      fun q => B.iter prog w _ _ ⟨hp, g, d, tk, os⟩ _ h1 q
    wp_walk using q1
    refine wpAny_stack_any fun st => wpAny_pure ?_
    split
    · rename_i c _ _ _ _ _
      cases (c == Value.type "enumerate")
      · wp_walk using q1
        exact ⟨_, rfl, h⟩
      · wp_walk using q1
        exact ⟨_, rfl, h⟩
    · wp_walk using q1
      exact ⟨_, rfl, h⟩
section
variable {prog : Program} {w : World} {A : Around} {E : Value → Shared → Prop} {s : Shared}
theorem enum_begins1 {v : Value} {o : Obj} {H : Heap → Prop} {Q : Value → Shared → Prop} (B : Begins v o H) (h1 : H s.heap)
    (h : ∀ h', IsEnum h' (s.heap.objs.size + 1) s.heap.objs.size 0 .none → h'.get? s.heap.objs.size = some o → h'.objs.size = s.heap.objs.size + 2 →
      (∀ b o, s.heap.get? b = some o → h'.get? b = some o) → Q (.ref (s.heap.objs.size + 1)) { s with heap := h' }) :
    wpAny (model prog w) A (call (.type "enumerate") [v]) Q E s := by
  refine callType_new F.called_enumerate (by decide) (F.typeCall_enumerate_1 _) (F.newCall_enumerate_1 _) (fun obj => F.args_object_init_2 obj _) F.entry_enumerate_new
    (meets_new1 B) ⟨h1, ?_⟩
  have hz : (s.heap.push o).objs.size = s.heap.objs.size + 1 := Heap.size_push ..
  show _ ∧ _
  rw [hz]
  have he : IsEnum ((s.heap.push o).push { cls := .type "enumerate", data := .fields #[.none, .bool false, .ref s.heap.objs.size, rawInt 0, .none, .none] }) (s.heap.objs.size + 1) s.heap.objs.size 0 .none := by
    have := Heap.get?_push_size (s.heap.push o) (o := { cls := .type "enumerate", data := .fields #[.none, .bool false, .ref s.heap.objs.size, rawInt 0, .none, .none] }) rfl
    rw [hz] at this; exact this
  refine ⟨⟨_, he, rfl⟩, h _ he (Heap.get?_push_of_some _ (Heap.get?_push_size _ B.free)) (by rw [Heap.size_push, hz]) fun b o x => Heap.get?_push_of_some _ (Heap.get?_push_of_some _ x)⟩
end
theorem enum_endT {prog : Program} {w : World} {A : Around} {E : Value → Shared → Prop} {s : Shared} {e it l : Addr} {i : Nat} {items : Array Value} {old : Value} {Q : Option Value → Shared → Prop} (hh : A.handled = none)
    (he : IsEnum s.heap e it i old) (hit : s.heap.IsTupleIter it l i) (hl : s.heap.IsTuple l items) (hx : items[i]? = none)
    (hQ : ∀ h', Heap.ExtBut it s.heap h' → Q none { s with heap := h' }) : wpAny (model prog w) A (pyNext (.ref e)) Q E s := by
  have hT : s.TypeIs (.ref e) "enumerate" := ⟨_, he, rfl⟩
  unfold pyNext
  refine wpAny_bind (wpAny_attempt (wpAny_callSpecial?_slot (name := Str.ofString "__next__") hT F.slot_enumerate_next
    (wpAny_call_entry F.slot_enumerate_next hT F.entry_enumerate_next ?_ (F.args_enumerate_next_1 _))))
  show wpAny _ _ (field (.ref e) 2 >>= _) _ _ _
  refine wpAny_bind (wpAny_field he rfl (x := .ref it) rfl ?_)
  refine wpAny_bind (wpAny_nextOf_tuple_end hh hit hl hx fun h' x he' hx' => ?_)
  obtain ⟨o, ho, hc⟩ := hx'
  refine wpAny_bind (wpAny_isInstance (T := "StopIteration") (b := true) ⟨o, ho, hc⟩ isSubtype_stop ?_)
  exact wpAny_pure (hQ _ he')
/-- the tuple at a, each item in a new pair -/
def IteT (K : PySem.W.Frag) (a : Addr) : It :=
  ⟨fun i H => ∃ (xs : List V) (x : V), SqT K H a xs ∧ xs[i]? = some x, fun i H v H' => ∃ T x, v = .ref T ∧ H T = none ∧ H' = upd H T (.tup [.int (i : Nat), x]) ∧ ∀ xs, SqT K H a xs → xs[i]? = some x, fun i H => ∃ xs : List V, SqT K H a xs ∧ xs.length ≤ i⟩
theorem turn_enumT {P : Program} {w : World} {K : PySem.W.Frag} {elts : List Expr} {kk : Nat} {tpos : Pos} (a e it : Addr) (hai : a ≠ it) :
    Turn P w K (.Tuple elts kk tpos) (IteT K a) [e, it] e (fun i h => (∃ old, IsEnum h e it ((i : Nat) : Int) old) ∧ h.IsTupleIter it a i ∧ e ≠ it) where
  mem := by simp
  obj := fun i h st b hb => by
    obtain ⟨⟨old, he⟩, ⟨o, ho, hc, hd⟩, _⟩ := st
    have e' : b = e ∨ b = it := by simpa using hb
    rcases e' with z | z
    · rw [z]; exact ⟨_, he, fun v q => nomatch q⟩
    · rw [z]; exact ⟨o, ho, fun v q => by rw [hd] at q; cases q⟩
  keep := fun i h h' st k => let ⟨⟨old, he⟩, hi, hne⟩ := st; ⟨⟨old, k e (by simp) _ he⟩, hi.at fun o q => k it (by simp) o q, hne⟩
  item := by
    intro X hP hw hK hc i pins s σ H E I hf st hg
    subst hP hw hK
    obtain ⟨⟨old, he⟩, hit, hne⟩ := st
    obtain ⟨xs, x, hq, hx⟩ := hg
    obtain ⟨its, rv, p, hz⟩ := I.tuple hq
    obtain ⟨u, hu, ru⟩ := rv.get hx
    have hel : e < s.heap.objs.size := Heap.lt_size he
    have hil : it < s.heap.objs.size := by obtain ⟨_, q, _⟩ := hit; exact Heap.lt_size q
    have hea : e ≠ a := fun z => by
      obtain ⟨o, ho, hc2, _⟩ := p
      rw [← z] at ho
      rw [show s.heap.get? e = _ from he] at ho
      cases ho
      injection hc2 with hc3
      exact absurd hc3 (by decide)
    have hlt : i < its.toArray.size := by
      obtain ⟨h1, _⟩ := List.getElem?_eq_some_iff.mp hu
      simpa using h1
    refine wpAny_pyNext_enum_itemD (Draws.tuple (A := X.A.in1) (I.ok.hd hc) it a hai its.toArray) he ⟨hit, p⟩ hlt hne (by simp; exact ⟨hne, hea⟩) fun u' h' tk hP ho hst hT hsz hk => ?_
    have eu : u' = u := by
      have : its.toArray[i]? = some u' := hP
      rw [List.getElem?_toArray, hu] at this
      cases this
      rfl
    subst eu
    have hit' := hst.1
    refine ⟨_, rfl, wpAny_letOwnedTupleGo_enum (s := { s with heap := h', toks := tk + 1 }) ho fun h'' he' sb => ?_⟩
    have hT2 : h''.get? s.heap.objs.size = some { cls := .type "tuple", data := .seq #[.int i tk, u'] } := (sb.2 _ (Nat.ne_of_gt hel)).trans hT
    have new : ObjOk X.prog X.w (upd H s.heap.objs.size (.tup [.int (i : Nat), x])) h'' s.heap.objs.size (.tup [.int (i : Nat), x]) :=
      ⟨by show 2 ≤ sizeLine; decide, [.int i tk, u'], .cons ⟨_, rfl⟩ (.cons ru .nil), ⟨_, hT2, rfl, _, rfl⟩⟩
    have I1 : Inv X pins σ (upd H s.heap.objs.size (.tup [.int (i : Nat), x])) { s with heap := h'', toks := tk + 1 } :=
      I.turnedNew (ch := [e, it]) (fun b ob hb q => (sb.2 b (fun z => hb (by simp [z]))).trans (hk b ob (fun z => hb (by simp [z])) (fun z => hb (by simp [z])) q)) hf (Nat.le_refl _) new
    refine ⟨.ref s.heap.objs.size, _, I1, rfl, ⟨_, x, rfl, I.hok.fresh (Nat.le_refl _), rfl, fun ys hy => by rw [I.tuple_inj hy hq]; exact hx⟩, ⟨⟨u', ?_⟩, hit'.at fun o q => (sb.2 it (Ne.symm hne)).trans q, hne⟩, fun b hb => ?_⟩
    · have e1 : ((i + 1 : Nat) : Int) = (i : Int) + 1 := by omega
      rw [e1]; exact he'
    · have hb' : b < s.heap.objs.size := by
        have e' : b = e ∨ b = it := by simpa using hb
        rcases e' with z | z
        · rw [z]; exact hel
        · rw [z]; exact hil
      rw [upd_ne (Nat.ne_of_lt hb')]
      exact (hf b hb).1
  done := by
    intro X hP hw hK hc i pins s σ H E I hf st hg
    subst hP hw hK
    obtain ⟨⟨old, he⟩, hit, hne⟩ := st
    obtain ⟨xs, hq, hx⟩ := hg
    obtain ⟨its, rv, p, hz⟩ := I.tuple hq
    obtain ⟨f0, f1, f2, f3, f4, f5⟩ := hf it (by simp)
    have hl := rv.length
    have hsz : its.toArray[i]? = none := by simp; omega
    refine enum_endT (I.ok.hd hc) he hit p hsz fun h' eb => ⟨rfl, I.turned (t' := s.toks) (fun b o hb q => eb b o hb q) f0 f1 f3 f4 f5⟩
  self := fun A i s Q E st h => let ⟨⟨_, he⟩, _⟩ := st; wpAny_pyIter_enum he h
def iEnumT (K : PySem.W.Frag) (ta : TA) : TI := fun σ H R => ta σ H fun vs H1 => ∃ a xs, vs = [.ref a] ∧ SqT K H1 a xs ∧ R (IteT K a) H1
theorem pi_enumT {X : Cx} {e : Expr} {ta : TA} {p pos tpos : Pos} {elts : List Expr} {kk : Nat} (hg : Gl X "enumerate") (hm : X.mg "enumerate" = none) (ha : PA X [e] ta) (hs : starEach [e] X.env = [(false, eval e X.env)] := by rfl) :
    PI X (.Tuple elts kk tpos) (.Call (.Name "enumerate" p) [e] [] pos) (iEnumT X.K ta) := by
  refine ⟨fun pins s σ H R I h => ?_⟩
  refine Call_ (ld_blt I hg hm boot_enumerate (PyProof.Rows.callWith_type1 (thn (ha.run pos pins s σ H _ I h) fun us s1 ⟨vs, H1, I1, r1, q1⟩ => ?_) hs rfl))
  obtain ⟨a, xs, ex, hq, q⟩ := q1
  subst ex
  cases r1 with
  | cons r rr =>
    cases rr
    cases r
    obtain ⟨its, rv, p', hz⟩ := I1.tuple hq
    have hal : a < s1.heap.objs.size := by obtain ⟨_, e, _⟩ := p'; exact Heap.lt_size e
    refine enum_begins1 (begins_tuple a its.toArray) p' fun h' he hit hsz hk => wpAny_pyIter_enum he ?_
    have I2 : Inv X pins σ H1 { s1 with heap := h' } := I1.kept (t' := s1.toks) hk
    refine ⟨s1.heap.objs.size + 1, [s1.heap.objs.size + 1, s1.heap.objs.size], _, _, H1, rfl, I2, turn_enumT a (s1.heap.objs.size + 1) s1.heap.objs.size (Nat.ne_of_lt hal), ⟨⟨.none, he⟩, ⟨_, hit, rfl, rfl⟩, Nat.succ_ne_self _⟩, fun b hb => ?_, q⟩
    have e' : b = s1.heap.objs.size + 1 ∨ b = s1.heap.objs.size := by simpa using hb
    have hle : s1.heap.objs.size ≤ b := by
      rcases e' with z | z
      · rw [z]; exact Nat.le_add_right _ _
      · rw [z]; exact Nat.le_refl _
    exact I1.fpOk hle (I1.hok.fresh hle)
end REN
namespace DL
open PySem PySem.Spec PyProof.Rows L2
section
variable {X : Cx} {W : WX} {e : Expr} {fs : Env → M (List D)} {p pos tpos : Pos} {elts : List Expr} {kk : Nat}
def kEnumT : List D → Option (List D)
  | [x] => (seqT x).map (enumD 0)
  | _ => none
theorem id_enumT (hg : Gl X "enumerate") (hm : X.mg "enumerate" = none) (ha : AD X W [e] fs) (hs : starEach [e] X.env = [(false, eval e X.env)] := by rfl) :
    ID X W (.Tuple elts kk tpos) (.Call (.Name "enumerate" p) [e] [] pos) (iArgs kEnumT fs) :=
  PI.imp (REN.pi_enumT hg hm ha hs) fun σ H Q ⟨b, m, ρ, S, hv, hs, h⟩ => ⟨b, m, ρ, S, hv, hs, Post.then h fun ds S1 m1 H1 xs e1 t1 s1 r1 h1 => by
    cases q : kEnumT ds with
    | none => simp only [q, mopt_none] at h1; exact h1.elim
    | some items =>
      simp only [q, mopt_some] at h1
      unfold kEnumT at q
      split at q
      · rename_i x
        obtain ⟨v, rfl, rv⟩ := r1.one
        cases q1 : seqT x with
        | none => rw [q1] at q; cases q
        | some zs =>
          rw [q1] at q
          cases q
          obtain ⟨a, vs, rfl, g2, g1⟩ := seqT_rep rv q1
          refine ⟨a, vs, rfl, g2, h1 _ _ _ Tr.refl s1 fun b' m' H' t hb => ⟨fun i d hi => ?_, ?_⟩⟩
          · obtain ⟨dx, hx, rfl⟩ := enumD_get hi
            obtain ⟨vx, ex, rx⟩ := g1.get hx
            refine ⟨⟨vs, vx, SqT.rch t g2, ex⟩, fun z H'' ⟨T, x', e1, e2, e3, e4⟩ => ?_⟩
            subst e1 e3
            have z1 := (e4 _ (SqT.rch t g2)).symm.trans ex
            cases z1
            rw [Nat.zero_add]
            exact ⟨Same.upd e2, rep_pair e2 (.int _) (rx.rch t hb)⟩
          · exact ⟨vs, SqT.rch t g2, by rw [g1.length, enumD_len]; exact Nat.le_refl _⟩
      · cases q⟩
end
end DL
set_option Elab.async false
set_option linter.all false
set_option maxRecDepth 100000
/-! ### walks over lists that are written to: what stands there at each turn -/
namespace DL
open PySem PySem.Spec PyProof.Rows L2
/-- what is walked, by the store -/
abbrev Wk := Sto → Option (List D)
def RItW (K : PySem.W.Frag) : List Addr → List Addr → Hp → It → Wk → Prop := fun b m H J wk => ∀ b' m' H' S', Rch b m H m' H' → Bn b H b' → StoR K b' m' H' S' → ∀ ds, wk S' = some ds →
  (∀ i d, ds[i]? = some d → J.go i H' ∧ ∀ x H'', J.yld i H' x H'' → Same H' H'' ∧ Rep K b' m' H'' x d) ∧ ∀ i, ds.length ≤ i → J.stop i H'
def IW (X : Cx) (W : WX) (tg it : Expr) (f : Env → M Wk) : Prop := PI X tg it (tG X.K X.mg W (RItW X.K) f)
@[simp] def wLst (f : Env → M D) : Env → M Wk := fun ρ => mbind (f ρ) fun d S => match seqL S d with
  | some _ => .ok (fun S => seqL S d) S
  | none => .bad
section
variable {X : Cx} {W : WX} {tg e : Expr} {fe : Env → M D}
theorem iw_lst (h : PD X W e fe) : IW X W tg e (wLst fe) := PI.imp (pi_list h) fun σ H Q ⟨b, m, ρ, S, hv, hs, h⟩ => ⟨b, m, ρ, S, hv, hs, Post.then h fun d S1 m1 H1 x e1 t1 s1 r1 h1 => by
  cases q : seqL S1 d with
  | none => simp only [q] at h1; exact h1.elim
  | some ds =>
    simp only [q] at h1
    obtain ⟨a, xs, rfl, g1, g2⟩ := seqL_rep s1 r1 q
    refine ⟨a, rfl, ⟨xs, g1⟩, h1 _ _ _ Tr.refl s1 fun b' m' H' S' t hb s' es hes => ?_⟩
    obtain ⟨a', ys, ea, k1, k2⟩ := seqL_rep s' (r1.rch t hb) hes
    cases ea
    refine ⟨fun i d hi => ?_, fun i hi => ⟨ys, k1, by rw [k2.length]; exact hi⟩⟩
    obtain ⟨v, hx, rv⟩ := k2.get hi
    exact ⟨⟨ys, v, k1, hx⟩, fun x H'' ⟨eh, hy⟩ => by
      subst eh
      have := hy ys k1
      rw [hx] at this
      cases this
      exact ⟨Same.refl _, rv⟩⟩⟩
end
section
variable {X : Cx} {W : WX} {e : Expr} {fs : Env → M (List D)} {p pos tpos : Pos} {elts : List Expr} {kk : Nat}
@[simp] def wEnum (f : Env → M (List D)) : Env → M Wk := fun ρ => mbind (f ρ) fun ds S => match ds with
  | [d] => match seqL S d with
    | some _ => .ok (fun S => (seqL S d).map (enumD 0)) S
    | none => .bad
  | _ => .bad
theorem iw_enum (hg : Gl X "enumerate") (hm : X.mg "enumerate" = none) (ha : AD X W [e] fs) (hs : starEach [e] X.env = [(false, eval e X.env)] := by rfl) :
    IW X W (.Tuple elts kk tpos) (.Call (.Name "enumerate" p) [e] [] pos) (wEnum fs) :=
  PI.imp (pi_enum hg hm ha hs) fun σ H Q ⟨b, m, ρ, S, hv, hs, h⟩ => ⟨b, m, ρ, S, hv, hs, Post.then h fun ds S1 m1 H1 xs e1 t1 s1 r1 h1 => by
    match ds, r1, h1 with
    | [d], r1, h1 =>
      cases q : seqL S1 d with
      | none => simp only [q] at h1; exact h1.elim
      | some zs =>
        simp only [q] at h1
        obtain ⟨v, rfl, rv⟩ := r1.one
        obtain ⟨a, vs, rfl, g1, g2⟩ := seqL_rep s1 rv q
        refine ⟨a, vs, rfl, g1, h1 _ _ _ Tr.refl s1 fun b' m' H' S' t hb s' es hes => ?_⟩
        have hes : (seqL S' d).map (enumD 0) = some es := hes
        cases q2 : seqL S' d with
        | none => rw [q2] at hes; cases hes
        | some ws =>
          rw [q2] at hes
          cases hes
          obtain ⟨a', ys, ea, k1, k2⟩ := seqL_rep s' (rv.rch t hb) q2
          cases ea
          refine ⟨fun i d hi => ?_, fun i hi => ⟨ys, k1, by rw [k2.length]; rw [enumD_len] at hi; exact hi⟩⟩
          obtain ⟨dx, hx, rfl⟩ := enumD_get hi
          obtain ⟨vx, ex, rx⟩ := k2.get hx
          refine ⟨⟨ys, vx, k1, ex⟩, fun z H'' ⟨T, x', e1, e2, e3, e4⟩ => ?_⟩
          subst e1 e3
          have z1 := (e4 _ k1).symm.trans ex
          cases z1
          rw [Nat.zero_add]
          exact ⟨Same.upd e2, rep_pair e2 (.int _) rx⟩
    | [], r1, h1 => exact h1.elim
    | _ :: _ :: _, r1, h1 => exact h1.elim⟩
end
/-! ### for -/
def sLoopW (wk : Wk) (g : DG) (f : DS) : Nat → Nat → DS
  | 0, _, _, _ => .bad
  | n + 1, i, ρ, S => match wk S with
    | none => .bad
    | some ds => match ds[i]? with
      | none => .ok (.nx ρ) S
      | some d => match g d ρ with
        | none => .bad
        | some ρ1 => match f ρ1 S with
          | .ok (.nx ρ2) S2 => sLoopW wk g f n (i + 1) ρ2 S2
          | .ok (.ct ρ2) S2 => sLoopW wk g f n (i + 1) ρ2 S2
          | .ok (.bk ρ2) S2 => .ok (.nx ρ2) S2
          | o => o
@[simp] def sForW (fi : Env → M Wk) (g : DG) (f : DS) : DS := fun ρ S => sbind (fi ρ S) ρ fun wk S' => sLoopW wk g f 1000000 0 ρ S'
section
variable {X : Cx} {W : WX} {tg it : Expr} {body : List Stmt} {fi : Env → M Wk} {g : DG} {ws : List Nat} {f : DS} {pos : Pos}
theorem sd_forW (hp : PassesOwn (model X.prog X.w) X.A X.env X.xe) (hc : X.calm = true) (hi : IW X W tg it fi) (hg : GD X tg ws g) (hb : BD X W body f) (hs : ∀ x, foldedSetIterable it X.env x = pure x := by intro _; rfl) : SD X W (.For tg it body [] pos) (sForW fi g f) :=
  PS.imp (ps_for hp hc hi hg hb hs) fun E σ H ⟨b, m, ρ, S, hv, hs, h⟩ => ⟨b, m, ρ, S, hv, hs, PostS.bind hv h fun wk S1 m1 H1 J _ t1 s1 r1 v1 h1 => by
    refine ⟨fun i n σ H => ∃ m' ρ S, Tr m1 H1 m' H ∧ EnvR X.K b m' H σ ρ ∧ StoR X.K b m' H S ∧ PostS X.K X.mg W b m' H E (sLoopW wk g f n i ρ S),
      ⟨1000000, m1, ρ, S1, Tr.refl, v1, s1, h1⟩, ?_⟩
    rintro i n σ2 H2 ⟨m2, ρ2, S2, t2, v2, s2, h2⟩
    cases n with
    | zero => exact h2.elim
    | succ n =>
    unfold sLoopW at h2
    cases q0 : wk S2 with
    | none => simp only [q0] at h2; exact h2.elim
    | some ds =>
    simp only [q0] at h2
    obtain ⟨rgo, rstop⟩ := r1 b m2 H2 S2 t2.rch Bn.refl s2 ds q0
    cases qi : ds[i]? with
    | some d =>
      obtain ⟨go, yld⟩ := rgo i d qi
      simp only [qi] at h2
      cases q : g d ρ2 with
      | none => simp only [q] at h2; exact h2.elim
      | some ρ3 =>
        simp only [q] at h2
        refine .inr ⟨go, fun σ' H' => ∃ m' ρ S, Tr m1 H1 m' H' ∧ EnvR X.K b m' H' σ' ρ ∧ StoR X.K b m' H' S ∧ PostS X.K X.mg W b m' H' E (sLoopW wk g f n (i + 1) ρ S), fun σ' H' ⟨m3, ρ', S', t3, v3, s3, h3⟩ => ⟨n, Nat.lt_succ_self _, m3, ρ', S', t3, v3, s3, h3⟩, fun x H3 hy => ?_⟩
        obtain ⟨sm, rx⟩ := yld x H3 hy
        have t3 : Tr m2 H2 m2 H3 := Same.tr sm
        refine ⟨b, m2, ρ2, d, ρ3, v2.tr t3, rx, q, fun σ4 v4 _ => ⟨b, m2, ρ3, S2, v4, s2.same sm, ?_⟩⟩
        have h2' := PostS.tr t3 h2
        cases q2 : f ρ3 S2 with
        | bad => simp only [q2] at h2'; exact h2'.elim
        | ex e ρ5 S5 => simp only [q2] at h2'; exact h2'
        | ok fl S5 =>
          cases fl with
          | nx ρ5 => simp only [q2] at h2'; exact fun m6 H6 σ6 t6 v6 s6 => ⟨m6, ρ5, S5, (t2.trans t3).trans t6, v6, s6, PostS.tr t6 h2'⟩
          | ct ρ5 => simp only [q2] at h2'; exact fun m6 H6 σ6 t6 v6 s6 => ⟨m6, ρ5, S5, (t2.trans t3).trans t6, v6, s6, PostS.tr t6 h2'⟩
          | bk ρ5 => simp only [q2] at h2'; exact h2'
          | rt d => simp only [q2] at h2'; exact h2'
    | none =>
      simp only [qi] at h2
      exact .inl ⟨rstop i (by rw [List.getElem?_eq_none_iff] at qi; exact qi), PostS.nx v2 s2 h2⟩⟩
end
/-! ### comprehensions -/
def compLW (wk : Wk) (g : DG) (t : Env → M Bool) (e : Env → M D) (ρ : Env) : Nat → Nat → M (List D)
  | 0, _ => mbad
  | n + 1, i => fun S => match wk S with
    | none => .bad
    | some ds => match ds[i]? with
      | none => .ok [] S
      | some d => match g d ρ with
        | none => .bad
        | some ρ1 => (nox (t ρ1) S).then fun c => if c then mbind (nox (e ρ1)) fun y => mbind (compLW wk g t e ρ n (i + 1)) fun ys => mret (y :: ys) else compLW wk g t e ρ n (i + 1)
@[simp] def dCompW (fi : Env → M Wk) (g : DG) (t : Env → M Bool) (e : Env → M D) (vs : List Nat) : Env → M D := fun ρ => mbind (fi ρ) fun wk =>
  mbind (compLW wk g t e (dwipe ρ vs) 1000000 0) fun ds => mret (.lst ds)
section
variable {X : Cx} {W : WX} {elt tg iter : Expr} {ifs : List Expr} {scope : Scope} {own : List (Str × Nat)} {pos : Pos} {fi : Env → M Wk} {g : DG} {ws : List Nat} {ft : Env → M Bool} {fe : Env → M D}
theorem lc_denW {K : PySem.W.Frag} {mg : Str → Option Value} {vs : List Nat} (hw : ∀ i ∈ ws, i ∈ vs) {σ : L2.St} {H : Hp} {Q : VK} (h : tG K mg W (RV K) (dCompW fi g ft fe vs) σ H Q) :
    tLc (tG K mg W (RItW K) fi) (tGt K ws g) (tG K mg WF ReqB ft) (tG K mg WF (RV K) fe) vs σ H Q := by
  obtain ⟨b, m, ρ, S, hv, hs, h⟩ := h
  refine ⟨b, m, ρ, S, hv, hs, Post.then h fun wk S1 m1 H1 J e1 t1 s1 r1 h1 => ?_⟩
  intro Dd hDd
  have v1 := hv.tr t1
  refine ⟨fun i n H => i + n = 1000000 ∧ ∃ m' S accV accD, Tr m1 H1 m' H ∧ EnvR K (Dd :: b) m' H (wipe σ vs) (dwipe ρ vs) ∧ StoR K (Dd :: b) m' H S ∧ H Dd = some (.lst accV) ∧ Reps K (Dd :: b) m' H accV accD ∧ accD.length ≤ i ∧
      Post K mg W b m1 H1 σ (RV K) ((compLW wk g ft fe (dwipe ρ vs) n i S).then fun ys => mret (.lst (accD ++ ys))) Q,
    ⟨1000000, rfl, m1, S1, [], [], (Tr.refl).side hDd, (v1.wipe vs).apart hDd, s1.apart hDd, upd_same, .nil, Nat.le_refl _, h1⟩, ?_⟩
  rintro i n H2 ⟨hin, m2, S2, accV, accD, t2, v2, s2, eD, ra, hal, h2⟩
  have bn : Bn b H1 (Dd :: b) := Bn.cons hDd
  cases n with
  | zero => exact h2.elim
  | succ n =>
  unfold compLW at h2
  cases q0 : wk S2 with
  | none => simp only [q0] at h2; exact h2.elim
  | some ds =>
  simp only [q0] at h2
  obtain ⟨rgo, rstop⟩ := r1 (Dd :: b) m2 H2 S2 t2.rch bn s2 ds q0
  cases qi : ds[i]? with
  | some d =>
    obtain ⟨go, yld⟩ := rgo i d qi
    simp only [qi] at h2
    cases q : g d (dwipe ρ vs) with
    | none => simp only [q] at h2; exact h2.elim
    | some ρ3 =>
      simp only [q] at h2
      refine .inr ⟨go, fun H' => ∃ m' S accV accD, Tr m1 H1 m' H' ∧ EnvR K (Dd :: b) m' H' (wipe σ vs) (dwipe ρ vs) ∧ StoR K (Dd :: b) m' H' S ∧ H' Dd = some (.lst accV) ∧ Reps K (Dd :: b) m' H' accV accD ∧ accD.length ≤ i + 1 ∧
        Post K mg W b m1 H1 σ (RV K) ((compLW wk g ft fe (dwipe ρ vs) n (i + 1) S).then fun ys => mret (.lst (accD ++ ys))) Q, fun H' ⟨m3, S3, aV, aD, x⟩ => ⟨n, Nat.lt_succ_self _, by omega, m3, S3, aV, aD, x⟩, fun x H3 hy => ?_⟩
      obtain ⟨sm, rx⟩ := yld x H3 hy
      have t3 : Tr m2 H2 m2 H3 := Same.tr sm
      refine ⟨Dd :: b, m2, _, d, ρ3, v2.tr t3, rx, q, fun σ4 v4 o4 => ⟨?_, ?_⟩⟩
      · rw [← wipe_wipe σ vs]
        exact wipe_eq ⟨o4.1, fun j hj => o4.2 j fun z => hj (hw j z)⟩
      · refine ⟨Dd :: b, m2, ρ3, S2, v4, s2.same sm, ?_⟩
        have eD3 : H3 Dd = some (.lst accV) := sm.old _ _ eD
        have nDm : Dd ∉ m2 := (s2.ban Dd List.mem_cons_self).1
        have ra3 := ra.tr t3
        have v3 := v2.tr t3
        have h2' : Post K mg W b m1 H1 σ (RV K) (((nox (ft ρ3) S2).then fun c => if c then mbind (nox (fe ρ3)) fun y => mbind (compLW wk g ft fe (dwipe ρ vs) n (i + 1)) fun ys => mret (y :: ys) else compLW wk g ft fe (dwipe ρ vs) n (i + 1)).then fun ys => mret (.lst (accD ++ ys))) Q := h2
        unfold nox at h2'
        cases q2 : ft ρ3 S2 with
        | bad => simp only [q2] at h2'; exact h2'.elim
        | ex e S5 => simp only [q2] at h2'; exact h2'.elim
        | ok c S5 =>
          simp only [q2] at h2'
          intro m6 H6 y t6 s6 ey
          obtain rfl : y = c := ey
          have T6 : Tr m1 H1 m6 H6 := (t2.trans t3).trans t6
          have eD6 : H6 Dd = some (.lst accV) := t6.keptL eD3 nDm
          cases y with
          | false => exact iteF ⟨m6, S5, accV, accD, T6, v3.tr t6, s6, eD6, ra3.tr t6, by omega, h2'⟩
          | true =>
            refine iteT ⟨Dd :: b, m6, ρ3, S5, v4.tr t6, s6, ?_⟩
            have h3' : Post K mg W b m1 H1 σ (RV K) (((nox (fe ρ3) S5).then fun y => mbind (compLW wk g ft fe (dwipe ρ vs) n (i + 1)) fun ys => mret (y :: ys)).then fun ys => mret (.lst (accD ++ ys))) Q := h2'
            unfold nox at h3'
            cases q3 : fe ρ3 S5 with
            | bad => simp only [q3] at h3'; exact h3'.elim
            | ex e S7 => simp only [q3] at h3'; exact h3'.elim
            | ok dy S7 =>
              simp only [q3] at h3'
              intro m8 H8 y t8 s8 ry
              have nD6 : Dd ∉ m6 := (s6.ban Dd List.mem_cons_self).1
              have eD8 : H8 Dd = some (.lst accV) := t8.keptL eD6 nD6
              have ra8 := (ra3.tr t6).tr t8
              have hlen : accV.length = accD.length := ra8.length
              have hsl := sizeLine_eq
              refine ⟨accV, eD8, by omega, m8, S7, accV ++ [y], accD ++ [dy], (T6.trans t8).side hDd, ((v3.tr t6).tr t8).side eD8 List.mem_cons_self, s8.side eD8 List.mem_cons_self, upd_same, (ra8.append (.cons ry .nil)).side eD8 List.mem_cons_self, by simp; omega, ?_⟩
              have h4' : Post K mg W b m1 H1 σ (RV K) (((compLW wk g ft fe (dwipe ρ vs) n (i + 1) S7).then fun ys => mret (dy :: ys)).then fun ys => mret (.lst (accD ++ ys))) Q := h3'
              cases q4 : compLW wk g ft fe (dwipe ρ vs) n (i + 1) S7 with
              | bad => rw [q4] at h4'; exact h4'.elim
              | ex e S9 => rw [q4] at h4'; exact h4'
              | ok ys S9 =>
                rw [q4] at h4'
                have e5 : accD ++ dy :: ys = (accD ++ [dy]) ++ ys := by simp
                show Post K mg W b m1 H1 σ (RV K) (.ok (.lst ((accD ++ [dy]) ++ ys)) S9) Q
                rw [← e5]
                exact h4'
  | none =>
    simp only [qi] at h2
    refine .inl ⟨rstop i (by rw [List.getElem?_eq_none_iff] at qi; exact qi), ?_⟩
    have h2' : Post K mg W b m1 H1 σ (RV K) (.ok (.lst (accD ++ [])) S2) Q := h2
    rw [List.append_nil] at h2'
    refine h2' m2 H2 _ t2 s2.unapart (.lst eD (s2.ban Dd List.mem_cons_self).1 (fun z => ?_) ra.unapart)
    obtain ⟨_, o, e⟩ := s1.ban Dd z
    rw [hDd] at e
    cases e
theorem pd_compW (hc : X.calm = true) (hN : X.N.Nodup) (hi : IW X W tg iter fi) (ok : BlkOk X.N X.env.scope scope own) (hw : ∀ i ∈ ws, i ∈ own.map (·.2))
    (hg : ∀ (s : Shared) (H : Hp) (C : Addr) (cl : List (Str × Addr)) (fp : List Addr), GD (X.blk s H scope (compEnvC scope cl C X.env) fp) tg ws g) (ht : ∀ (s : Shared) (H : Hp) (C : Addr) (cl : List (Str × Addr)) (fp : List Addr), TsD (X.blk s H scope (compEnvC scope cl C X.env) fp) WF ifs ft)
    (he : ∀ (s : Shared) (H : Hp) (C : Addr) (cl : List (Str × Addr)) (fp : List Addr), PD (X.blk s H scope (compEnvC scope cl C X.env) fp) WF elt fe) (hs : ∀ x, foldedSetIterable iter X.env x = pure x := by intro _; rfl) :
    PD X W (.ListComp elt [⟨tg, iter, ifs, 0⟩] scope pos) (dCompW fi g ft fe (own.map (·.2))) :=
  PE.imp (pe_lc (g := tGt X.K ws g) (tt := tG X.K X.mg WF ReqB ft) (te := tG X.K X.mg WF (RV X.K) fe) hc hN hi ok hg ht he hs) fun σ H Q h => lc_denW hw h
theorem sd_setCompW (i : Nat) {y : Str} {py spos : Pos} (hc : X.calm = true) (hN : X.N.Nodup) (hy : X.N[i]? = some y) (hyl : X.env.scope.names.lookup y = some .local)
    (hsw : swapsWith (.ListComp elt [⟨tg, iter, ifs, 0⟩] scope pos) (some (.Name y py)) spos.line X.env = pure true) (hi : IW X W tg iter fi) (ok : BlkOk X.N X.env.scope scope own) (hw : ∀ i ∈ ws, i ∈ own.map (·.2))
    (hg : ∀ (s : Shared) (H : Hp) (C : Addr) (cl : List (Str × Addr)) (fp : List Addr), GD (X.blk s H scope (compEnvC scope cl C X.env) fp) tg ws g) (ht : ∀ (s : Shared) (H : Hp) (C : Addr) (cl : List (Str × Addr)) (fp : List Addr), TsD (X.blk s H scope (compEnvC scope cl C X.env) fp) WF ifs ft)
    (he : ∀ (s : Shared) (H : Hp) (C : Addr) (cl : List (Str × Addr)) (fp : List Addr), PD (X.blk s H scope (compEnvC scope cl C X.env) fp) WF elt fe) (hs : ∀ x, foldedSetIterable iter X.env x = pure x := by intro _; rfl) :
    SD X W (.Assign [.Name y py] (.ListComp elt [⟨tg, iter, ifs, 0⟩] scope pos) spos) (sAsg (dCompW fi g ft fe (own.map (·.2))) (gtName i)) :=
  PS.imp (ps_setLc (g := tGt X.K ws g) (tt := tG X.K X.mg WF ReqB ft) (te := tG X.K X.mg WF (RV X.K) fe) hc hN hy hyl hsw hi ok hg ht he hs) fun E σ H h => by
    obtain ⟨b, m, ρ, S, hv, hs, h⟩ := asg_den (ws := [i]) h
    refine lc_denW hw ⟨b, m, ρ, S, hv, hs, Post.imp h fun y H' ⟨b, m, ρ, d, ρ', hv', r, e, q⟩ => ?_⟩
    cases e
    exact q _ (hv'.set i r) ⟨by simp, fun j hj => List.getElem?_set_ne (fun z => hj (by simp [z]))⟩
end
end DL
set_option Elab.async false
set_option linter.all false
set_option maxRecDepth 100000
set_option maxHeartbeats 2000000
/-! zip of any number of tuples, at the library's level: one draw -/
namespace RZN
open PySem
open PySem.Sem (wp)
section
variable {prog : Program} {w : World} {A : Around} {E : Value → Shared → Prop} {s : Shared}
/-- an iterator, its tuple, the tuple's items -/
abbrev Z3 := Addr × Addr × Array Value
def ZAt (h : Heap) (i : Nat) (t : Z3) : Prop := h.IsTupleIter t.1 t.2.1 i ∧ h.IsTuple t.2.1 t.2.2
theorem ZAt.but {h h' : Heap} {i : Nat} {t : Z3} {a : Addr} (z : ZAt h i t) (k : Heap.SameBut a h h') (n1 : t.1 ≠ a) (n2 : t.2.1 ≠ a) : ZAt h' i t := by
  obtain ⟨⟨o, ho, r⟩, ⟨u, hu, q⟩⟩ := z
  exact ⟨⟨o, k.extBut _ _ n1 ho, r⟩, ⟨u, k.extBut _ _ n2 hu, q⟩⟩
structure ZDis (zs : List Z3) : Prop where
  nd : (zs.map (·.1)).Nodup
  ap : ∀ t ∈ zs, ∀ u ∈ zs, t.2.1 ≠ u.1
theorem ZDis.tail {t : Z3} {zs : List Z3} (d : ZDis (t :: zs)) : ZDis zs :=
  ⟨by have := d.nd; rw [List.map_cons, List.nodup_cons] at this; exact this.2, fun t h u k => d.ap t (List.mem_cons_of_mem _ h) u (List.mem_cons_of_mem _ k)⟩
theorem ZDis.head {t : Z3} {zs : List Z3} (d : ZDis (t :: zs)) : ∀ u ∈ zs, u.1 ≠ t.1 := fun u h e => by
  have := d.nd
  rw [List.map_cons, List.nodup_cons] at this
  exact this.1 (List.mem_map.mpr ⟨u, h, e⟩)
theorem forIn_draw {β : Type} {f : Value → β → Sem (ForInStep β)} {up : β → Value → β} {i : Nat}
    (hf : ∀ (it l : Addr) (xs : Array Value) (x : Value) (b : β) (s : Shared) (Q : ForInStep β → Shared → Prop), s.heap.IsTupleIter it l i → s.heap.IsTuple l xs → xs[i]? = some x →
      (∀ h', h'.IsTupleIter it l (i + 1) → Heap.SameBut it s.heap h' → Q (.yield (up b x)) { s with heap := h' }) → wpAny (model prog w) A (f (.ref it) b) Q E s) :
    ∀ (zs : List Z3) (xs : List Value) (b : β) (s : Shared) (Q : β → Shared → Prop), ZDis zs → (∀ t ∈ zs, ZAt s.heap i t) → zs.map (fun t => t.2.2[i]?) = xs.map some →
      (∀ h', (∀ t ∈ zs, h'.IsTupleIter t.1 t.2.1 (i + 1)) → h'.objs.size = s.heap.objs.size → (∀ c o, (∀ t ∈ zs, c ≠ t.1) → s.heap.get? c = some o → h'.get? c = some o) → Q (xs.foldl up b) { s with heap := h' }) →
      wpAny (model prog w) A (forIn (zs.map fun t => Value.ref t.1) b f) Q E s
  | [], xs, b, s, Q, _, _, hx, h => by
    cases xs with
    | cons _ _ => cases hx
    | nil =>
      rw [List.map_nil, List.forIn_nil]
      exact wpAny_pure (h s.heap (fun _ z => nomatch z) rfl fun _ _ _ e => e)
  | t :: zs, xs, b, s, Q, d, hz, hx, h => by
    cases xs with
    | nil => cases hx
    | cons x xs =>
      rw [List.map_cons, List.map_cons] at hx
      obtain ⟨hx1, hx2⟩ := List.cons.inj hx
      rw [List.map_cons, List.forIn_cons]
      have z1 := hz t List.mem_cons_self
      refine wpAny_bind (hf _ _ _ _ _ _ _ z1.1 z1.2 hx1 fun h1 hi hs => ?_)
      refine forIn_draw hf zs xs (up b x) { s with heap := h1 } Q d.tail (fun u hu => (hz u (List.mem_cons_of_mem _ hu)).but hs (d.head u hu) (d.ap u (List.mem_cons_of_mem _ hu) t List.mem_cons_self)) hx2 fun h2 k1 k2 k3 => ?_
      refine h h2 (fun u hu => ?_) (k2.trans hs.1) fun c o hc e => k3 c o (fun u hu => hc u (List.mem_cons_of_mem _ hu)) (hs.extBut _ _ (hc t List.mem_cons_self) e)
      rcases List.mem_cons.mp hu with e | hu
      · subst e
        obtain ⟨o, ho, r⟩ := hi
        exact ⟨o, k3 _ _ (fun u hu e => d.head u hu e.symm) ho, r⟩
      · exact k1 u hu
end
end RZN
namespace RZN
open PySem
open PySem.Sem (wp)
section
variable {prog : Program} {w : World} {A : Around} {E : Value → Shared → Prop} {s : Shared}
abbrev IsT (h : Heap) (T : Addr) (xs : List Value) : Prop := h.get? T = some { cls := .type "tuple", data := .seq xs.toArray }
abbrev itsOf (zs : List Z3) : List Value := zs.map fun t => Value.ref t.1
theorem fold_push : ∀ (xs : List Value) (acc : Array Value), xs.foldl (fun (b : Option PySem.Fin × Array Value) x => (none, b.2.push x)) (none, acc) = (none, acc ++ xs.toArray)
  | [], acc => by simp
  | x :: xs, acc => by rw [List.foldl_cons, fold_push xs]; simp
theorem zipN_item_held {z TI TO T : Addr} {f : Bool} {oT : Obj} {i : Nat} {zs : List Z3} {xs : List Value} {Q : Value → Shared → Prop} (d : ZDis zs) (ne : zs ≠ []) (nz : ∀ t ∈ zs, t.1 ≠ z ∧ t.2.1 ≠ z)
    (hz : IsZipHeld s.heap z TI TO T f) (hT : s.heap.get? T = some oT) (hTI : IsT s.heap TI (itsOf zs)) (hi : ∀ t ∈ zs, ZAt s.heap i t) (hx : zs.map (fun t => t.2.2[i]?) = xs.map some) (hsz : xs.length ≤ sizeLine)
    (hQ : ∀ h', IsZipHeld h' z TI TO T true → (∀ t ∈ zs, h'.IsTupleIter t.1 t.2.1 (i + 1)) → IsT h' s.heap.objs.size xs → h'.objs.size = s.heap.objs.size + 1 →
      (∀ c o, c ≠ z → (∀ t ∈ zs, c ≠ t.1) → s.heap.get? c = some o → h'.get? c = some o) → Q (.ref s.heap.objs.size) { s with heap := h' }) :
    wpAny (model prog w) A (Builtin.«zip.__next__» ⟨[.ref z], []⟩) (fun fin s' => ∃ v, fin = .done (.ret v) ∧ Q v s') E s := by
  have hne : ((itsOf zs).toArray.isEmpty) = false := by
    cases zs with
    | nil => exact absurd rfl ne
    | cons _ _ => simp
  show wpAny _ _ (field (.ref z) 2 >>= _) _ _ _
  refine wpAny_bind (wpAny_field hz rfl (x := .bool false) rfl ?_)
  show wpAny _ _ (field (.ref z) 3 >>= _) _ _ _
  refine wpAny_bind (wpAny_field hz rfl (x := .ref TI) rfl ?_)
  refine wpAny_bind (wpAny_seqItems hTI rfl ?_)
  simp only [hne, Bool.false_eq_true, if_false]
  show wpAny _ _ (Builtin.SmallTypes.ownedTupleIsFree (.ref z) >>= _) _ _ _
  refine wpAny_bind (wpAny_tupleHeld_zip hz hT fun h₁ hz₁ hs₁ => ?_)
  simp only [Bool.false_eq_true, if_false]
  refine wpAny_bind ?_
  rw [← Array.forIn_toList]
  refine forIn_draw (up := fun b x => (none, b.2.push x)) (i := i) (fun it l ys x b s Q h1 h2 h3 q => ?_) zs xs _ _ _ d (fun t ht => (hi t ht).but hs₁ (nz t ht).1 (nz t ht).2) hx fun h2 k1 k2 k3 => ?_
  · refine wpAny_bind (wpAny_holding ?_)
    show wpAny _ _ (Builtin.SmallTypes.nextOf (.ref it) >>= _) _ _ _
    exact wpAny_bind (RZ.nextOf_tuple_item h1 h2 h3 fun h' a1 a2 => wpAny_pure (wpAny_pure (q h' a1 a2)))
  · rw [fold_push, Array.empty_append]
    show wpAny _ _ (newTuple xs.toArray.toList >>= _) _ _ _
    rw [List.toList_toArray]
    refine wpAny_bind (wpAny_newTuple ?_ hsz)
    have e2 : h2.objs.size = s.heap.objs.size := k2.trans hs₁.1
    refine wpAny_pure ⟨_, rfl, ?_⟩
    show Q (.ref h2.objs.size) _
    have hp : IsT (h2.push { cls := .type "tuple", data := .seq xs.toArray }) h2.objs.size xs := Heap.get?_push_size _ rfl
    have hz4 : (h2.push { cls := .type "tuple", data := .seq xs.toArray }).objs.size = h2.objs.size + 1 := Heap.size_push ..
    rw [e2] at hp hz4 ⊢
    exact hQ _ (Heap.get?_push_of_some _ (k3 _ _ (fun t ht e => (nz t ht).1 e.symm) hz₁)) (fun t ht => (k1 t ht).at fun o e => Heap.get?_push_of_some _ e) hp hz4 fun c o c1 c2 e => Heap.get?_push_of_some _ (k3 _ _ c2 (hs₁.extBut _ _ c1 e))
end
end RZN
namespace RZN
open PySem
open PySem.Sem (wp)
section
variable {prog : Program} {w : World} {A : Around} {E : Value → Shared → Prop} {s : Shared}
def setFrom : Array Value → Nat → List Value → Array Value
  | c, _, [] => c
  | c, k, x :: xs => setFrom (c.setIfInBounds k x) (k + 1) xs
theorem setFrom_list : ∀ (xs : List Value) (c : Array Value) (k : Nat), k + xs.length ≤ c.size → (setFrom c k xs).toList = c.toList.take k ++ xs ++ c.toList.drop (k + xs.length)
  | [], c, k, _ => by simp [setFrom]
  | x :: xs, c, k, h => by
    have hk : k < c.toList.length := by rw [Array.length_toList]; simp at h; omega
    rw [setFrom, setFrom_list xs _ _ (by simp at h ⊢; omega), Array.toList_setIfInBounds]
    have e1 : (c.toList.set k x).take (k + 1) = c.toList.take k ++ [x] := by
      rw [List.take_succ, List.take_set_of_le (Nat.le_refl _), List.getElem?_set_self hk]; rfl
    have e2 : (c.toList.set k x).drop (k + 1 + xs.length) = c.toList.drop (k + (x :: xs).length) := by
      rw [List.drop_set_of_lt (by omega)]
      congr 1
      simp
      omega
    rw [e1, e2]
    simp
theorem setFrom_all {xs : List Value} {c : Array Value} (h : c.size = xs.length) : setFrom c 0 xs = xs.toArray := by
  apply Array.ext'
  rw [setFrom_list xs c 0 (by omega), List.take_zero, List.drop_of_length_le (by rw [Array.length_toList]; omega)]
  simp
theorem forIn_drawK {β : Type} {f : Value × Nat → β → Sem (ForInStep β)} {i : Nat} {TO : Addr} {b : β}
    (hf : ∀ (it l : Addr) (xs : Array Value) (x : Value) (k : Nat) (c : Array Value) (s : Shared) (Q : ForInStep β → Shared → Prop), s.heap.IsTupleIter it l i → s.heap.IsTuple l xs → xs[i]? = some x → TO ≠ it → c.size ≤ sizeLine →
      s.heap.get? TO = some { cls := .type "tuple", data := .seq c } →
      (∀ h', h'.IsTupleIter it l (i + 1) → h'.get? TO = some { cls := .type "tuple", data := .seq (c.setIfInBounds k x) } → h'.objs.size = s.heap.objs.size → (∀ a o, a ≠ it → a ≠ TO → s.heap.get? a = some o → h'.get? a = some o) → Q (.yield b) { s with heap := h' }) → wpAny (model prog w) A (f (.ref it, k) b) Q E s) :
    ∀ (zs : List Z3) (xs : List Value) (k : Nat) (c : Array Value) (s : Shared) (Q : β → Shared → Prop), ZDis zs → (∀ t ∈ zs, ZAt s.heap i t) → (∀ t ∈ zs, t.1 ≠ TO ∧ t.2.1 ≠ TO) → zs.map (fun t => t.2.2[i]?) = xs.map some → c.size ≤ sizeLine →
      s.heap.get? TO = some { cls := .type "tuple", data := .seq c } →
      (∀ h', (∀ t ∈ zs, h'.IsTupleIter t.1 t.2.1 (i + 1)) → h'.get? TO = some { cls := .type "tuple", data := .seq (setFrom c k xs) } → h'.objs.size = s.heap.objs.size → (∀ c o, c ≠ TO → (∀ t ∈ zs, c ≠ t.1) → s.heap.get? c = some o → h'.get? c = some o) → Q b { s with heap := h' }) →
      wpAny (model prog w) A (forIn ((zs.map fun t => Value.ref t.1).zipIdx k) b f) Q E s
  | [], xs, k, c, s, Q, _, _, _, hx, _, hT, h => by
    cases xs with
    | cons _ _ => cases hx
    | nil =>
      rw [List.map_nil, List.zipIdx_nil, List.forIn_nil]
      exact wpAny_pure (h s.heap (fun _ z => nomatch z) hT rfl fun _ _ _ _ e => e)
  | t :: zs, xs, k, c, s, Q, d, hz, hn, hx, hc, hT, h => by
    cases xs with
    | nil => cases hx
    | cons x xs =>
      rw [List.map_cons, List.map_cons] at hx
      obtain ⟨hx1, hx2⟩ := List.cons.inj hx
      rw [List.map_cons, List.zipIdx_cons, List.forIn_cons]
      have z1 := hz t List.mem_cons_self
      have n1 := hn t List.mem_cons_self
      refine wpAny_bind (hf _ _ _ _ _ _ _ _ z1.1 z1.2 hx1 (fun e => n1.1 e.symm) hc hT fun h1 hi hT1 hs1 hk => ?_)
      refine forIn_drawK hf zs xs (k + 1) (c.setIfInBounds k x) { s with heap := h1 } Q d.tail (fun u hu => ?_) (fun u hu => hn u (List.mem_cons_of_mem _ hu)) hx2 (by rw [Array.size_setIfInBounds]; exact hc) hT1 fun h2 k1 kT k2 k3 => ?_
      · obtain ⟨⟨o, ho, r⟩, ⟨u2, hu2, q⟩⟩ := hz u (List.mem_cons_of_mem _ hu)
        have n2 := hn u (List.mem_cons_of_mem _ hu)
        exact ⟨⟨o, hk _ _ (d.head u hu) n2.1 ho, r⟩, ⟨u2, hk _ _ (d.ap u (List.mem_cons_of_mem _ hu) t List.mem_cons_self) n2.2 hu2, q⟩⟩
      · refine h h2 (fun u hu => ?_) kT (k2.trans hs1) fun c o cT hc e => k3 c o cT (fun u hu => hc u (List.mem_cons_of_mem _ hu)) (hk _ _ (hc t List.mem_cons_self) cT e)
        rcases List.mem_cons.mp hu with e | hu
        · subst e
          obtain ⟨o, ho, r⟩ := hi
          exact ⟨o, k3 _ _ n1.1 (fun u hu e => d.head u hu e.symm) ho, r⟩
        · exact k1 u hu
end
end RZN
namespace RZN
open PySem
open PySem.Sem (wp)
section
variable {prog : Program} {w : World} {A : Around} {E : Value → Shared → Prop} {s : Shared}
theorem zipN_item_free {z TI TO : Addr} {i : Nat} {zs : List Z3} {xs : List Value} {c : Array Value} {Q : Value → Shared → Prop} (d : ZDis zs) (ne : zs ≠ []) (nz : ∀ t ∈ zs, t.1 ≠ z ∧ t.2.1 ≠ z) (nT : ∀ t ∈ zs, t.1 ≠ TO ∧ t.2.1 ≠ TO) (zT : TO ≠ z)
    (hz : IsZip s.heap z TI TO .none) (hTI : IsT s.heap TI (itsOf zs)) (hTO : s.heap.get? TO = some { cls := .type "tuple", data := .seq c }) (hc : c.size = xs.length) (hi : ∀ t ∈ zs, ZAt s.heap i t) (hx : zs.map (fun t => t.2.2[i]?) = xs.map some) (hsz : xs.length ≤ sizeLine)
    (hQ : ∀ h', IsZip h' z TI TO (rawInt s.heap.objs.size) → (∀ t ∈ zs, h'.IsTupleIter t.1 t.2.1 (i + 1)) → IsT h' s.heap.objs.size xs → h'.objs.size = s.heap.objs.size + 1 →
      (∀ c o, c ≠ z → c ≠ TO → (∀ t ∈ zs, c ≠ t.1) → s.heap.get? c = some o → h'.get? c = some o) → Q (.ref s.heap.objs.size) { s with heap := h' }) :
    wpAny (model prog w) A (Builtin.«zip.__next__» ⟨[.ref z], []⟩) (fun fin s' => ∃ v, fin = .done (.ret v) ∧ Q v s') E s := by
  have hne : ((itsOf zs).toArray.isEmpty) = false := by
    cases zs with
    | nil => exact absurd rfl ne
    | cons _ _ => simp
  show wpAny _ _ (field (.ref z) 2 >>= _) _ _ _
  refine wpAny_bind (wpAny_field hz rfl (x := .bool false) rfl ?_)
  show wpAny _ _ (field (.ref z) 3 >>= _) _ _ _
  refine wpAny_bind (wpAny_field hz rfl (x := .ref TI) rfl ?_)
  refine wpAny_bind (wpAny_seqItems hTI rfl ?_)
  simp only [hne, Bool.false_eq_true, if_false]
  show wpAny _ _ (Builtin.SmallTypes.ownedTupleIsFree (.ref z) >>= _) _ _ _
  refine wpAny_bind ?_
  unfold Builtin.SmallTypes.ownedTupleIsFree
  refine wpAny_bind (wpAny_field hz rfl (x := .none) rfl (wpAny_pure ?_))
  simp only [if_true]
  refine wpAny_bind (wpAny_rule ?_)
  refine wpAny_bind (wpAny_field hz rfl (x := .ref TO) rfl ?_)
  refine wpAny_bind (wpAny_setField_rec hz (by simp) fun g0 hz0 hs0 => ?_)
  replace hz0 : IsZip g0 z TI TO .ellipsis := hz0
  replace hs0 : Heap.SameBut z s.heap g0 := hs0
  refine wpAny_bind ?_
  refine forIn_drawK (TO := TO) (i := i) (fun it l ys x k c s Q h1 h2 h3 h4 h5 h6 q => ?_) zs xs 0 c _ _ d (fun t ht => (hi t ht).but hs0 (nz t ht).1 (nz t ht).2) nT hx (by omega) (hs0.extBut _ _ zT hTO) fun h2 k1 kT k2 k3 => ?_
  · refine wpAny_bind (wpAny_onRaise ?_)
    show wpAny _ _ (Builtin.SmallTypes.nextOf (.ref it) >>= _) _ _ _
    refine wpAny_bind (RZ.nextOf_tuple_item h1 h2 h3 fun h' a1 a2 => wpAny_pure ?_)
    have hU := a2.extBut _ _ h4 h6
    refine wpAny_bind (wpAny_seqItems (s := { s with heap := h' }) hU rfl ?_)
    refine wpAny_bind (wpAny_updateSeq (s := { s with heap := h' }) hU rfl ?_ h5 (by rw [Array.size_setIfInBounds]; omega))
    refine wpAny_bind (wpAny_letGo (wpAny_pure ?_))
    have hs1 : Heap.SameBut TO h' (h'.update TO (Obj.mapSeq fun a => a.setIfInBounds k x)) := Heap.SameBut.update ..
    refine q _ ?_ ?_ (hs1.1.trans a2.1) fun a o n1 n2 e => hs1.extBut _ _ n2 (a2.extBut _ _ n1 e)
    · obtain ⟨o, ho, r⟩ := a1
      exact ⟨o, hs1.extBut _ _ (fun e => h4 e.symm) ho, r⟩
    · rw [Heap.get?_update_self _ hU rfl]
      simp [Obj.mapSeq]
  · rw [setFrom_all hc] at kT
    show wpAny _ _ (seqItems? (.ref TO) >>= _) _ _ _
    refine wpAny_bind (wpAny_seqItems (s := { s with heap := h2 }) kT rfl ?_)
    show wpAny _ _ (newTuple xs.toArray.toList >>= _) _ _ _
    rw [List.toList_toArray]
    refine wpAny_bind (wpAny_newTuple ?_ hsz)
    have e2 : h2.objs.size = s.heap.objs.size := k2.trans hs0.1
    have hzz : IsZip h2 z TI TO .ellipsis := k3 _ _ zT.symm (fun t ht e => (nz t ht).1 e.symm) hz0
    have hzlt : z < h2.objs.size := Heap.lt_size hzz
    show wpAny _ _ (Builtin.SmallTypes.ownedTupleHandOut (.ref z) (.ref h2.objs.size) >>= _) _ _ { s with heap := h2.push { cls := .type "tuple", data := .seq xs.toArray } }
    refine wpAny_bind ?_
    unfold Builtin.SmallTypes.ownedTupleHandOut
    have hz₆ : IsZip (h2.push { cls := .type "tuple", data := .seq xs.toArray }) z TI TO .ellipsis := Heap.get?_push_of_some _ hzz
    refine wpAny_bind (wpAny_setField_rec hz₆ (by simp) fun h₇ hz₇ hs₇ => ?_)
    replace hz₇ : IsZip h₇ z TI TO (rawInt h2.objs.size) := hz₇
    refine wpAny_setField_rec hz₇ (by simp) fun h₈ hz₈ hs₈ => ?_
    replace hz₈ : IsZip h₈ z TI TO (rawInt h2.objs.size) := hz₈
    replace hs₇ : Heap.SameBut z (h2.push { cls := .type "tuple", data := .seq xs.toArray }) h₇ := hs₇
    replace hs₈ : Heap.SameBut z h₇ h₈ := hs₈
    have up : ∀ c o, c ≠ z → h2.get? c = some o → h₈.get? c = some o := fun c o c1 e => hs₈.extBut _ _ c1 (hs₇.extBut _ _ c1 (Heap.get?_push_of_some _ e))
    have hT₈ : IsT h₈ h2.objs.size xs := hs₈.extBut _ _ (Nat.ne_of_gt hzlt) (hs₇.extBut _ _ (Nat.ne_of_gt hzlt) (Heap.get?_push_size _ rfl))
    have hz8 : h₈.objs.size = h2.objs.size + 1 := by rw [hs₈.1, hs₇.1, Heap.size_push]
    rw [e2] at hz₈ hT₈ hz8
    refine wpAny_pure ⟨_, rfl, ?_⟩
    show Q (.ref h2.objs.size) _
    rw [e2]
    exact hQ h₈ hz₈ (fun t ht => by obtain ⟨o, ho, r⟩ := k1 t ht; exact ⟨o, up _ _ (nz t ht).1 ho, r⟩) hT₈ hz8 fun c o c1 c2 c3 e => up c o c1 (k3 _ _ c2 c3 (hs0.extBut _ _ c1 e))
end
end RZN
namespace RZN
open PySem
open PySem.Sem (wp)
section
variable {prog : Program} {w : World} {A : Around} {E : Value → Shared → Prop} {s : Shared}
theorem zipN_end_held {z TI TO T : Addr} {f : Bool} {oT : Obj} {i : Nat} {t : Z3} {zs : List Z3} {Q : Fin → Shared → Prop} (hh : A.handled = none) (nz : t.1 ≠ z ∧ t.2.1 ≠ z)
    (hz : IsZipHeld s.heap z TI TO T f) (hT : s.heap.get? T = some oT) (hTI : IsT s.heap TI (itsOf (t :: zs))) (hi : ZAt s.heap i t) (hx : t.2.2[i]? = none)
    (hE : ∀ h' e, (∀ c o, c ≠ z → c ≠ t.1 → s.heap.get? c = some o → h'.get? c = some o) → (∃ o, h'.get? e = some o ∧ o.cls = .type "StopIteration") → E (.ref e) { s with heap := h' }) :
    wpAny (model prog w) A (Builtin.«zip.__next__» ⟨[.ref z], []⟩) Q E s := by
  have hne : ((itsOf (t :: zs)).toArray.isEmpty) = false := by simp
  show wpAny _ _ (field (.ref z) 2 >>= _) _ _ _
  refine wpAny_bind (wpAny_field hz rfl (x := .bool false) rfl ?_)
  show wpAny _ _ (field (.ref z) 3 >>= _) _ _ _
  refine wpAny_bind (wpAny_field hz rfl (x := .ref TI) rfl ?_)
  refine wpAny_bind (wpAny_seqItems hTI rfl ?_)
  simp only [hne, Bool.false_eq_true, if_false]
  show wpAny _ _ (Builtin.SmallTypes.ownedTupleIsFree (.ref z) >>= _) _ _ _
  refine wpAny_bind (wpAny_tupleHeld_zip hz hT fun h₁ hz₁ hs₁ => ?_)
  simp only [Bool.false_eq_true, if_false]
  refine wpAny_bind ?_
  rw [← Array.forIn_toList]
  show wpAny _ _ (forIn (Value.ref t.1 :: itsOf zs) _ _) _ _ _
  rw [List.forIn_cons]
  refine wpAny_bind (wpAny_bind (wpAny_holding ?_))
  show wpAny _ _ (Builtin.SmallTypes.nextOf (.ref t.1) >>= _) _ _ _
  have z1 := hi.but hs₁ nz.1 nz.2
  exact wpAny_bind (RZ.nextOf_tuple_end (s := { s with heap := h₁ }) hh z1.1 z1.2 hx fun h₂ e hs₂ he => hE h₂ e (fun c o c1 c2 x => hs₂ _ _ c2 (hs₁.extBut _ _ c1 x)) he)
theorem zipN_end_free {z TI TO : Addr} {i : Nat} {t : Z3} {zs : List Z3} {c : Array Value} {Q : Fin → Shared → Prop} (hh : A.handled = none) (nz : t.1 ≠ z ∧ t.2.1 ≠ z)
    (hz : IsZip s.heap z TI TO .none) (hTI : IsT s.heap TI (itsOf (t :: zs))) (hi : ZAt s.heap i t) (hx : t.2.2[i]? = none)
    (hE : ∀ h' e, (∀ c o, c ≠ z → c ≠ t.1 → s.heap.get? c = some o → h'.get? c = some o) → (∃ o, h'.get? e = some o ∧ o.cls = .type "StopIteration") → E (.ref e) { s with heap := h' }) :
    wpAny (model prog w) A (Builtin.«zip.__next__» ⟨[.ref z], []⟩) Q E s := by
  have hne : ((itsOf (t :: zs)).toArray.isEmpty) = false := by simp
  show wpAny _ _ (field (.ref z) 2 >>= _) _ _ _
  refine wpAny_bind (wpAny_field hz rfl (x := .bool false) rfl ?_)
  show wpAny _ _ (field (.ref z) 3 >>= _) _ _ _
  refine wpAny_bind (wpAny_field hz rfl (x := .ref TI) rfl ?_)
  refine wpAny_bind (wpAny_seqItems hTI rfl ?_)
  simp only [hne, Bool.false_eq_true, if_false]
  show wpAny _ _ (Builtin.SmallTypes.ownedTupleIsFree (.ref z) >>= _) _ _ _
  refine wpAny_bind ?_
  unfold Builtin.SmallTypes.ownedTupleIsFree
  refine wpAny_bind (wpAny_field hz rfl (x := .none) rfl (wpAny_pure ?_))
  simp only [if_true]
  refine wpAny_bind (wpAny_rule ?_)
  refine wpAny_bind (wpAny_field hz rfl (x := .ref TO) rfl ?_)
  refine wpAny_bind (wpAny_setField_rec hz (by simp) fun g0 hz0 hs0 => ?_)
  replace hz0 : IsZip g0 z TI TO .ellipsis := hz0
  replace hs0 : Heap.SameBut z s.heap g0 := hs0
  refine wpAny_bind ?_
  show wpAny _ _ (forIn ((Value.ref t.1, 0) :: (itsOf zs).zipIdx 1) _ _) _ _ _
  rw [List.forIn_cons]
  refine wpAny_bind (wpAny_bind (wpAny_onRaise ?_))
  show wpAny _ _ (Builtin.SmallTypes.nextOf (.ref t.1) >>= _) _ _ _
  have z1 := hi.but hs0 nz.1 nz.2
  refine wpAny_bind (RZ.nextOf_tuple_end (s := { s with heap := g0 }) hh z1.1 z1.2 hx fun h₂ e hs₂ he => ?_)
  have hz2 : IsZip h₂ z TI TO .ellipsis := hs₂ _ _ nz.1.symm hz0
  refine wpAny_setField_rec (s := { s with heap := h₂ }) hz2 (by simp) fun h₃ hz₃ hs₃ => ?_
  replace hs₃ : Heap.SameBut z h₂ h₃ := hs₃
  obtain ⟨o, ho, hcl⟩ := he
  refine hE h₃ e (fun c o c1 c2 x => hs₃.extBut _ _ c1 (hs₂ _ _ c2 (hs0.extBut _ _ c1 x))) ⟨o, hs₃.extBut _ _ (fun q => ?_) ho, hcl⟩
  subst q
  rw [hz2] at ho
  cases ho
  have h2 : (Value.type "zip") = .type "StopIteration" := hcl
  injection h2 with h3
  exact absurd h3 (by decide)
end
end RZN
namespace RZN
open PySem
open PySem.Sem (wp)
section
variable {prog : Program} {w : World} {A : Around} {E : Value → Shared → Prop} {s : Shared}
/-- the zip z before its draw i: nothing was handed out, or the tuple handed out is still there -/
def ZReady (h : Heap) (z TI TO : Addr) (m : Nat) : Prop :=
  (IsZip h z TI TO .none ∧ ∃ c : Array Value, c.size = m ∧ h.get? TO = some { cls := .type "tuple", data := .seq c }) ∨ ∃ T f oT, IsZipHeld h z TI TO T f ∧ h.get? T = some oT
theorem ZReady.typ {h : Heap} {z TI TO : Addr} {m : Nat} (r : ZReady h z TI TO m) : ∃ o, h.get? z = some o ∧ o.cls = .type "zip" := by
  rcases r with ⟨h, _⟩ | ⟨T, f, oT, h, _⟩
  · exact ⟨_, h, rfl⟩
  · exact ⟨_, h, rfl⟩
theorem zipN_item {z TI TO : Addr} {i : Nat} {zs : List Z3} {xs : List Value} {Q : Option Value → Shared → Prop} (d : ZDis zs) (ne : zs ≠ []) (nz : ∀ t ∈ zs, t.1 ≠ z ∧ t.2.1 ≠ z) (nT : ∀ t ∈ zs, t.1 ≠ TO ∧ t.2.1 ≠ TO) (zT : TO ≠ z)
    (hr : ZReady s.heap z TI TO xs.length) (hTI : IsT s.heap TI (itsOf zs)) (hi : ∀ t ∈ zs, ZAt s.heap i t) (hx : zs.map (fun t => t.2.2[i]?) = xs.map some) (hsz : xs.length ≤ sizeLine)
    (hQ : ∀ h', ZReady h' z TI TO xs.length → (∀ t ∈ zs, h'.IsTupleIter t.1 t.2.1 (i + 1)) → IsT h' s.heap.objs.size xs → h'.objs.size = s.heap.objs.size + 1 →
      (∀ c o, c ≠ z → c ≠ TO → (∀ t ∈ zs, c ≠ t.1) → s.heap.get? c = some o → h'.get? c = some o) → Q (some (.ref s.heap.objs.size)) { s with heap := h' }) :
    wpAny (model prog w) A (pyNext (.ref z)) Q E s := by
  have hT : s.TypeIs (.ref z) "zip" := hr.typ
  unfold pyNext
  refine wpAny_bind (wpAny_attempt (wpAny_callSpecial?_slot (name := Str.ofString "__next__") hT F.slot_zip_next (wpAny_call_entry F.slot_zip_next hT F.entry_zip_next ?_ (F.args_zip_next_1 _))))
  rcases hr with ⟨hz, c, hc, hTO⟩ | ⟨T, f, oT, hz, hT1⟩
  · exact zipN_item_free d ne nz nT zT hz hTI hTO hc hi hx hsz fun h' a1 a2 a3 a4 a5 => wpAny_pure (hQ h' (.inr ⟨_, false, _, a1, a3⟩) a2 a3 a4 a5)
  · exact zipN_item_held d ne nz hz hT1 hTI hi hx hsz fun h' a1 a2 a3 a4 a5 => by
      by_cases e : T = z ∨ ∃ t ∈ zs, T = t.1
      · have : ∃ o, h'.get? T = some o := by
          rcases e with e | ⟨t, ht, e⟩
          · exact ⟨_, (congrArg h'.get? e).trans a1⟩
          · obtain ⟨o, ho, _⟩ := a2 t ht
            exact ⟨o, (congrArg h'.get? e).trans ho⟩
        obtain ⟨o, ho⟩ := this
        exact wpAny_pure (hQ h' (.inr ⟨_, true, _, a1, ho⟩) a2 a3 a4 fun c o c1 _ c3 x => a5 c o c1 c3 x)
      · have k := a5 T oT (fun q => e (.inl q)) (fun t ht q => e (.inr ⟨t, ht, q⟩)) hT1
        exact wpAny_pure (hQ h' (.inr ⟨_, true, _, a1, k⟩) a2 a3 a4 fun c o c1 _ c3 x => a5 c o c1 c3 x)
theorem zipN_done {z TI TO : Addr} {i m : Nat} {t : Z3} {zs : List Z3} {Q : Option Value → Shared → Prop} (hh : A.handled = none) (nz : t.1 ≠ z ∧ t.2.1 ≠ z)
    (hr : ZReady s.heap z TI TO m) (hTI : IsT s.heap TI (itsOf (t :: zs))) (hi : ZAt s.heap i t) (hx : t.2.2[i]? = none)
    (hQ : ∀ h', (∀ c o, c ≠ z → c ≠ t.1 → s.heap.get? c = some o → h'.get? c = some o) → Q none { s with heap := h' }) :
    wpAny (model prog w) A (pyNext (.ref z)) Q E s := by
  have hT : s.TypeIs (.ref z) "zip" := hr.typ
  unfold pyNext
  refine wpAny_bind (wpAny_attempt (wpAny_callSpecial?_slot (name := Str.ofString "__next__") hT F.slot_zip_next (wpAny_call_entry F.slot_zip_next hT F.entry_zip_next ?_ (F.args_zip_next_1 _))))
  rcases hr with ⟨hz, c, hc, hTO⟩ | ⟨T, f, oT, hz, hT1⟩
  · refine zipN_end_free (c := c) hh nz hz hTI hi hx fun h' e hk he => ?_
    obtain ⟨o, ho, hc⟩ := he
    refine wpAny_bind (wpAny_isInstance (T := "StopIteration") (b := true) ⟨o, ho, hc⟩ isSubtype_stop ?_)
    exact wpAny_pure (hQ _ hk)
  · refine zipN_end_held hh nz hz hT1 hTI hi hx fun h' e hk he => ?_
    obtain ⟨o, ho, hc⟩ := he
    refine wpAny_bind (wpAny_isInstance (T := "StopIteration") (b := true) ⟨o, ho, hc⟩ isSubtype_stop ?_)
    exact wpAny_pure (hQ _ hk)
end
end RZN
set_option Elab.async false
set_option linter.all false
set_option maxRecDepth 100000
set_option maxHeartbeats 2000000
namespace RZN
open PySem
theorem typeCall_zip (vs : List Value) : checkTypeCall "zip" ⟨vs, []⟩ = pure () := by kernel_rfl
theorem newCall_zip : ∀ (vs : List Value), checkBuiltinCall "zip.__new__" ⟨.type "zip" :: vs, []⟩ = pure ()
  | [] => by kernel_rfl
  | [a] => by kernel_rfl
  | a :: b :: r => by kernel_rfl
theorem init_zip (obj : Value) (vs : List Value) : argsOk "object.__init__" ⟨obj :: vs, []⟩ := by unfold argsOk; kernel_rfl
end RZN
namespace RZN
open PySem
/-- iterators laid behind each other -/
def pushAll (h : Heap) : List Addr → Heap
  | [] => h
  | l :: r => pushAll (h.push { cls := .type "tuple_iterator", data := .fields #[.ref l, .int 0 0] }) r
def itAddrs (n : Nat) : List Addr → List Value
  | [] => []
  | l :: r => .ref n :: itAddrs (n + 1) r
def zipHeap (h : Heap) (ls : List Addr) : Heap :=
  (((pushAll h ls).push { cls := .type "tuple", data := .seq (itAddrs h.objs.size ls).toArray }).push { cls := .type "tuple", data := .seq ((itAddrs h.objs.size ls).map fun _ => Value.none).toArray }).push
    { cls := .type "zip", data := .fields #[.none, .bool false, .bool false, .ref (pushAll h ls).objs.size, .ref ((pushAll h ls).objs.size + 1)] }
theorem wpAny_iters {prog : Program} {w : World} {A : Around} {E : Value → Shared → Prop} : ∀ (ls : List (Addr × Array Value)) (acc : Array Value) (s : Shared) (Q : Array Value → Shared → Prop), (∀ l ∈ ls, s.heap.IsTuple l.1 l.2) →
    Q (acc ++ (itAddrs s.heap.objs.size (ls.map (·.1))).toArray) { s with heap := pushAll s.heap (ls.map (·.1)) } →
    wpAny (model prog w) A (forIn (ls.map fun l => Value.ref l.1) acc fun x its => do
      let y ← holding its.toList (pyIter x)
      pure (ForInStep.yield (its.push y))) Q E s
  | [], acc, s, Q, _, h => by
    rw [List.map_nil, List.forIn_nil]
    refine wpAny_pure ?_
    simpa [itAddrs, pushAll] using h
  | l :: ls, acc, s, Q, hl, h => by
    rw [List.map_cons, List.forIn_cons]
    refine wpAny_bind (wpAny_bind (wpAny_holding (wpAny_pyIter_tuple (hl l List.mem_cons_self) (wpAny_pure ?_))))
    refine wpAny_iters ls _ _ Q (fun k hk => Heap.IsTuple.push (hl k (List.mem_cons_of_mem _ hk)) _) ?_
    have e : ((s.heap.push { cls := .type "tuple_iterator", data := .fields #[.ref l.1, .int 0 0] }).objs.size) = s.heap.objs.size + 1 := Heap.size_push ..
    rw [e]
    have e2 : acc.push (Value.ref s.heap.objs.size) ++ (itAddrs (s.heap.objs.size + 1) (ls.map (·.1))).toArray = acc ++ (itAddrs s.heap.objs.size ((l :: ls).map (·.1))).toArray := by
      apply Array.ext'; simp [itAddrs]
    rw [e2]
    exact h
theorem wpAny_iterAll {prog : Program} {w : World} {A : Around} {E : Value → Shared → Prop} {s : Shared} {ls : List (Addr × Array Value)} {Q : List Value → Shared → Prop} (hl : ∀ l ∈ ls, s.heap.IsTuple l.1 l.2)
    (h : Q (itAddrs s.heap.objs.size (ls.map (·.1))) { s with heap := pushAll s.heap (ls.map (·.1)) }) :
    wpAny (model prog w) A (Builtin.SmallTypes.iterAll (ls.map fun l => Value.ref l.1)) Q E s := by
  unfold Builtin.SmallTypes.iterAll
  refine wpAny_bind (wpAny_iters ls #[] s _ hl (wpAny_pure ?_))
  simpa using h
theorem itAddrs_len : ∀ (ls : List Addr) (n : Nat), (itAddrs n ls).length = ls.length
  | [], _ => rfl
  | l :: r, n => by rw [itAddrs, List.length_cons, itAddrs_len r, List.length_cons]
theorem meets_zip_newN (ls : List (Addr × Array Value)) (hsz : ls.length ≤ sizeLine) :
    Meets (Builtin.«zip.__new__» ⟨.type "zip" :: ls.map (fun l => Value.ref l.1), []⟩) (fun _ R s => (∀ l ∈ ls, s.heap.IsTuple l.1 l.2) ∧
      R (.ok (.ret (.ref ((pushAll s.heap (ls.map (·.1))).objs.size + 2)))) { s with heap := zipHeap s.heap (ls.map (·.1)) }) :=
  .of_wp fun prog w A R s h => by
    obtain ⟨hp, g, d, tk, os⟩ := s; obtain ⟨hl, h⟩ := h
    have hsub := sub_zip
    have hlen : (itAddrs hp.objs.size (ls.map (·.1))).length ≤ sizeLine := by rw [itAddrs_len, List.length_map]; exact hsz
    have q1 : ∀ {A' : Around} {E : Value → Shared → Prop} {Q : List Value → Shared → Prop}, Q (itAddrs hp.objs.size (ls.map (·.1))) ⟨pushAll hp (ls.map (·.1)), g, d, tk, os⟩ → wpAny (model prog w) A' (Builtin.SmallTypes.iterAll (ls.map fun l => Value.ref l.1)) Q E ⟨hp, g, d, tk, os⟩ :=
      fun q => wpAny_iterAll (s := ⟨hp, g, d, tk, os⟩) hl q
    have q2 : ∀ {A' : Around} {E : Value → Shared → Prop} {Q : Value → Shared → Prop} {hh : Heap}, Q (.ref hh.objs.size) ⟨hh.push { cls := .type "tuple", data := .seq (itAddrs hp.objs.size (ls.map (·.1))).toArray }, g, d, tk, os⟩ → wpAny (model prog w) A' (newTuple (itAddrs hp.objs.size (ls.map (·.1)))) Q E ⟨hh, g, d, tk, os⟩ :=
      fun q => wpAny_newTuple q hlen
    have q3 : ∀ {A' : Around} {E : Value → Shared → Prop} {Q : Value → Shared → Prop} {hh : Heap}, Q (.ref hh.objs.size) ⟨hh.push { cls := .type "tuple", data := .seq ((itAddrs hp.objs.size (ls.map (·.1))).map fun _ => Value.none).toArray }, g, d, tk, os⟩ → wpAny (model prog w) A' (newTuple ((itAddrs hp.objs.size (ls.map (·.1))).map fun _ => Value.none)) Q E ⟨hh, g, d, tk, os⟩ :=
      fun q => wpAny_newTuple q (by rw [List.length_map]; exact hlen)
    wp_walk using q1, q2, q3
    refine ⟨_, rfl, ?_⟩
    have z1 : ∀ (X : Heap) (o : Obj), (X.push o).objs.size = X.objs.size + 1 := fun X o => Heap.size_push ..
    rw [z1, z1]
    exact h
end RZN
namespace RZN
open PySem
theorem size_pushAll : ∀ (ls : List Addr) (h : Heap), (pushAll h ls).objs.size = h.objs.size + ls.length
  | [], h => rfl
  | l :: r, h => by rw [pushAll, size_pushAll r, Heap.size_push, List.length_cons]; omega
theorem get_pushAll : ∀ (ls : List Addr) (h : Heap) {c : Addr} {o : Obj}, h.get? c = some o → (pushAll h ls).get? c = some o
  | [], h, c, o, e => e
  | l :: r, h, c, o, e => get_pushAll r _ (Heap.get?_push_of_some _ e)
theorem iter_pushAll : ∀ (ls : List Addr) (h : Heap) {j : Nat} {l : Addr}, ls[j]? = some l → (pushAll h ls).get? (h.objs.size + j) = some { cls := .type "tuple_iterator", data := .fields #[.ref l, .int 0 0] }
  | [], h, j, l, e => by simp at e
  | k :: r, h, 0, l, e => by
    cases e
    exact get_pushAll r _ (Heap.get?_push_size _ rfl)
  | k :: r, h, j + 1, l, e => by
    have := iter_pushAll r (h.push { cls := .type "tuple_iterator", data := .fields #[.ref k, .int 0 0] }) (j := j) (l := l) (by simpa using e)
    rw [Heap.size_push] at this
    rw [pushAll, show h.objs.size + (j + 1) = h.objs.size + 1 + j by omega]
    exact this
theorem call_zipN {prog : Program} {w : World} {A : Around} {E : Value → Shared → Prop} {s : Shared} {ls : List (Addr × Array Value)} {Q : Value → Shared → Prop} (hl : ∀ l ∈ ls, s.heap.IsTuple l.1 l.2) (hsz : ls.length ≤ sizeLine)
    (h : Q (.ref ((pushAll s.heap (ls.map (·.1))).objs.size + 2)) { s with heap := zipHeap s.heap (ls.map (·.1)) }) : wpAny (model prog w) A (call (.type "zip") (ls.map fun l => Value.ref l.1)) Q E s := by
  refine callType_new F.called_zip (by decide) (typeCall_zip _) (newCall_zip _) (fun obj => init_zip obj _) F.entry_zip_new (meets_zip_newN ls hsz) ⟨hl, ?_⟩
  have z1 : ∀ (X : Heap) (o : Obj), (X.push o).objs.size = X.objs.size + 1 := fun X o => Heap.size_push ..
  have g : (zipHeap s.heap (ls.map (·.1))).get? ((pushAll s.heap (ls.map (·.1))).objs.size + 2) = some { cls := .type "zip", data := .fields #[.none, .bool false, .bool false, .ref (pushAll s.heap (ls.map (·.1))).objs.size, .ref ((pushAll s.heap (ls.map (·.1))).objs.size + 1)] } := by
    have : (zipHeap s.heap (ls.map (·.1))).get? (((pushAll s.heap (ls.map (·.1))).push { cls := .type "tuple", data := .seq (itAddrs s.heap.objs.size (ls.map (·.1))).toArray }).push { cls := .type "tuple", data := .seq ((itAddrs s.heap.objs.size (ls.map (·.1))).map fun _ => Value.none).toArray }).objs.size = some { cls := .type "zip", data := .fields #[.none, .bool false, .bool false, .ref (pushAll s.heap (ls.map (·.1))).objs.size, .ref ((pushAll s.heap (ls.map (·.1))).objs.size + 1)] } := Heap.get?_push_size _ rfl
    rw [z1, z1] at this
    exact this
  exact ⟨⟨_, g, rfl⟩, h⟩
end RZN
set_option Elab.async false
set_option linter.all false
set_option maxRecDepth 100000
set_option maxHeartbeats 2000000
/-! tuple(z) of a zip of any number of tuples: the run of draws -/
namespace RZN
open PySem
open PySem.Sem (wp)
namespace F
theorem zip_no_len : typeLookup (.type "zip") "__len__" = pure none := by rw [typeLookup_type, builtinLookup_eq_fast]; kernel_rfl
theorem zip_no_hint : typeLookup (.type "zip") "__length_hint__" = pure none := by rw [typeLookup_type, builtinLookup_eq_fast]; kernel_rfl
end F
def rowAt (zs : List Z3) (i : Nat) : List Value := zs.map fun t => t.2.2.getD i .none
/-- what stays while the zip is drawn -/
structure ZSt (h : Heap) (z TI TO : Addr) (zs : List Z3) (i : Nat) : Prop where
  rd : ZReady h z TI TO zs.length
  ti : IsT h TI (itsOf zs)
  at_ : ∀ t ∈ zs, ZAt h i t
structure ZApartN (z TI TO : Addr) (zs : List Z3) : Prop where
  d : ZDis zs
  ne : zs ≠ []
  nz : ∀ t ∈ zs, t.1 ≠ z ∧ t.2.1 ≠ z
  nT : ∀ t ∈ zs, t.1 ≠ TO ∧ t.2.1 ≠ TO
  zT : TO ≠ z
  tz : TI ≠ z
  tT : TI ≠ TO
  ti : ∀ t ∈ zs, TI ≠ t.1
/-- the addresses that the draws write to -/
def Wr (z TO : Addr) (zs : List Z3) (c : Addr) : Prop := c = z ∨ c = TO ∨ ∃ t ∈ zs, c = t.1
theorem ZSt.keep {h h' : Heap} {z TI TO : Addr} {zs : List Z3} {i : Nat} (x : ZSt h z TI TO zs i) (k : ∀ c o, h.get? c = some o → h'.get? c = some o) : ZSt h' z TI TO zs i where
  rd := by
    rcases x.rd with ⟨h1, c, hc, h2⟩ | ⟨T, f, oT, h1, h2⟩
    · exact .inl ⟨k _ _ h1, c, hc, k _ _ h2⟩
    · exact .inr ⟨T, f, oT, k _ _ h1, k _ _ h2⟩
  ti := k _ _ x.ti
  at_ := fun t ht => ⟨(x.at_ t ht).1.at fun o e => k _ o e, (x.at_ t ht).2.at fun o e => k _ o e⟩
/-- an object elsewhere is written -/
theorem ZSt.keepBut {h h' : Heap} {z TI TO S : Addr} {zs : List Z3} {i : Nat} (x : ZSt h z TI TO zs i) (k : ∀ c o, c ≠ S → h.get? c = some o → h'.get? c = some o) (k2 : ∀ o, h.get? S = some o → ∃ o', h'.get? S = some o') (s1 : S ≠ z) (s2 : S ≠ TO) (s3 : S ≠ TI) (s4 : ∀ t ∈ zs, S ≠ t.1 ∧ S ≠ t.2.1) : ZSt h' z TI TO zs i where
  rd := by
    rcases x.rd with ⟨h1, c, hc, h2⟩ | ⟨T, f, oT, h1, h2⟩
    · exact .inl ⟨k _ _ (Ne.symm s1) h1, c, hc, k _ _ (Ne.symm s2) h2⟩
    · by_cases e : T = S
      · subst e
        obtain ⟨o', h3⟩ := k2 _ h2
        exact .inr ⟨T, f, o', k _ _ (Ne.symm s1) h1, h3⟩
      · exact .inr ⟨T, f, oT, k _ _ (Ne.symm s1) h1, k _ _ e h2⟩
  ti := k _ _ (Ne.symm s3) x.ti
  at_ := fun t ht => ⟨(x.at_ t ht).1.at fun o e => k _ o (Ne.symm (s4 t ht).1) e, (x.at_ t ht).2.at fun o e => k _ o (Ne.symm (s4 t ht).2) e⟩
section
variable {prog : Program} {w : World} {A : Around} {E : Value → Shared → Prop} {s : Shared}
/-- one draw -/
theorem z_item {z TI TO : Addr} {zs : List Z3} {i n : Nat} {Q : Option Value → Shared → Prop} (a : ZApartN z TI TO zs) (hn : ∀ t ∈ zs, t.2.2.size = n) (hz : zs.length ≤ sizeLine) (x : ZSt s.heap z TI TO zs i) (hi : i < n)
    (hQ : ∀ h', ZSt h' z TI TO zs (i + 1) → IsT h' s.heap.objs.size (rowAt zs i) → h'.objs.size = s.heap.objs.size + 1 → (∀ c o, ¬ Wr z TO zs c → s.heap.get? c = some o → h'.get? c = some o) → Q (some (.ref s.heap.objs.size)) { s with heap := h' }) :
    wpAny (model prog w) A (pyNext (.ref z)) Q E s := by
  have hl : (rowAt zs i).length = zs.length := by unfold rowAt; rw [List.length_map]
  refine zipN_item (i := i) a.d a.ne a.nz a.nT a.zT (by rw [hl]; exact x.rd) x.ti x.at_ (xs := rowAt zs i) ?_ (by rw [hl]; exact hz) fun h' h1 h2 h3 h4 h5 => ?_
  · unfold rowAt
    rw [List.map_map]
    refine List.map_congr_left fun t ht => ?_
    have : i < t.2.2.size := by rw [hn t ht]; exact hi
    show t.2.2[i]? = some (t.2.2.getD i .none)
    rw [Array.getElem?_eq_getElem this, Array.getD_eq_getD_getElem?, Array.getElem?_eq_getElem this]
    rfl
  · rw [hl] at h1
    refine hQ h' ⟨h1, h5 _ _ a.tz a.tT a.ti x.ti, fun t ht => ⟨h2 t ht, ?_⟩⟩ h3 h4 fun c o hc e => h5 c o (fun q => hc (.inl q)) (fun q => hc (.inr (.inl q))) (fun t ht q => hc (.inr (.inr ⟨t, ht, q⟩))) e
    obtain ⟨o, ho, r⟩ := (x.at_ t ht).2
    exact ⟨o, h5 _ _ (a.nz t ht).2 (a.nT t ht).2 (fun u hu => a.d.ap t ht u hu) ho, r⟩
theorem z_done {z TI TO : Addr} {zs : List Z3} {n : Nat} {Q : Option Value → Shared → Prop} (hh : A.handled = none) (a : ZApartN z TI TO zs) (hn : ∀ t ∈ zs, t.2.2.size = n) (x : ZSt s.heap z TI TO zs n)
    (hQ : ∀ h', (∀ c o, ¬ Wr z TO zs c → s.heap.get? c = some o → h'.get? c = some o) → Q none { s with heap := h' }) :
    wpAny (model prog w) A (pyNext (.ref z)) Q E s := by
  cases zs with
  | nil => exact absurd rfl a.ne
  | cons t zs =>
    have ht := List.mem_cons_self (a := t) (l := zs)
    refine zipN_done (i := n) (m := (t :: zs).length) hh (a.nz t ht) x.rd x.ti (x.at_ t ht) (by rw [Array.getElem?_eq_none]; rw [hn t ht]; exact Nat.le_refl _) fun h' h1 => hQ h' fun c o hc e => h1 c o (fun q => hc (.inl q)) (fun q => hc (.inr (.inr ⟨t, ht, q⟩))) e
/-- the tuples that were drawn -/
def Rows (h : Heap) (B : Nat) (zs : List Z3) (acc : Array Value) (i : Nat) : Prop := ∃ Ts : List Addr, acc = (Ts.map Value.ref).toArray ∧ Ts.length = i ∧ Ts.Nodup ∧ ∀ j T, Ts[j]? = some T → IsT h T (rowAt zs j) ∧ B ≤ T
theorem Rows.size {h : Heap} {B : Nat} {zs : List Z3} {acc : Array Value} {i : Nat} (r : Rows h B zs acc i) : acc.size = i := by
  obtain ⟨Ts, rfl, hl, _⟩ := r
  simp [hl]
theorem Rows.keep {h h' : Heap} {B : Nat} {zs : List Z3} {acc : Array Value} {i : Nat} (r : Rows h B zs acc i) (k : ∀ c o, B ≤ c → h.get? c = some o → h'.get? c = some o) : Rows h' B zs acc i := by
  obtain ⟨Ts, e, hl, nd, x⟩ := r
  exact ⟨Ts, e, hl, nd, fun j T ht => let ⟨a, b⟩ := x j T ht; ⟨k _ _ b a, b⟩⟩
theorem Rows.push {h : Heap} {B : Nat} {zs : List Z3} {acc : Array Value} {i : Nat} {T : Addr} (r : Rows h B zs acc i) (hT : IsT h T (rowAt zs i)) (hB : B ≤ T) (hn : ∀ U ∈ (acc.toList), U ≠ .ref T) : Rows h B zs (acc.push (.ref T)) (i + 1) := by
  obtain ⟨Ts, rfl, hl, nd, x⟩ := r
  refine ⟨Ts ++ [T], by simp, by simp [hl], List.nodup_append.mpr ⟨nd, by simp, fun a ha b hb e => ?_⟩, fun j U hU => ?_⟩
  · rw [List.mem_singleton.mp hb] at e
    subst e
    exact hn _ (by simpa using ha) rfl
  · by_cases e : j < Ts.length
    · rw [List.getElem?_append_left e] at hU
      exact x j U hU
    · by_cases e2 : j = i
      · subst e2
        rw [List.getElem?_append_right (by omega), hl, Nat.sub_self] at hU
        cases hU
        exact ⟨hT, hB⟩
      · rw [List.getElem?_eq_none (by simp; omega)] at hU
        cases hU
theorem z_loop {z TI TO S : Addr} {zs : List Z3} {n B : Nat} {R : Result → Shared → Prop} (hh : A.in1.handled = none) (a : ZApartN z TI TO zs) (hn : ∀ t ∈ zs, t.2.2.size = n) (hz : zs.length ≤ sizeLine) (hnl : n ≤ sizeLine)
    (s1 : S ≠ z) (s2 : S ≠ TO) (s3 : S ≠ TI) (s4 : ∀ t ∈ zs, S ≠ t.1 ∧ S ≠ t.2.1) (sB : S < B) (wB : ∀ c, Wr z TO zs c → c < B) (res : Value) :
    ∀ (k i : Nat) (s : Shared) (acc : Array Value) (c : Nat), n - i = k → i ≤ n → B ≤ s.heap.objs.size → ZSt s.heap z TI TO zs i → s.heap.get? S = some { cls := .type "list", dict := none, data := .seq acc c, slots := #[] } → Rows s.heap B zs acc i →
    (∀ h' acc' c', h'.get? S = some { cls := .type "list", dict := none, data := .seq acc' c', slots := #[] } → Rows h' B zs acc' n → (∀ c o, ¬ Wr z TO zs c → c ≠ S → s.heap.get? c = some o → h'.get? c = some o) → R (.ok (.ret res)) { s with heap := h' }) →
    codeAny (model prog w) A (.builtin "list.extend.loop" ⟨[.ref S, .ref z, res], []⟩) R s := by
  intro k
  induction k with
  | zero =>
    intro i s acc c hk hi hB hst hS hacc hR
    have hin : i = n := by omega
    subst hin
    refine codeAny_builtin PySem.F.entry_extend_loop ?_
    rw [Around.under_plainId PySem.F.plain_extend_loop _]
    show wpAny _ A.in1 (pyNext (.ref z) >>= _) _ _ s
    refine wpAny_bind (z_done hh a hn hst fun h' hk' => ?_)
    have nW : ∀ c, B ≤ c → ¬ Wr z TO zs c := fun c hc hw => absurd (wB c hw) (Nat.not_lt.mpr hc)
    have nS : ¬ Wr z TO zs S := fun hw => by
      rcases hw with e | e | ⟨t, ht, e⟩
      · exact s1 e
      · exact s2 e
      · exact (s4 t ht).1 e
    exact wpAny_pure (hR h' acc c (hk' _ _ nS hS) (hacc.keep fun c o hc e => hk' _ _ (nW c hc) e) fun c o hc _ e => hk' c o hc e)
  | succ k ih =>
    intro i s acc c hk hi hB hst hS hacc hR
    have hlt : i < n := by omega
    refine codeAny_builtin PySem.F.entry_extend_loop ?_
    rw [Around.under_plainId PySem.F.plain_extend_loop _]
    show wpAny _ A.in1 (pyNext (.ref z) >>= _) _ _ s
    refine wpAny_bind (z_item a hn hz hst hlt fun h' x' hT hsz hk' => ?_)
    have nW : ∀ c, B ≤ c → ¬ Wr z TO zs c := fun c hc hw => absurd (wB c hw) (Nat.not_lt.mpr hc)
    have nS : ¬ Wr z TO zs S := fun hw => by
      rcases hw with e | e | ⟨t, ht, e⟩
      · exact s1 e
      · exact s2 e
      · exact (s4 t ht).1 e
    have hS' := hk' _ _ nS hS
    show wpAny _ A.in1 (updateSeq S (·.push (.ref s.heap.objs.size)) >>= _) _ _ _
    refine wpAny_bind ?_
    refine wpAny_updateSeq (s := { s with heap := h' }) hS' rfl (wpAny_pure ⟨plainId_quiet PySem.F.plain_extend_loop _, ih (i + 1) _ (acc.push (.ref s.heap.objs.size)) _ (by omega) hlt ?_ ?_ (Heap.get?_update_self _ hS' rfl) ?_ fun h2 acc' c' hS2 hacc2 hk2 => ?_⟩)
      (by rw [hacc.size]; omega) (by show (acc.push _).size ≤ sizeLine + 1; rw [Array.size_push, hacc.size]; omega)
    · rw [Heap.size_update, hsz]
      exact Nat.le_trans hB (Nat.le_succ _)
    · exact x'.keepBut (fun c o hc e => (Heap.get?_update_other _ _ (Ne.symm hc)).trans e) (fun o e => ⟨_, Heap.get?_update_self _ hS' rfl⟩) s1 s2 s3 s4
    · have hup : ∀ c o, B ≤ c → h'.get? c = some o → (h'.update S (Obj.mapSeq (·.push (.ref s.heap.objs.size)))).get? c = some o := fun c o hc e => (Heap.get?_update_other _ _ (Nat.ne_of_lt (Nat.lt_of_lt_of_le sB hc))).trans e
      have r1 := hacc.keep fun c o hc e => hk' _ _ (nW c hc) e
      refine (r1.push hT hB fun U hU e => ?_).keep hup
      subst e
      obtain ⟨Ts, e1, _, _, x⟩ := hacc
      rw [e1] at hU
      have hU' : s.heap.objs.size ∈ Ts := by simpa using hU
      obtain ⟨j, hj, e2⟩ := List.getElem_of_mem hU'
      have := (x j _ (by rw [List.getElem?_eq_getElem hj, e2])).1
      exact absurd (Heap.lt_size this) (Nat.lt_irrefl _)
    · refine hR h2 acc' c' hS2 hacc2 fun c o hc hcS e => hk2 c o hc hcS ((Heap.get?_update_other _ _ (Ne.symm hcS)).trans (hk' c o hc e))
end
end RZN
namespace RZN
open PySem
open PySem.Sem (wp)
section
variable {prog : Program} {w : World} {A : Around} {E : Value → Shared → Prop} {s : Shared}
theorem z_collect {z TI TO : Addr} {zs : List Z3} {n : Nat} {Q : List Value → Shared → Prop} (hh : A.in1.handled = none) (a : ZApartN z TI TO zs) (hn : ∀ t ∈ zs, t.2.2.size = n) (hz : zs.length ≤ sizeLine) (hnl : n ≤ sizeLine)
    (hst : ZSt s.heap z TI TO zs 0) (wB : ∀ c, Wr z TO zs c → c < s.heap.objs.size) (tB : TI < s.heap.objs.size) (lB : ∀ t ∈ zs, t.2.1 < s.heap.objs.size) (hz0 : ∃ f0, IsZip s.heap z TI TO f0)
    (hQ : ∀ h' acc, Rows h' (s.heap.objs.size + 1) zs acc n → (∀ c o, ¬ Wr z TO zs c → s.heap.get? c = some o → h'.get? c = some o) → Q acc.toList { s with heap := h' }) : wpAny (model prog w) A (collect (.ref z)) Q E s := by
  have hzl : z < s.heap.objs.size := wB z (.inl rfl)
  have hT : ∀ s' : Shared, s'.heap.get? z = s.heap.get? z → s'.TypeIs (.ref z) "zip" := fun s' e => by
    obtain ⟨o, ho, hc⟩ := hst.rd.typ
    exact ⟨o, e.trans ho, hc⟩
  have hSz : s.heap.objs.size ≠ z := Nat.ne_of_gt hzl
  unfold collect
  refine wpAny_bind (wpAny_runValue (codeAny_builtin PySem.F.entry_proto_collect ?_))
  rw [Around.under_plainId PySem.F.plain_proto_collect _]
  show wpAny _ A.in1 (newList [] >>= fun l => again (.builtin "list.__iadd__" ⟨[l, .ref z], []⟩)) _ _ s
  refine wpAny_bind (wpAny_newObj_type ?_)
  refine wpAny_pure ⟨plainId_quiet PySem.F.plain_list_iadd _, codeAny_builtin PySem.F.entry_list_iadd ?_⟩
  rw [Around.under_plainId PySem.F.plain_list_iadd _]
  have kp : ∀ c o, s.heap.get? c = some o → (s.heap.push { cls := .type "list", data := .seq ([] : List Value).toArray }).get? c = some o := fun c o e => Heap.get?_push_of_some _ e
  have hst₁ := hst.keep kp
  have hT1 : Shared.TypeIs { s with heap := s.heap.push { cls := .type "list", data := .seq ([] : List Value).toArray } } (.ref z) "zip" := by
    obtain ⟨o, ho, hc⟩ := hst.rd.typ
    exact ⟨o, kp _ _ ho, hc⟩
  show wpAny _ A.in1 (Builtin.List.listExtendWith (.ref s.heap.objs.size) (.ref z) (.ref s.heap.objs.size)) _ _ _
  unfold Builtin.List.listExtendWith
  refine wpAny_bind (wpAny_typeOf hT1 ?_)
  have h1 : Builtin.List.listSameRef (.ref s.heap.objs.size) (.ref z) = false := by simp [Builtin.List.listSameRef, hSz]
  have h2 : (Value.type "zip" == Value.type "list") = false := by decide
  have h3 : (Value.type "zip" == Value.type "tuple") = false := by decide
  simp only [h1, h2, h3, Bool.or_false, Bool.false_eq_true, if_false]
  obtain ⟨f0, hzz⟩ := hz0
  refine wpAny_bind (wpAny_pyIter_zip (kp _ _ hzz) ?_)
  refine wpAny_bind (wpAny_holding ?_)
  unfold Builtin.List.listLengthHint
  refine wpAny_bind (wpAny_specialOf hT1 F.zip_no_len ?_)
  show wpAny _ A.in1 (specialOf (Value.ref z) (Str.ofString "__length_hint__") >>= _) _ _ _
  refine wpAny_bind (wpAny_specialOf hT1 F.zip_no_hint ?_)
  refine wpAny_pure ?_
  show wpAny _ A.in1 (rule "list.extend.makes-room" >>= fun _ => Builtin.List.listTouch (.ref s.heap.objs.size) >>= fun _ =>
    again (.builtin "list.extend.loop" ⟨[.ref s.heap.objs.size, .ref z, .ref s.heap.objs.size], []⟩)) _ _ _
  refine wpAny_bind (wpAny_rule ?_)
  have hS₁ : (s.heap.push { cls := .type "list", data := .seq ([] : List Value).toArray }).get? s.heap.objs.size = some { cls := .type "list", data := .seq ([] : List Value).toArray } := Heap.get?_push_size _ rfl
  refine wpAny_bind ?_
  show wpAny _ A.in1 (updateSeq s.heap.objs.size (·.push .none) >>= fun _ => updateSeq s.heap.objs.size (·.pop)) _ _ _
  refine wpAny_bind (wpAny_updateSeq hS₁ rfl ?_)
  have hS₂ := Heap.get?_update_self (Obj.mapSeq (·.push Value.none)) hS₁ rfl
  refine wpAny_updateSeq hS₂ rfl ?_
  have hS₃ := Heap.get?_update_self (Obj.mapSeq (·.pop)) hS₂ rfl
  have oth : ∀ b o, b ≠ s.heap.objs.size → (s.heap.push { cls := .type "list", data := .seq ([] : List Value).toArray }).get? b = some o →
      (((s.heap.push { cls := .type "list", data := .seq ([] : List Value).toArray }).update s.heap.objs.size (Obj.mapSeq (·.push Value.none))).update s.heap.objs.size (Obj.mapSeq (·.pop))).get? b = some o :=
    fun b o hb e => (Heap.get?_update_other _ _ (Ne.symm hb)).trans ((Heap.get?_update_other _ _ (Ne.symm hb)).trans e)
  have sz : (((s.heap.push { cls := .type "list", data := .seq ([] : List Value).toArray }).update s.heap.objs.size (Obj.mapSeq (·.push Value.none))).update s.heap.objs.size (Obj.mapSeq (·.pop))).objs.size = s.heap.objs.size + 1 := by
    rw [Heap.size_update, Heap.size_update, Heap.size_push]
  have s1 : s.heap.objs.size ≠ z := hSz
  have s2 : s.heap.objs.size ≠ TO := Nat.ne_of_gt (wB TO (.inr (.inl rfl)))
  have s3 : s.heap.objs.size ≠ TI := Nat.ne_of_gt tB
  have s4 : ∀ t ∈ zs, s.heap.objs.size ≠ t.1 ∧ s.heap.objs.size ≠ t.2.1 := fun t ht => ⟨Nat.ne_of_gt (wB _ (.inr (.inr ⟨t, ht, rfl⟩))), Nat.ne_of_gt (lB t ht)⟩
  have hst2 : ZSt (((s.heap.push { cls := .type "list", data := .seq ([] : List Value).toArray }).update s.heap.objs.size (Obj.mapSeq (·.push Value.none))).update s.heap.objs.size (Obj.mapSeq (·.pop))) z TI TO zs 0 :=
    hst₁.keepBut (fun c o hc e => oth c o hc e) (fun o e => ⟨_, hS₃⟩) s1 s2 s3 s4
  refine wpAny_pure ⟨plainId_quiet PySem.F.plain_extend_loop _, z_loop (B := s.heap.objs.size + 1) hh a hn hz hnl s1 s2 s3 s4 (Nat.lt_succ_self _) (fun c hc => Nat.lt_succ_of_lt (wB c hc)) _ n 0 _ _ _ rfl (Nat.zero_le _) (by show _ ≤ Array.size _; rw [sz]; exact Nat.le_refl _) hst2 hS₃ ⟨[], rfl, rfl, List.nodup_nil, fun j T e => by simp at e⟩ fun h' acc' c' hS' hacc hk => ?_⟩
  show wpAny _ A (load s.heap.objs.size >>= _) _ _ _
  refine wpAny_bind (wpAny_load hS' ?_)
  refine wpAny_pure (hQ h' acc' hacc fun c o hc e => ?_)
  have hcS : c ≠ s.heap.objs.size := Nat.ne_of_lt (Heap.lt_size e)
  exact hk c o hc hcS (oth c o hcS (kp c o e))
theorem z_tuple_new {z TI TO : Addr} {zs : List Z3} {n : Nat} {Q₁ : Value → Shared → Prop} (hh : A.handled = none) (a : ZApartN z TI TO zs) (hn : ∀ t ∈ zs, t.2.2.size = n) (hz : zs.length ≤ sizeLine) (hnl : n ≤ sizeLine)
    (hst : ZSt s.heap z TI TO zs 0) (wB : ∀ c, Wr z TO zs c → c < s.heap.objs.size) (tB : TI < s.heap.objs.size) (lB : ∀ t ∈ zs, t.2.1 < s.heap.objs.size) (hz0 : ∃ f0, IsZip s.heap z TI TO f0)
    (h : ∀ h' acc, Rows h' (s.heap.objs.size + 1) zs acc n → (∀ c o, ¬ Wr z TO zs c → s.heap.get? c = some o → h'.get? c = some o) → Q₁ (.ref h'.objs.size) { s with heap := h'.push { cls := .type "tuple", data := .seq acc } }) :
    codeAny (model prog w) A (.call (.builtin "tuple.__new__") ⟨[.type "tuple", .ref z], []⟩) (wants Q₁ E) s := by
  refine codeAny_of_tree ?_
  show wpAny _ A.in1 (do checkBuiltinCall "tuple.__new__" ⟨[.type "tuple", .ref z], []⟩; again (.builtin "tuple.__new__" ⟨[.type "tuple", .ref z], []⟩)) _ _ s
  refine wpAny_bind (wpAny_of_eq (PySem.F.newCall_tuple_1 _) (wpAny_pure ⟨plainId_quiet PySem.F.plain_tuple_new _, codeAny_builtin PySem.F.entry_tuple_new ?_⟩))
  rw [Around.under_plainId PySem.F.plain_tuple_new _]
  have hsub := sub_tuple_self
  have hinit := init_tuple_lookup
  have hmh := madeHere_tuple
  have hTI : s.TypeIs (.ref z) "zip" := hst.rd.typ
  have zc : ∀ {Q : List Value → Shared → Prop} {E' : Value → Shared → Prop}, (∀ h' acc, Rows h' (s.heap.objs.size + 1) zs acc n → (∀ c o, ¬ Wr z TO zs c → s.heap.get? c = some o → h'.get? c = some o) → Q acc.toList { s with heap := h' }) → wpAny (model prog w) A.in1 (collect (.ref z)) Q E' s :=
    fun h2 => z_collect (A := A.in1) hh a hn hz hnl hst wB tB lB hz0 h2
  wp_walk using wpAny_typeOf hTI, zc
  intro h' acc hacc hm
  show wpAny _ _ (Builtin.Tuple.tupleExact acc.toList.toArray >>= fun v => ret v) _ _ _
  unfold Builtin.Tuple.tupleExact
  refine wpAny_bind (wpAny_newObj_type ?_ (by show acc.toList.toArray.size ≤ sizeLine; simp only [Array.toArray_toList]; rw [hacc.size]; exact hnl))
  refine wpAny_pure ?_
  have e : acc.toList.toArray = acc := by simp
  rw [e]
  exact h h' acc hacc hm
theorem z_tuple {z TI TO : Addr} {zs : List Z3} {n : Nat} {Q : Value → Shared → Prop} (hh : A.handled = none) (a : ZApartN z TI TO zs) (hn : ∀ t ∈ zs, t.2.2.size = n) (hz : zs.length ≤ sizeLine) (hnl : n ≤ sizeLine)
    (hst : ZSt s.heap z TI TO zs 0) (wB : ∀ c, Wr z TO zs c → c < s.heap.objs.size) (tB : TI < s.heap.objs.size) (lB : ∀ t ∈ zs, t.2.1 < s.heap.objs.size) (hz0 : ∃ f0, IsZip s.heap z TI TO f0)
    (hQ : ∀ h' acc, Rows h' (s.heap.objs.size + 1) zs acc n → (∀ c o, ¬ Wr z TO zs c → s.heap.get? c = some o → h'.get? c = some o) → Q (.ref h'.objs.size) { s with heap := h'.push { cls := .type "tuple", data := .seq acc } }) :
    wpAny (model prog w) A (call (.type "tuple") [.ref z]) Q E s := by
  refine callType_codes (Q₁ := fun obj s₁ => s₁.TypeIs obj "tuple" ∧ Q obj s₁) PySem.F.called_tuple (PySem.F.typeCall_tuple_1 _) PySem.F.entry_object_init
    (z_tuple_new hh a hn hz hnl hst wB tB lB hz0 fun h' acc hacc hm => ⟨⟨_, Heap.get?_push_size _ rfl, rfl⟩, hQ h' acc hacc hm⟩) fun obj s₁ h₁ => ?_
  exact ⟨h₁.1, PySem.F.args_object_init_2 obj _, object_init_meets PySem.F.called_tuple.init.lookup PySem.F.called_tuple.made (by decide) prog w A.in1 _ s₁ ⟨h₁.1, rfl, h₁.2⟩⟩
end
end RZN
set_option Elab.async false
set_option linter.all false
set_option maxRecDepth 100000
set_option maxHeartbeats 2000000
/-! tuple(zip(*rows)) -/
namespace RZN
open PySem
open PySem.Sem (wp)
def zsOf : Nat → List (Addr × Array Value) → List Z3
  | _, [] => []
  | b, l :: r => (b, l.1, l.2) :: zsOf (b + 1) r
theorem zsOf_len : ∀ (ls : List (Addr × Array Value)) (b : Nat), (zsOf b ls).length = ls.length
  | [], _ => rfl
  | _ :: r, b => congrArg Nat.succ (zsOf_len r (b + 1))
theorem zsOf_its : ∀ (ls : List (Addr × Array Value)) (b : Nat), itsOf (zsOf b ls) = itAddrs b (ls.map (·.1))
  | [], _ => rfl
  | l :: r, b => by
    show Value.ref b :: itsOf (zsOf (b + 1) r) = _
    rw [zsOf_its r (b + 1)]
    rfl
theorem zsOf_mem : ∀ (ls : List (Addr × Array Value)) (b : Nat) (t : Z3), t ∈ zsOf b ls → ∃ j, ls[j]? = some (t.2.1, t.2.2) ∧ t.1 = b + j
  | [], _, _, h => by cases h
  | l :: r, b, t, h => by
    rcases List.mem_cons.mp h with rfl | h
    · exact ⟨0, rfl, rfl⟩
    · obtain ⟨j, h1, h2⟩ := zsOf_mem r (b + 1) t h
      exact ⟨j + 1, by simpa using h1, h2.trans (Nat.add_right_comm b 1 j)⟩
theorem zsOf_nd : ∀ (ls : List (Addr × Array Value)) (b : Nat), ((zsOf b ls).map (·.1)).Nodup
  | [], _ => List.nodup_nil
  | l :: r, b => by
    show (b :: (zsOf (b + 1) r).map (·.1)).Nodup
    refine List.nodup_cons.mpr ⟨fun h => ?_, zsOf_nd r (b + 1)⟩
    obtain ⟨t, ht, e⟩ := List.mem_map.mp h
    obtain ⟨j, _, e2⟩ := zsOf_mem r (b + 1) t ht
    rw [e2] at e
    omega
theorem rowAt_zs (j : Nat) : ∀ (ls : List (Addr × Array Value)) (b : Nat), rowAt (zsOf b ls) j = ls.map fun l => l.2.getD j .none
  | [], _ => rfl
  | l :: r, b => by
    show l.2.getD j .none :: rowAt (zsOf (b + 1) r) j = _
    rw [rowAt_zs j r (b + 1)]
    rfl
section
variable {prog : Program} {w : World} {A : Around} {E : Value → Shared → Prop} {s : Shared}
/-- z = zip(*rows) made, then tuple(z) -/
theorem zip_tuple {ls : List (Addr × Array Value)} {n : Nat} {Q : Value → Shared → Prop} (hh : A.handled = none) (hl : ∀ l ∈ ls, s.heap.IsTuple l.1 l.2) (ne : ls ≠ []) (hn : ∀ l ∈ ls, l.2.size = n) (hsz : ls.length ≤ sizeLine) (hnl : n ≤ sizeLine)
    (hQ : ∀ h' acc, (∃ Ts : List Addr, acc = (Ts.map Value.ref).toArray ∧ Ts.length = n ∧ Ts.Nodup ∧ ∀ j T, Ts[j]? = some T → IsT h' T (ls.map fun l => l.2.getD j .none) ∧ s.heap.objs.size ≤ T) → (∀ c o, s.heap.get? c = some o → h'.get? c = some o) →
      Q (.ref h'.objs.size) { s with heap := h'.push { cls := .type "tuple", data := .seq acc } }) :
    wpAny (model prog w) A (call (.type "zip") (ls.map fun l => Value.ref l.1)) (fun v s' => wpAny (model prog w) A (call (.type "tuple") [v]) Q E s') E s := by
  refine call_zipN hl hsz ?_
  have lt : ∀ l ∈ ls, l.1 < s.heap.objs.size := fun l h => by obtain ⟨o, e, _⟩ := hl l h; exact Heap.lt_size e
  have N : (pushAll s.heap (ls.map (·.1))).objs.size = s.heap.objs.size + ls.length := by rw [size_pushAll, List.length_map]
  have z1 : ∀ (X : Heap) (o : Obj), (X.push o).objs.size = X.objs.size + 1 := fun X o => Heap.size_push ..
  have szH : (zipHeap s.heap (ls.map (·.1))).objs.size = s.heap.objs.size + ls.length + 3 := by
    unfold zipHeap
    rw [z1, z1, z1, N]
  have old : ∀ c o, s.heap.get? c = some o → (zipHeap s.heap (ls.map (·.1))).get? c = some o := fun c o e =>
    Heap.get?_push_of_some _ (Heap.get?_push_of_some _ (Heap.get?_push_of_some _ (get_pushAll _ _ e)))
  have gTI : (zipHeap s.heap (ls.map (·.1))).get? (s.heap.objs.size + ls.length) = some { cls := .type "tuple", data := .seq (itAddrs s.heap.objs.size (ls.map (·.1))).toArray } := by
    rw [← N]
    exact Heap.get?_push_of_some _ (Heap.get?_push_of_some _ (Heap.get?_push_size _ rfl))
  have gTO : (zipHeap s.heap (ls.map (·.1))).get? (s.heap.objs.size + ls.length + 1) = some { cls := .type "tuple", data := .seq ((itAddrs s.heap.objs.size (ls.map (·.1))).map fun _ => Value.none).toArray } := by
    have e : ((pushAll s.heap (ls.map (·.1))).push { cls := .type "tuple", data := .seq (itAddrs s.heap.objs.size (ls.map (·.1))).toArray }).objs.size = s.heap.objs.size + ls.length + 1 := by rw [z1, N]
    rw [← e]
    exact Heap.get?_push_of_some _ (Heap.get?_push_size _ rfl)
  have gz : (zipHeap s.heap (ls.map (·.1))).get? (s.heap.objs.size + ls.length + 2) = some { cls := .type "zip", data := .fields #[.none, .bool false, .bool false, .ref (s.heap.objs.size + ls.length), .ref (s.heap.objs.size + ls.length + 1)] } := by
    have e : (((pushAll s.heap (ls.map (·.1))).push { cls := .type "tuple", data := .seq (itAddrs s.heap.objs.size (ls.map (·.1))).toArray }).push { cls := .type "tuple", data := .seq ((itAddrs s.heap.objs.size (ls.map (·.1))).map fun _ => Value.none).toArray }).objs.size = s.heap.objs.size + ls.length + 2 := by rw [z1, z1, N]
    have : (zipHeap s.heap (ls.map (·.1))).get? (((pushAll s.heap (ls.map (·.1))).push { cls := .type "tuple", data := .seq (itAddrs s.heap.objs.size (ls.map (·.1))).toArray }).push { cls := .type "tuple", data := .seq ((itAddrs s.heap.objs.size (ls.map (·.1))).map fun _ => Value.none).toArray }).objs.size = some { cls := .type "zip", data := .fields #[.none, .bool false, .bool false, .ref (pushAll s.heap (ls.map (·.1))).objs.size, .ref ((pushAll s.heap (ls.map (·.1))).objs.size + 1)] } := Heap.get?_push_size _ rfl
    rw [e, N] at this
    exact this
  rw [N]
  have mem : ∀ t ∈ zsOf s.heap.objs.size ls, s.heap.objs.size ≤ t.1 ∧ t.1 < s.heap.objs.size + ls.length ∧ t.2.1 < s.heap.objs.size ∧ (t.2.1, t.2.2) ∈ ls := fun t ht => by
    obtain ⟨j, h1, h2⟩ := zsOf_mem _ _ t ht
    have hm := List.mem_of_getElem? h1
    obtain ⟨h3, _⟩ := List.getElem?_eq_some_iff.mp h1
    refine ⟨by rw [h2]; exact Nat.le_add_right _ _, by rw [h2]; exact Nat.add_lt_add_left h3 _, lt _ hm, hm⟩
  have ap : ZApartN (s.heap.objs.size + ls.length + 2) (s.heap.objs.size + ls.length) (s.heap.objs.size + ls.length + 1) (zsOf s.heap.objs.size ls) := {
    d := ⟨zsOf_nd _ _, fun t ht u hu e => by
      have h1 := (mem t ht).2.2.1
      have h2 := (mem u hu).1
      rw [e] at h1
      exact absurd h1 (Nat.not_lt.mpr h2)⟩
    ne := fun e => ne (by have := zsOf_len ls s.heap.objs.size; rw [e] at this; exact List.eq_nil_of_length_eq_zero this.symm)
    nz := fun t ht => by
      obtain ⟨h1, h2, h3, _⟩ := mem t ht
      exact ⟨Nat.ne_of_lt (Nat.lt_of_lt_of_le h2 (Nat.le_add_right _ 2)), Nat.ne_of_lt (Nat.lt_of_lt_of_le h3 (by rw [Nat.add_assoc]; exact Nat.le_add_right _ _))⟩
    nT := fun t ht => by
      obtain ⟨h1, h2, h3, _⟩ := mem t ht
      exact ⟨Nat.ne_of_lt (Nat.lt_of_lt_of_le h2 (Nat.le_add_right _ 1)), Nat.ne_of_lt (Nat.lt_of_lt_of_le h3 (by rw [Nat.add_assoc]; exact Nat.le_add_right _ _))⟩
    zT := Nat.ne_of_lt (Nat.lt_succ_self _)
    tz := Nat.ne_of_lt (Nat.lt_add_of_pos_right (by decide))
    tT := Nat.ne_of_lt (Nat.lt_succ_self _)
    ti := fun t ht => Ne.symm (Nat.ne_of_lt (mem t ht).2.1) }
  have st : ZSt (zipHeap s.heap (ls.map (·.1))) (s.heap.objs.size + ls.length + 2) (s.heap.objs.size + ls.length) (s.heap.objs.size + ls.length + 1) (zsOf s.heap.objs.size ls) 0 := {
    rd := .inl ⟨gz, _, by simp [zsOf_len, itAddrs_len], gTO⟩
    ti := by
      show _ = some _
      rw [zsOf_its]
      exact gTI
    at_ := fun t ht => by
      obtain ⟨j, h1, h2⟩ := zsOf_mem _ _ t ht
      have hm := List.mem_of_getElem? h1
      refine ⟨⟨{ cls := .type "tuple_iterator", data := .fields #[.ref t.2.1, .int 0 0] }, ?_, rfl, rfl⟩, (hl _ hm).at fun o e => old _ o e⟩
      rw [h2]
      refine Heap.get?_push_of_some _ (Heap.get?_push_of_some _ (Heap.get?_push_of_some _ (iter_pushAll _ _ ?_)))
      rw [List.getElem?_map, h1]
      rfl }
  have wB : ∀ c, Wr (s.heap.objs.size + ls.length + 2) (s.heap.objs.size + ls.length + 1) (zsOf s.heap.objs.size ls) c → s.heap.objs.size ≤ c ∧ c < s.heap.objs.size + ls.length + 3 := fun c hc => by
    rcases hc with rfl | rfl | ⟨t, ht, rfl⟩
    · exact ⟨by rw [Nat.add_assoc]; exact Nat.le_add_right _ _, Nat.lt_succ_self _⟩
    · exact ⟨by rw [Nat.add_assoc]; exact Nat.le_add_right _ _, Nat.lt_succ_of_lt (Nat.lt_succ_self _)⟩
    · obtain ⟨h1, h2, _⟩ := mem t ht
      exact ⟨h1, Nat.lt_of_lt_of_le h2 (Nat.le_add_right _ _)⟩
  refine z_tuple (n := n) hh ap (fun t ht => hn _ (mem t ht).2.2.2) (by rw [zsOf_len]; exact hsz) hnl st (fun c hc => by show c < (zipHeap _ _).objs.size; rw [szH]; exact (wB c hc).2) (by show _ < (zipHeap _ _).objs.size; rw [szH]; exact Nat.lt_add_of_pos_right (by decide)) (fun t ht => by show _ < (zipHeap _ _).objs.size; rw [szH]; exact Nat.lt_of_lt_of_le (mem t ht).2.2.1 (by rw [Nat.add_assoc]; exact Nat.le_add_right _ _)) ⟨_, gz⟩ fun h' acc hr hk => ?_
  obtain ⟨Ts, e, hlen, nd, hT⟩ := hr
  refine hQ h' acc ⟨Ts, e, hlen, nd, fun j T hj => ?_⟩ fun c o e => hk c o (fun hw => absurd (Heap.lt_size e) (Nat.not_lt.mpr (wB c hw).1)) (old c o e)
  obtain ⟨h1, h2⟩ := hT j T hj
  rw [rowAt_zs] at h1
  refine ⟨h1, Nat.le_trans ?_ h2⟩
  show _ ≤ (zipHeap _ _).objs.size + 1
  rw [szH]
  rw [Nat.add_assoc, Nat.add_assoc]
  exact Nat.le_add_right _ _
end
end RZN
set_option Elab.async false
set_option linter.all false
set_option maxRecDepth 100000
/-! tuple(zip(*rows)) -/
namespace RZN
open PySem PySem.Spec PyProof.Rows L2
/-! ### several new tuples at once -/
def updAll (H : Hp) : List (Addr × List V) → Hp
  | [] => H
  | p :: r => updAll (upd H p.1 (.tup p.2)) r
theorem updAll_ne : ∀ (ps : List (Addr × List V)) (H : Hp) {b : Addr}, b ∉ ps.map (·.1) → updAll H ps b = H b
  | [], H, b, _ => rfl
  | p :: r, H, b, h => by
    rw [List.map_cons, List.mem_cons, not_or] at h
    show updAll (upd H p.1 (.tup p.2)) r b = _
    rw [updAll_ne r _ h.2, upd_ne h.1]
theorem updAll_at : ∀ (ps : List (Addr × List V)) (H : Hp), (ps.map (·.1)).Nodup → ∀ p ∈ ps, updAll H ps p.1 = some (.tup p.2)
  | [], _, _, _, h => by cases h
  | q :: r, H, nd, p, h => by
    rw [List.map_cons, List.nodup_cons] at nd
    show updAll (upd H q.1 (.tup q.2)) r p.1 = _
    rcases List.mem_cons.mp h with rfl | h
    · rw [updAll_ne r _ nd.1, upd_same]
    · exact updAll_at r _ nd.2 p h
theorem updAll_none {ps : List (Addr × List V)} {H : Hp} (hn : ∀ p ∈ ps, H p.1 = none) {b : Addr} {o : HO} (e : H b = some o) : updAll H ps b = some o := by
  rw [updAll_ne ps H fun h => by
    obtain ⟨p, hp, rfl⟩ := List.mem_map.mp h
    rw [hn p hp] at e
    cases e]
  exact e
theorem un_all {fs ex : List Addr} {H : Hp} {h h' : Heap} (k : ∀ b u, h.get? b = some u → h'.get? b = some u) (ps : List (Addr × List V)) (hp : ∀ p ∈ ps, h.objs.size ≤ p.1) (hn : ∀ p ∈ ps, H p.1 = none) : Un fs ex H (updAll H ps) h h' where
  keep := fun b u q _ _ _ => k b u q
  slot := fun b u q _ _ _ => ⟨u.slots, k b u q⟩
  free := fun b u q n _ => by
    rw [updAll_ne ps H fun z => by
      obtain ⟨p, hp', rfl⟩ := List.mem_map.mp z
      exact absurd (Heap.lt_size q) (Nat.not_lt.mpr (hp p hp'))]
    exact n
  there := fun b u q _ => ⟨u, k b u q⟩
  tups := fun b xs q => updAll_none hn q
  frzs := fun b u xs q => updAll_none hn q
  tbls := fun b qs q => ⟨#[], by rw [updAll_none hn q]; simp⟩
theorem hok_all {P : Program} {w : World} {h : Heap} : ∀ (ps : List (Addr × List V)) (H : Hp), HOk P w H h → (ps.map (·.1)).Nodup → (∀ p ∈ ps, H p.1 = none) → (∀ p ∈ ps, p.2.length ≤ sizeLine ∧ ∃ its : List Value, Vals p.2 its ∧ IsTup h p.1 its.toArray) → HOk P w (updAll H ps) h
  | [], H, x, _, _, _ => x
  | p :: r, H, x, nd, hn, new => by
    rw [List.map_cons, List.nodup_cons] at nd
    refine hok_all r (upd H p.1 (.tup p.2)) (fun b u e => ?_) nd.2 (fun q hq => ?_) fun q hq => new q (List.mem_cons_of_mem _ hq)
    · by_cases hb : b = p.1
      · subst hb
        rw [upd_same] at e
        cases e
        exact new p List.mem_cons_self
      · rw [upd_ne hb] at e
        have h0 := hn p List.mem_cons_self
        exact (x b u e).stay (fun c v _ q => q) (fun c q => by rw [upd_ne (ne_of_none q h0)]; exact q) fun c xs q => by rw [upd_ne (ne_of_none q h0)]; exact q
    · rw [upd_ne (fun e => nd.1 (List.mem_map.mpr ⟨q, hq, e⟩))]
      exact hn q (List.mem_cons_of_mem _ hq)
theorem same_all : ∀ (ps : List (Addr × List V)) (H : Hp), (ps.map (·.1)).Nodup → (∀ p ∈ ps, H p.1 = none) → DL.Same H (updAll H ps)
  | [], H, _, _ => DL.Same.refl H
  | p :: r, H, nd, hn => by
    rw [List.map_cons, List.nodup_cons] at nd
    have h0 := hn p List.mem_cons_self
    have s1 : DL.Same H (upd H p.1 (.tup p.2)) := DL.Same.upd h0
    have s2 := same_all r (upd H p.1 (.tup p.2)) nd.2 fun q hq => by
      rw [upd_ne (fun e => nd.1 (List.mem_map.mpr ⟨q, hq, e⟩))]
      exact hn q (List.mem_cons_of_mem _ hq)
    refine ⟨fun c o e => s2.old c o (s1.old c o e), fun a o h1 h2 => ?_⟩
    cases q : upd H p.1 (.tup p.2) a with
    | none => exact s2.new a o q h2
    | some o' =>
      have e := s2.old a o' q
      have e' : updAll H (p :: r) a = some o' := e
      rw [h2] at e'
      cases e'
      exact s1.new a o h1 q
/-! ### the expression -/
def colV (xss : List (List V)) (j : Nat) : List V := xss.map fun xs => xs.getD j .non
def colsV (xss : List (List V)) (n : Nat) : List (List V) := (List.range n).map (colV xss)
def tZipT (K : PySem.W.Frag) (te : TE) : TE := fun σ H Q => te σ H fun x H1 => ∃ (p : Addr) (as : List Addr) (xss : List (List V)) (n : Nat), x = V.ref p ∧ (SqT K H1 p (as.map V.ref) ∨ SqL K H1 p (as.map V.ref)) ∧ as ≠ [] ∧ Paired (fun a xs => SqT K H1 a xs ∧ xs.length = n) as xss ∧
  ∀ (Ts : List Addr) (p' : Addr), Ts.length = n → Ts.Nodup → p' ∉ Ts → (∀ T ∈ Ts, H1 T = none) → H1 p' = none → Q (.ref p') (upd (updAll H1 (Ts.zip (colsV xss n))) p' (.tup (Ts.map V.ref)))
section
variable {X : Cx} {pins : List (Addr × Obj)} {σ : L2.St} {H : Hp} {s : Shared}
theorem rows_vals (I : Inv X pins σ H s) {n : Nat} : ∀ {as : List Addr} {xss : List (List V)}, Paired (fun a xs => SqT X.K H a xs ∧ xs.length = n) as xss →
    ∃ ls : List (Addr × Array Value), ls.map (·.1) = as ∧ (∀ l ∈ ls, s.heap.IsTuple l.1 l.2 ∧ l.2.size = n ∧ n ≤ sizeLine) ∧ Paired (fun xs (l : Addr × Array Value) => Vals xs l.2.toList ∧ xs.length = n) xss ls
  | _, _, .nil => ⟨[], rfl, (fun _ h => absurd h List.not_mem_nil), .nil⟩
  | _, _, .cons (a := a) (b := xs) h r => by
    obtain ⟨ls, e, h1, h2⟩ := rows_vals I r
    obtain ⟨its, rv, ht, hz⟩ := I.tuple h.1
    have hl : its.length = n := by rw [← rv.length]; exact h.2
    refine ⟨(a, its.toArray) :: ls, by rw [List.map_cons, e], fun l hl' => ?_, .cons ⟨by simpa using rv, h.2⟩ h2⟩
    rcases List.mem_cons.mp hl' with rfl | hl'
    · exact ⟨ht, by simp [hl], by rw [← h.2]; exact hz⟩
    · exact h1 l hl'
theorem col_vals {n j : Nat} (hj : j < n) : ∀ {xss : List (List V)} {ls : List (Addr × Array Value)}, Paired (fun xs (l : Addr × Array Value) => Vals xs l.2.toList ∧ xs.length = n) xss ls → Vals (colV xss j) (ls.map fun l => l.2.getD j .none)
  | _, _, .nil => .nil
  | _, _, .cons (a := xs) (b := l) h r => by
    refine .cons ?_ (col_vals hj r)
    have hx : xs[j]? = some (xs.getD j .non) := by
      rw [List.getD_eq_getElem?_getD, List.getElem?_eq_getElem (by rw [h.2]; exact hj)]
      rfl
    obtain ⟨u, hu, ru⟩ := h.1.get hx
    rw [Array.getElem?_toList] at hu
    show L2.RelV (xs.getD j .non) (l.2.getD j .none)
    rw [Array.getD_eq_getD_getElem?, hu]
    exact ru
theorem refs_of : ∀ {as : List Addr} {us : List Value}, Vals (as.map V.ref) us → us = as.map Value.ref
  | [], _, .nil => rfl
  | _ :: _, _, .cons r rs => by
    cases r
    rw [refs_of rs]
    rfl
theorem vals_refs : ∀ Ts : List Addr, Vals (Ts.map V.ref) (Ts.map Value.ref)
  | [] => .nil
  | _ :: r => .cons rfl (vals_refs r)
theorem paired_len {α β : Type} {F : α → β → Prop} : ∀ {xs : List α} {ys : List β}, Paired F xs ys → xs.length = ys.length
  | _, _, .nil => rfl
  | _, _, .cons _ r => congrArg Nat.succ (paired_len r)
end
theorem pe_zipT {X : Cx} {e : Expr} {te : TE} {p p2 p3 p4 pos : Pos} (hc : X.calm = true) (hg : Gl X "tuple") (hm : X.mg "tuple" = none) (hg2 : Gl X "zip") (hm2 : X.mg "zip" = none) (he : PE X e te)
    (na : starEach [.Call (.Name "zip" p2) [.Starred e p3] [] p4] X.env = (false, eval (.Call (.Name "zip" p2) [.Starred e p3] [] p4) X.env) :: starEach [] X.env := by rfl) (ns : starEach [.Starred e p3] X.env = [(true, eval e X.env)] := by rfl) :
    PE X (.Call (.Name "tuple" p) [.Call (.Name "zip" p2) [.Starred e p3] [] p4] [] pos) (tZipT X.K te) := by
  refine ⟨fun pins s σ H Q I h => ?_⟩
  refine Call_ (ld_blt I hg hm PyProof.Rows.boot_tuple (PyProof.Rows.callWith_type1 (PyProof.Rows.args_cons ?_ na) na rfl))
  refine Call_ (ld_blt I hg2 hm2 PyProof.Rows.boot_zip ?_)
  rw [ns]
  refine PySem.W.ks_call (P := fun _ => True) rfl (fun h _ => ⟨.machine, .inr (.inl rfl), PySem.W.Looks.of_pure rfl⟩) (PySem.W.ks_lone (thn (he.run pins s σ H _ I h) fun v s1 ⟨x, H1, I1, r1, q1⟩ => ?_))
  obtain ⟨pp, as, xss, n, ex, hsq, ne, hp, q⟩ := q1
  subst ex
  obtain rfl : v = Value.ref pp := r1
  refine StX.star_any I1 hsq fun us s2 I2 rv => ⟨trivial, ?_⟩
  obtain ⟨ls, e1, h1, h2⟩ := rows_vals I2 hp
  have eus : us = ls.map fun l => Value.ref l.1 := by
    rw [refs_of rv, ← e1, List.map_map]
    rfl
  have hz : as.length ≤ sizeLine := by
    rcases hsq with z | z
    · obtain ⟨_, _, _, hz⟩ := I1.tuple z
      simpa using hz
    · obtain ⟨_, _, _, hz⟩ := I1.list z
      simpa using hz
  have ne2 : ls ≠ [] := fun z => ne (by rw [← e1, z]; rfl)
  have hlen : ls.length = as.length := by rw [← e1, List.length_map]
  have hnz : n ≤ sizeLine := by
    cases ls with
    | nil => exact absurd rfl ne2
    | cons l r => exact (h1 l List.mem_cons_self).2.2
  show wpAny _ _ (call (.type "zip") ([] ++ us)) _ _ _
  rw [List.nil_append, eus]
  refine wpAny_mono (zip_tuple (Q := fun u s' => ∃ x H', Inv X pins σ H' s' ∧ RelV x u ∧ Q x H') (E := X.xe) (n := n) (I2.ok.hd hc) (fun l hl => (h1 l hl).1) ne2 (fun l hl => (h1 l hl).2.1) (by rw [hlen]; exact hz) hnz fun h' acc hT hk => ?_) (fun v s' hv => PyProof.Rows.args_nil hv) (fun _ _ z => z)
  obtain ⟨Ts, rfl, hTl, nd, hT⟩ := hT
  have I3 : Inv X pins σ H1 { s2 with heap := h' } := I2.kept (t' := s2.toks) hk
  have zl : (Ts.zip (colsV xss n)).map (·.1) = Ts := by
    rw [List.map_fst_zip]
    unfold colsV
    simp [hTl]
  have fresh : ∀ T ∈ Ts, H1 T = none ∧ s2.heap.objs.size ≤ T := fun T hm => by
    obtain ⟨j, hj, e⟩ := List.getElem_of_mem hm
    have := (hT j T (by rw [List.getElem?_eq_getElem hj, e])).2
    exact ⟨I2.hok.fresh this, this⟩
  have mem : ∀ p ∈ Ts.zip (colsV xss n), p.1 ∈ Ts := fun p hp => by rw [← zl]; exact List.mem_map.mpr ⟨p, hp, rfl⟩
  have I4 : Inv X pins σ (updAll H1 (Ts.zip (colsV xss n))) { s2 with heap := h' } := by
    refine I2.un (t' := s2.toks) (un_all hk _ (fun p hp => (fresh _ (mem p hp)).2) fun p hp => (fresh _ (mem p hp)).1) (hok_all _ _ I3.hok (by rw [zl]; exact nd) (fun p hp => (fresh _ (mem p hp)).1) fun p hp => ?_)
    obtain ⟨j, hj, e⟩ := List.getElem_of_mem hp
    rw [List.getElem_zip] at e
    have hjT : j < Ts.length := by rw [List.length_zip] at hj; omega
    have hjn : j < n := by rw [← hTl]; exact hjT
    have e2 : p.1 = Ts[j] := by rw [← e]
    have e3 : p.2 = colV xss j := by rw [← e]; simp [colsV]
    obtain ⟨g1, _⟩ := hT j Ts[j] (List.getElem?_eq_getElem hjT)
    rw [e2, e3]
    refine ⟨?_, _, col_vals hjn h2, ⟨_, g1, rfl, 0, rfl⟩⟩
    unfold colV
    rw [List.length_map, paired_len h2, hlen]
    exact hz
  have hfresh : H1 h'.objs.size = none := I3.hok.fresh (Nat.le_refl _)
  have nTs : h'.objs.size ∉ Ts := fun hm => by
    obtain ⟨j, hj, e⟩ := List.getElem_of_mem hm
    obtain ⟨g1, _⟩ := hT j _ (by rw [List.getElem?_eq_getElem hj, e])
    exact absurd (Heap.lt_size g1) (Nat.lt_irrefl _)
  refine ⟨.ref h'.objs.size, _, I4.laid (o := .tup (Ts.map V.ref)) (t' := s2.toks) (fun b u e => Heap.get?_push_of_some _ e) (Nat.le_refl _) ⟨?_, Ts.map Value.ref, vals_refs Ts, ⟨_, Heap.get?_push_size _ rfl, rfl, 0, rfl⟩⟩, rfl, q Ts h'.objs.size hTl nd nTs (fun T hm => (fresh T hm).1) hfresh⟩
  rw [List.length_map, hTl]
  exact hnz
end RZN
namespace DL
open PySem PySem.Spec PyProof.Rows L2
def rowsOf : List D → Option (List (List D))
  | [] => some []
  | d :: ds => match seqT d with
    | some r => match rowsOf ds with
      | some rs => some (r :: rs)
      | none => none
    | none => none
def colsD (rows : List (List D)) (n : Nat) : List D := (List.range n).map fun j => D.tup (rows.map fun r => r.getD j .non)
def zipTD (S : Sto) (d : D) : Option D := match seqA S d with
  | some ds => match rowsOf ds with
    | some (r :: rs) => if (r :: rs).all (fun x => x.length == r.length) = true then some (.tup (colsD (r :: rs) r.length)) else none
    | _ => none
  | none => none
@[simp] def dZipT (f : Env → M D) : Env → M D := fun ρ => mbind (f ρ) fun d S => (mopt (zipTD S d) : M D) S
section
variable {K : PySem.W.Frag} {b m : List Addr} {H : Hp}
theorem rows_rep {n : Nat} : ∀ {ds : List D} {vs : List V} {rs : List (List D)}, Reps K b m H vs ds → rowsOf ds = some rs → (∀ r ∈ rs, r.length = n) →
    ∃ (as : List Addr) (xss : List (List V)), vs = as.map V.ref ∧ as.length = rs.length ∧ Paired (fun a xs => SqT K H a xs ∧ xs.length = n) as xss ∧ Paired (fun xs r => Reps K b m H xs r) xss rs
  | [], _, rs, .nil, e, _ => by
    cases e
    exact ⟨[], [], rfl, rfl, .nil, .nil⟩
  | d :: ds, _, rs, .cons (v := v) (vs := vs) r0 r, e, hn => by
    unfold rowsOf at e
    cases q : seqT d with
    | none => rw [q] at e; cases e
    | some x =>
      rw [q] at e
      cases q2 : rowsOf ds with
      | none => rw [q2] at e; cases e
      | some xs =>
        rw [q2] at e
        cases e
        obtain ⟨as, xss, e1, e2, e3, e4⟩ := rows_rep r q2 fun y hy => hn y (List.mem_cons_of_mem _ hy)
        obtain ⟨a, ys, rfl, h1, h2⟩ := seqT_rep r0 q
        exact ⟨a :: as, ys :: xss, by rw [List.map_cons, e1], congrArg Nat.succ e2, .cons ⟨h1, by rw [h2.length]; exact hn x List.mem_cons_self⟩ e3, .cons h2 e4⟩
theorem col_rep {n j : Nat} (hj : j < n) : ∀ {xss : List (List V)} {rs : List (List D)}, Paired (fun xs r => Reps K b m H xs r) xss rs → (∀ r ∈ rs, r.length = n) → Reps K b m H (RZN.colV xss j) (rs.map fun r => r.getD j .non)
  | _, _, .nil, _ => .nil
  | _, _, .cons (a := xs) (b := r) h t, hn => by
    refine .cons ?_ (col_rep hj t fun y hy => hn y (List.mem_cons_of_mem _ hy))
    have hr := hn r List.mem_cons_self
    have hx : r[j]? = some (r.getD j .non) := by
      rw [List.getD_eq_getElem?_getD, List.getElem?_eq_getElem (by rw [hr]; exact hj)]
      rfl
    obtain ⟨v, hv, rv⟩ := h.get hx
    show Rep K b m H (xs.getD j .non) (r.getD j .non)
    rw [List.getD_eq_getElem?_getD, hv]
    exact rv
theorem tups_rep : ∀ {Ts : List Addr} {cs : List (List V)} {ds : List (List D)}, (∀ p ∈ Ts.zip cs, H p.1 = some (.tup p.2)) → Ts.length = cs.length → Paired (fun c d => Reps K b m H c d) cs ds → Reps K b m H (Ts.map V.ref) (ds.map D.tup)
  | [], [], _, _, _, .nil => .nil
  | T :: Ts, c :: cs, _, h, hl, .cons r t => .cons (.tup (h (T, c) List.mem_cons_self) r) (tups_rep (fun p hp => h p (List.mem_cons_of_mem _ hp)) (by simpa using hl) t)
end
section
variable {X : Cx} {W : WX} {e : Expr} {f : Env → M D} {p p2 p3 p4 pos : Pos}
theorem paired_map {α β γ : Type} {F : β → γ → Prop} {g : α → β} {h : α → γ} : ∀ xs : List α, (∀ x ∈ xs, F (g x) (h x)) → Paired F (xs.map g) (xs.map h)
  | [], _ => .nil
  | x :: r, k => .cons (k x List.mem_cons_self) (paired_map r fun y hy => k y (List.mem_cons_of_mem _ hy))
theorem pd_zipT (hc : X.calm = true) (hg : Gl X "tuple") (hm : X.mg "tuple" = none) (hg2 : Gl X "zip") (hm2 : X.mg "zip" = none) (he : PD X W e f)
    (na : starEach [.Call (.Name "zip" p2) [.Starred e p3] [] p4] X.env = (false, eval (.Call (.Name "zip" p2) [.Starred e p3] [] p4) X.env) :: starEach [] X.env := by rfl) (ns : starEach [.Starred e p3] X.env = [(true, eval e X.env)] := by rfl) :
    PD X W (.Call (.Name "tuple" p) [.Call (.Name "zip" p2) [.Starred e p3] [] p4] [] pos) (dZipT f) :=
  PE.imp (RZN.pe_zipT hc hg hm hg2 hm2 he na ns) fun σ H Q ⟨b, m, ρ, S, hv, hs, h⟩ => ⟨b, m, ρ, S, hv, hs, Post.then h fun d S1 m1 H1 v e1 t1 s1 r1 h1 => by
    cases q : zipTD S1 d with
    | none => simp only [q, mopt_none] at h1; exact h1.elim
    | some z =>
      simp only [q, mopt_some] at h1
      unfold zipTD at q
      cases q1 : seqA S1 d with
      | none => simp only [q1] at q; cases q
      | some ds =>
        simp only [q1] at q
        split at q
        · rename_i r rs q2
          split at q
          · rename_i hall
            cases q
            have hn : ∀ x ∈ r :: rs, x.length = r.length := fun x hx => by
              have := List.all_eq_true.mp hall x hx
              simpa using this
            obtain ⟨a, xs, rfl, g1, g2⟩ := seqA_rep s1 r1 q1
            obtain ⟨as, xss, rfl, g3, g4, g5⟩ := rows_rep g2 q2 hn
            refine ⟨a, as, xss, r.length, rfl, g1.symm, fun z => (by rw [z] at g3; cases g3), g4, fun Ts p' hT nd np hf hp => ?_⟩
            have zl : (Ts.zip (RZN.colsV xss r.length)).map (·.1) = Ts := by
              rw [List.map_fst_zip]
              unfold RZN.colsV
              simp [hT]
            have mem : ∀ p ∈ Ts.zip (RZN.colsV xss r.length), p.1 ∈ Ts := fun p hp => by rw [← zl]; exact List.mem_map.mpr ⟨p, hp, rfl⟩
            have sa : DL.Same H1 (RZN.updAll H1 (Ts.zip (RZN.colsV xss r.length))) := RZN.same_all _ _ (by rw [zl]; exact nd) fun p hp' => hf _ (mem p hp')
            have np' : RZN.updAll H1 (Ts.zip (RZN.colsV xss r.length)) p' = none := by
              rw [RZN.updAll_ne _ _ (by rw [zl]; exact np)]
              exact hp
            have sb : DL.Same (RZN.updAll H1 (Ts.zip (RZN.colsV xss r.length))) (upd (RZN.updAll H1 (Ts.zip (RZN.colsV xss r.length))) p' (.tup (Ts.map V.ref))) := Same.upd np'
            have T1 : Tr m1 H1 m1 (upd (RZN.updAll H1 (Ts.zip (RZN.colsV xss r.length))) p' (.tup (Ts.map V.ref))) := (Same.tr sa).trans (Same.tr sb)
            refine h1 _ _ _ T1 ((s1.same sa).same sb) (.tup upd_same ?_)
            have hcols : Paired (fun c d => Reps X.K b m1 H1 c d) (RZN.colsV xss r.length) ((List.range r.length).map fun j => (r :: rs).map fun x => x.getD j .non) :=
              paired_map _ fun j hj => col_rep (List.mem_range.mp hj) g5 hn
            have key := tups_rep (K := X.K) (b := b) (m := m1) (H := upd (RZN.updAll H1 (Ts.zip (RZN.colsV xss r.length))) p' (.tup (Ts.map V.ref))) (Ts := Ts) (cs := RZN.colsV xss r.length) (ds := (List.range r.length).map fun j => (r :: rs).map fun x => x.getD j .non)
              (fun p hp' => sb.old _ _ (RZN.updAll_at _ _ (by rw [zl]; exact nd) p hp')) (by unfold RZN.colsV; simp [hT]) (by
                clear h1
                have tr : ∀ {cs : List (List V)} {es : List (List D)}, Paired (fun c d => Reps X.K b m1 H1 c d) cs es → Paired (fun c d => Reps X.K b m1 (upd (RZN.updAll H1 (Ts.zip (RZN.colsV xss r.length))) p' (.tup (Ts.map V.ref))) c d) cs es := by
                  intro cs es h
                  induction h with
                  | nil => exact .nil
                  | cons r t ih => exact .cons (r.tr T1) ih
                exact tr hcols)
            rw [List.map_map] at key
            exact key
          · cases q
        · cases q⟩
end
end DL
set_option Elab.async false
set_option linter.all false
set_option maxRecDepth 100000
set_option maxHeartbeats 4000000
/-! tuple * int, all ints -/
namespace RTM
open PySem PySem.Spec PyProof.Rows L2
theorem mul1 (l : Addr) (items : Array Value) (n : Nat) (dd : Option Addr) (sl : Array (Option Value)) (u : Tok) :
    Meets (Builtin.«tuple.__mul__» ⟨[.ref l, .int 1 u], []⟩) (fun _ R s => s.heap.get? l = some { cls := .type "tuple", dict := dd, data := .seq items n, slots := sl } ∧ R (.ok (.ret (Value.ref l))) s) :=
  .of_wp fun prog w A R s h => by
    obtain ⟨hp, g, d, tk, os⟩ := s
    obtain ⟨hl, h⟩ := h
    have f1 := AutoSeq1.idx_int
    wp_walk using wpAny_loadPart' hl
    exact ⟨_, rfl, h⟩
theorem mul0 (l : Addr) (items : Array Value) (n : Nat) (dd : Option Addr) (sl : Array (Option Value)) (x : Int) (u : Tok) (c0 : (decide (x < -(2 ^ 63)) || decide (x ≥ 2 ^ 63)) = false) (c1 : (items.isEmpty || x == 1) = false) (c2 : (decide (x ≤ 0) || items.isEmpty) = true) :
    Meets (Builtin.«tuple.__mul__» ⟨[.ref l, .int x u], []⟩) (fun _ R s => s.heap.get? l = some { cls := .type "tuple", dict := dd, data := .seq items n, slots := sl } ∧
      R (.ok (.ret (Value.ref s.heap.objs.size))) { s with heap := s.heap.push { cls := Value.type "tuple", data := Data.seq #[] }, toks := s.toks }) :=
  .of_wp fun prog w A R s h => by
    obtain ⟨hp, g, d, tk, os⟩ := s
    obtain ⟨hl, h⟩ := h
    have f1 := AutoSeq1.idx_int
    wp_walk using wpAny_loadPart' hl
    repeat (first
      | (refine wpAny_ite_false (decide_eq_false (by rw [c0]; exact Bool.false_ne_true)) ?_; wp_walk using wpAny_loadPart' hl)
      | (refine wpAny_ite_false (decide_eq_false (by rw [c1]; exact Bool.false_ne_true)) ?_; wp_walk using wpAny_loadPart' hl)
      | (refine wpAny_ite_true (decide_eq_true c2) ?_; wp_walk using wpAny_loadPart' hl))
    exact ⟨_, rfl, h⟩
def rRepU (K : PySem.W.Frag) : R2 := fun x y H Q => ∃ l k xs, x = .ref l ∧ y = .int k ∧ SqT K H l xs ∧ xs ≠ [] ∧ -1000 ≤ k ∧ k ≤ 1000 ∧ xs.length ≤ 1000 ∧ (k = 1 → Q (.ref l) H) ∧ (k ≠ 1 → ∀ p, H p = none → Q (.ref p) (upd H p (.tup (List.replicate k.toNat xs).flatten)))
section
variable {X : Cx}
theorem op_repU : OpR X (binaryOp .Mult) (rRepU X.K) := by
  intro pins s σ H x y v u Q I rx ry h
  obtain ⟨l, k, xs, rfl, rfl, hT, hne, h1, h2, hz, q1, q⟩ := h
  by_cases h3 : 2 ≤ k
  · exact op_repT pins s σ H _ _ v u Q I rx ry ⟨l, k, xs, rfl, rfl, hT, hne, h3, h2, hz, q (by omega)⟩
  cases rx
  obtain ⟨t, rfl⟩ := ry
  obtain ⟨its, r, ⟨⟨cls, dd, data, sl⟩, ho, hc, n, hd⟩, hs⟩ := I.tuple hT
  simp only at hc hd
  subst hc hd
  have hle : its.length = xs.length := r.length.symm
  have hn : its ≠ [] := fun e => hne (by
    rw [e] at hle
    exact List.eq_nil_of_length_eq_zero hle.symm)
  have hi : its.toArray.isEmpty = false := by
    cases its with
    | nil => exact absurd rfl hn
    | cons a b => rfl
  have c0 : (decide (k < -(2 ^ 63)) || decide (k ≥ 2 ^ 63)) = false := by
    rw [decide_eq_false (by omega), decide_eq_false (by omega)] <;> rfl
  by_cases h4 : k = 1
  · subst h4
    exact wpAny_binaryOp_repeat_ref (T := "tuple") (U := "int") (by decide) ⟨_, ho, rfl⟩ (fun s' => typeIs_int s' 1 t) noFill_tuple_mul F.fills_int_mul F.slot_int_rmul repeat_tuple F.slot_int_index.lookup
      (call_meets F.slot_int_rmul (typeIs_int s 1 t) F.entry_int_rmul (F.args_int_rmul_2 _ _) (int_rmul_tuple 1 t l its.toArray n dd sl)
        ⟨ho, rfl, ⟨_, ho, rfl⟩, call_meets F.slot_tuple_mul ⟨_, ho, rfl⟩ F.entry_tuple_mul (F.args_tuple_mul_2 _ _) (mul1 l its.toArray n dd sl t) ⟨ho, ⟨.ref l, H, I, rfl, q1 rfl⟩⟩⟩)
  have c1 : (its.toArray.isEmpty || k == 1) = false := by
    rw [hi, Bool.false_or]
    exact beq_eq_false_iff_ne.mpr h4
  have c2 : (decide (k ≤ 0) || its.toArray.isEmpty) = true := by
    rw [hi, Bool.or_false]
    exact decide_eq_true (by omega)
  refine wpAny_binaryOp_repeat_ref (T := "tuple") (U := "int") (by decide) ⟨_, ho, rfl⟩ (fun s' => typeIs_int s' k t) noFill_tuple_mul F.fills_int_mul F.slot_int_rmul repeat_tuple F.slot_int_index.lookup
    (call_meets F.slot_int_rmul (typeIs_int s k t) F.entry_int_rmul (F.args_int_rmul_2 _ _) (int_rmul_tuple k t l its.toArray n dd sl)
      ⟨ho, rfl, ⟨_, ho, rfl⟩, call_meets F.slot_tuple_mul ⟨_, ho, rfl⟩ F.entry_tuple_mul (F.args_tuple_mul_2 _ _) (mul0 l its.toArray n dd sl k t c0 c1 c2) ⟨ho, ?_⟩⟩)
  have e0 : k.toNat = 0 := by omega
  have q := q h4
  rw [e0] at q
  exact ⟨.ref s.heap.objs.size, _, I.laid (t' := s.toks) (o := .tup []) (fun b ob q => Heap.get?_push_of_some _ q) (Nat.le_refl _) ⟨Nat.zero_le _, [], .nil, ⟨_, Heap.get?_push_size _ rfl, rfl, 0, rfl⟩⟩, rfl, q _ (I.hok.fresh (Nat.le_refl _))⟩
end
end RTM
namespace DL
open PySem PySem.Spec PyProof.Rows L2
def gRepT : G2 := fun _ x y => match x, y with
  | .tup ds, .int k => if ds ≠ [] ∧ -1000 ≤ k ∧ k ≤ 1000 ∧ ds.length ≤ 1000 then some (.tup (List.replicate k.toNat ds).flatten) else none
  | _, _ => none
theorem den_repT {K : PySem.W.Frag} : OpDen K (RTM.rRepU K) gRepT := by
  intro b m H S x y dx dy d Q hs rx ry e q
  cases rx <;> try (cases e; done)
  rename_i a xs ds h1 h2
  cases ry <;> try (cases e; done)
  rename_i k
  have e' : (if ds ≠ [] ∧ -1000 ≤ k ∧ k ≤ 1000 ∧ ds.length ≤ 1000 then some (D.tup (List.replicate k.toNat ds).flatten) else none) = some d := e
  split at e'
  · rename_i hh
    cases e'
    refine ⟨a, k, xs, rfl, rfl, .inl (.inl h1), fun z => hh.1 (h2.nil_iff.mp z), hh.2.1, hh.2.2.1, by rw [h2.length]; exact hh.2.2.2, fun e1 => ?_, fun _ p hp => q _ _ (Same.upd hp) (Rep.newTup hp (Reps.rep h2 k.toNat))⟩
    subst e1
    have e2 : (List.replicate (1 : Int).toNat ds).flatten = ds := by simp
    rw [e2] at q
    exact q H _ (Same.refl H) (.tup h1 h2)
  · cases e'
@[simp] theorem gRepT_tup (S : Sto) (ds : List D) (k : Int) : gRepT S (.tup ds) (.int k) = if ds ≠ [] ∧ -1000 ≤ k ∧ k ≤ 1000 ∧ ds.length ≤ 1000 then some (.tup (List.replicate k.toNat ds).flatten) else none := rfl
end DL
set_option Elab.async false
set_option linter.all false
set_option maxRecDepth 100000
set_option maxHeartbeats 4000000
/-! < for data that are alike -/
namespace DL
open PySem PySem.Spec PyProof.Rows L2
def rLtU (K : PySem.W.Frag) : R2 := fun x y H Q => ∃ d e, Dp K H x d ∧ Dp K H y e ∧ PySem.W.alike d e = true ∧ d ≠ .none ∧ d.depth ≤ 60 ∧ Q (.bl (PySem.W.dataLt d e)) H
section
variable {X : Cx}
theorem op_ltU (hu : X.A.units + 64 < cLine) : OpR X (compareOp .Lt) (rLtU X.K) := by
  intro pins s σ H x y v u Q I rx ry h
  obtain ⟨d, e, hd, he, sd, se, sp, q⟩ := h
  obtain ⟨as, r1⟩ := Dp.reads I d x v hd rx
  obtain ⟨bs, r2⟩ := Dp.reads I e y u he ry
  exact PySem.W.lt_data r1 r2 sd se (by have : min d.depth e.depth ≤ d.depth := Nat.min_le_left _ _; omega) ⟨.bl _, H, I, rfl, q⟩
end
def isNone : PyData → Bool
  | .none => true
  | _ => false
def gLtU : G2 := fun S x y => match pyS S x, pyS S y with
  | some p, some q => if PySem.W.alike p q = true ∧ isNone p = false ∧ p.depth ≤ 60 then some (.bl (PySem.W.dataLt p q)) else none
  | _, _ => none
theorem den_ltU {K : PySem.W.Frag} : OpDen K (rLtU K) gLtU := by
  intro b m H S x y dx dy d Q hs rx ry e q
  unfold gLtU at e
  cases e1 : pyS S dx with
  | none => simp only [e1] at e; cases e
  | some p =>
    cases e2 : pyS S dy with
    | none => simp only [e1, e2] at e; cases e
    | some p2 =>
      simp only [e1, e2] at e
      by_cases hc : PySem.W.alike p p2 = true ∧ isNone p = false ∧ p.depth ≤ 60
      · rw [if_pos hc] at e
        cases e
        exact ⟨p, p2, pyS_dp hs rx e1, pyS_dp hs ry e2, hc.1, by intro z; rw [z] at hc; exact absurd hc.2.1 (by decide), hc.2.2, q H _ (Same.refl H) (.bl _)⟩
      · rw [if_neg hc] at e; cases e
end DL
set_option Elab.async false
set_option linter.all false
set_option maxRecDepth 100000
set_option maxHeartbeats 4000000
namespace DL
open PySem PySem.Spec PyProof.Rows L2
/-! ### walks over what is written to -/
section
variable {wk : Wk} {g : DG} {t : Env → M Bool} {e : Env → M D} {ρ : Env}
theorem compLW_n {α : Type} (q : α → D) (p : α → Bool) (fn : α → D) {S : Sto} (xs : List α) (hw : wk S = some (xs.map q)) (h : ∀ x ∈ xs, ∃ ρ1, g (q x) ρ = some ρ1 ∧ t ρ1 S = .ok (p x) S ∧ (p x = true → e ρ1 S = .ok (fn x) S)) : ∀ (n i : Nat), xs.length - i < n → compLW wk g t e ρ n i S = .ok (((xs.drop i).filter p).map fn) S
  | 0, i, hn => by omega
  | n + 1, i, hn => by
    unfold compLW
    rw [hw]
    by_cases hi : i < xs.length
    · have e1 : (xs.map q)[i]? = some (q xs[i]) := by rw [List.getElem?_map, List.getElem?_eq_getElem hi]; rfl
      obtain ⟨ρ1, h1, h2, h3⟩ := h xs[i] (List.getElem_mem hi)
      have ih := compLW_n q p fn xs hw h n (i + 1) (by omega)
      simp only [e1, h1, nox_ok h2, then_ok]
      rw [List.drop_eq_getElem_cons hi]
      by_cases hp : p xs[i] = true
      · have h4 := h3 hp
        simp only [hp, if_true, mbind, nox_ok h4, then_ok, ih, mret, List.filter_cons_of_pos, List.map_cons]
      · simp only [hp, if_false, ih, Bool.false_eq_true]
        rw [List.filter_cons_of_neg hp]
    · have e1 : (xs.map q)[i]? = none := by rw [List.getElem?_eq_none_iff, List.length_map]; omega
      simp only [e1]
      rw [List.drop_of_length_le (by omega)]
      rfl
theorem compLW_of {α : Type} (q : α → D) (p : α → Bool) (fn : α → D) {S : Sto} (xs : List α) (hl : xs.length < 1000000) (hw : wk S = some (xs.map q)) (h : ∀ x ∈ xs, ∃ ρ1, g (q x) ρ = some ρ1 ∧ t ρ1 S = .ok (p x) S ∧ (p x = true → e ρ1 S = .ok (fn x) S)) : compLW wk g t e ρ 1000000 0 S = .ok ((xs.filter p).map fn) S := by
  have := compLW_n q p fn xs hw h 1000000 0 (by omega)
  rw [List.drop_zero] at this
  exact this
theorem compLW_all {α : Type} (q : α → D) (fn : α → D) {S : Sto} (xs : List α) (hl : xs.length < 1000000) (hw : wk S = some (xs.map q)) (h : ∀ x ∈ xs, ∃ ρ1, g (q x) ρ = some ρ1 ∧ t ρ1 S = .ok true S ∧ e ρ1 S = .ok (fn x) S) : compLW wk g t e ρ 1000000 0 S = .ok (xs.map fn) S := by
  have := compLW_of (g := g) (t := t) (e := e) (ρ := ρ) (S := S) q (fun _ => true) fn xs hl hw fun x hx => by
    obtain ⟨ρ1, h1, h2, h3⟩ := h x hx
    exact ⟨ρ1, h1, h2, fun _ => h3⟩
  rw [this, List.filter_eq_self.mpr fun _ _ => rfl]
end
section
variable {wk : Wk} {gt : DG} {f g : DS} {ρ : Env} {S : Sto} {Q : Fl → Sto → Prop}
theorem wp_loopW_n {α : Type} (xs : List α) (q : α → D) (I : Nat → Env → Sto → Prop) (hcur : ∀ k ρ S, I k ρ S → wk S = some (xs.map q)) (step : ∀ k (h : k < xs.length) ρ S, I k ρ S → ∃ ρ1, gt (q xs[k]) ρ = some ρ1 ∧ Wp (f ρ1 S) (turnQ Q (I (k + 1)))) (fin : ∀ ρ S, I xs.length ρ S → Q (.nx ρ) S) : ∀ (n i : Nat) (ρ : Env) (S : Sto), i ≤ xs.length → xs.length - i < n → I i ρ S → Wp (sLoopW wk gt f n i ρ S) Q
  | 0, i, ρ, S, _, hn, _ => by omega
  | n + 1, i, ρ, S, hil, hn, h => by
    unfold sLoopW
    rw [hcur i ρ S h]
    by_cases hi : i < xs.length
    · have e1 : (xs.map q)[i]? = some (q xs[i]) := by rw [List.getElem?_map, List.getElem?_eq_getElem hi]; rfl
      obtain ⟨ρ1, h1, h2⟩ := step i hi ρ S h
      obtain ⟨fl, S', e2, h3⟩ := wp_ex h2
      simp only [e1, h1, e2]
      cases fl with
      | nx ρ2 => exact wp_loopW_n xs q I hcur step fin n (i + 1) ρ2 S' (by omega) (by omega) h3
      | ct ρ2 => exact wp_loopW_n xs q I hcur step fin n (i + 1) ρ2 S' (by omega) (by omega) h3
      | bk ρ2 => exact h3
      | rt d => exact h3
    · have e1 : (xs.map q)[i]? = none := by rw [List.getElem?_eq_none_iff, List.length_map]; omega
      simp only [e1]
      obtain rfl : i = xs.length := by omega
      exact fin ρ S h
theorem wp_loopW {α : Type} (xs : List α) (q : α → D) (I : Nat → Env → Sto → Prop) (hl : xs.length < 1000000) (hcur : ∀ k ρ S, I k ρ S → wk S = some (xs.map q)) (step : ∀ k (h : k < xs.length) ρ S, I k ρ S → ∃ ρ1, gt (q xs[k]) ρ = some ρ1 ∧ Wp (f ρ1 S) (turnQ Q (I (k + 1)))) (fin : ∀ ρ S, I xs.length ρ S → Q (.nx ρ) S) (h0 : I 0 ρ S) : Wp (sLoopW wk gt f 1000000 0 ρ S) Q :=
  wp_loopW_n xs q I hcur step fin 1000000 0 ρ S (Nat.zero_le _) (by omega) h0
theorem l_forW {fi : Env → M Wk} (h : (fi ρ S).sat fun wk S' => Wp (sLoopW wk gt f 1000000 0 ρ S') Q) : Wp (sForW fi gt f ρ S) Q := by
  obtain ⟨wk, S', e, h1⟩ := sat_ex_of h
  show Wp (sbind (fi ρ S) ρ _) Q
  rw [e]
  exact h1
theorem w_forW {fi : Env → M Wk} (h : ∀ g', g' = g → (fi ρ S).sat fun wk S' => Wp (sLoopW wk gt f 1000000 0 ρ S') (seqQ g' Q)) : Wp (sSeq (sForW fi gt f) g ρ S) Q := w_seq (l_forW (h g rfl))
end
/-! ### ranges from a number, enumerate -/
theorem rangeD_map (lo : Int) (n : Nat) : rangeD lo n = (List.range n).map fun i : Nat => D.int (lo + (i : Int)) := rfl
theorem wp_loopR2 {gt : DG} {f : DS} {ρ : Env} {S : Sto} {Q : Fl → Sto → Prop} {lo : Int} {n : Nat} (I : Nat → Env → Sto → Prop) (step : ∀ k, k < n → ∀ ρ S, I k ρ S → ∃ ρ1, gt (.int (lo + (k : Int))) ρ = some ρ1 ∧ Wp (f ρ1 S) (turnQ Q (I (k + 1)))) (fin : ∀ ρ S, I n ρ S → Q (.nx ρ) S) (h0 : I 0 ρ S) : Wp (sLoop gt f (rangeD lo n) ρ S) Q := by
  rw [rangeD_map]
  refine wp_loopN (List.range n) (fun i : Nat => D.int (lo + (i : Int))) I (fun k hk ρ S h => ?_) (by rw [List.length_range]; exact fin) h0
  rw [List.length_range] at hk
  rw [List.getElem_range]
  exact step k hk ρ S h
theorem enumD_map {α : Type} (q : α → D) : ∀ (xs : List α) (n : Nat), enumD n (xs.map q) = (xs.zipIdx n).map fun z => D.tup [.int (z.2 : Int), q z.1]
  | [], _ => rfl
  | x :: xs, n => by
    show D.tup [.int (n : Int), q x] :: enumD (n + 1) (xs.map q) = _
    rw [enumD_map q xs (n + 1), List.zipIdx_cons, List.map_cons]
theorem fin_wpE {N : Nat} {G : DS} {ds : List D} {S : Sto} {P : D → Prop} (h : Wp (G (startE N ds) S) fun f S' => S' = S ∧ ∃ d, P d ∧ match f with
    | .rt d' => d' = d
    | .nx _ => d = .non
    | _ => False) : ∃ d, P d ∧ fzF (mkF N G) ds S = .ok d S := by
  obtain ⟨f, S', e, rfl, d, hp, h⟩ := wp_ex h
  refine ⟨d, hp, ?_⟩
  show finO S'.length (outS _) = _
  rw [e]
  cases f with
  | nx ρ => subst h; exact finO_ok _ _
  | rt d => subst h; exact finO_ok _ _
  | bk ρ => exact h.elim
  | ct ρ => exact h.elim
/-! ### data of ints -/
theorem pys_ints : ∀ ns : List Int, D.pys (ns.map D.int) = some (ns.map PyData.int)
  | [] => rfl
  | n :: ns => by
    show (match D.py (.int n) with
      | some p => match D.pys (ns.map D.int) with
        | some ps => some (p :: ps)
        | none => none
      | none => none) = _
    rw [pys_ints ns]
    rfl
theorem cans_ints : ∀ ns : List Int, D.cans (ns.map D.int) = true
  | [] => rfl
  | n :: ns => by
    show (D.can (.int n) && D.cans (ns.map D.int)) = true
    rw [cans_ints ns]
    rfl
theorem dataL_ints {S : Sto} {d : D} {ns : List Int} (h : seqA S d = some (ns.map D.int)) : dataL S d = some (ns.map PyData.int) := by
  unfold dataL
  simp only [h, pys_ints]
  rw [if_pos]
  refine ⟨cans_ints ns, ?_, ?_, ?_⟩
  · unfold alikeB
    simp [PySem.W.alike]
  · induction ns with
    | nil => rfl
    | cons n ns ih => simp [PyData.canLayAll0, PyData.canLay0]; exact (by clear h ih; induction ns with | nil => rfl | cons m ms ih => simp [PyData.canLayAll0, PyData.canLay0, ih])
  · have : PyData.depthAll (ns.map PyData.int) = 0 := by
      clear h
      induction ns with
      | nil => rfl
      | cons n ns ih => simp [PyData.depthAll, PyData.depth, ih]
    omega
theorem cMinU_ints {S : Sto} {d : D} {n : Int} {ns : List Int} (h : seqA S d = some ((n :: ns).map D.int)) : cMinU S [d] = some (.int (ns.foldl min n)) := by
  show (match dataL S d with
    | some (p :: ps) => some (ofPy (PySem.W.minD p ps))
    | _ => none) = _
  rw [dataL_ints h]
  show some (ofPy (PySem.W.minD (.int n) (ns.map .int))) = _
  rw [PySem.W.minD_ints]
  rfl
theorem cMaxU_ints {S : Sto} {d : D} {n : Int} {ns : List Int} (h : seqA S d = some ((n :: ns).map D.int)) : cMaxU S [d] = some (.int (ns.foldl max n)) := by
  show (match dataL S d with
    | some (p :: ps) => some (ofPy (PySem.W.maxD p ps))
    | _ => none) = _
  rw [dataL_ints h]
  show some (ofPy (PySem.W.maxD (.int n) (ns.map .int))) = _
  rw [PySem.W.maxD_ints]
  rfl
def maxOr (z : D) : List Int → D
  | [] => z
  | n :: ns => .int (ns.foldl max n)
theorem cBestD_max {S : Sto} {d z : D} {ns : List Int} (h : seqA S d = some (ns.map D.int)) : cBestD PySem.W.maxD S d z = some (maxOr z ns) := by
  unfold cBestD
  rw [dataL_ints h]
  cases ns with
  | nil => rfl
  | cons n ns =>
    show some (ofPy (PySem.W.maxD (.int n) (ns.map .int))) = _
    rw [PySem.W.maxD_ints]
    rfl
theorem cSumT_ints (S : Sto) (ns : List Int) : cSumT S [.tup (ns.map D.int)] = some (.int ns.sum) := by
  show (intsD (ns.map D.int)).map (fun ns => D.int ns.sum) = _
  rw [intsD_map]
  rfl
@[simp] theorem kEnumT_tup (ds : List D) : kEnumT [.tup ds] = some (enumD 0 ds) := rfl
@[simp] theorem kEnum_lst (ds : List D) : kEnum [.lst ds] = some (enumD 0 ds) := rfl
@[simp] theorem enumD_length (n : Nat) (ds : List D) : (enumD n ds).length = ds.length := enumD_len n ds
theorem cSorted_ints (S : Sto) (ns : List Int) : cSorted S [.lst (ns.map D.int)] = some (.lst ((sortI ns).map D.int)) := by
  show (intsD (ns.map D.int)).map (fun ns => D.lst ((sortI ns).map D.int)) = _
  rw [intsD_map]
  rfl
theorem mem_sortI {n : Int} {ns : List Int} : n ∈ sortI ns ↔ n ∈ ns := (List.mergeSort_perm _ _).mem_iff
theorem mem_take_succ {α : Type} {l : List α} {i : Nat} (hi : i < l.length) {x : α} : x ∈ l.take (i + 1) ↔ x ∈ l.take i ∨ x = l[i] := by
  rw [List.take_succ_eq_append_getElem hi, List.mem_append, List.mem_singleton]
/-! ### a list behind the pool -/
section
open Pre
variable {R S : Sto} {xs : List D}
theorem st_ofPtr (h : St (R ++ [.lst xs]) S) : ofPtr S (R.length + 1) = some xs := by
  obtain ⟨ds, _, rfl⟩ := h
  exact ofPtr_of (by rw [List.getElem?_cons_succ, List.getElem?_append_right (Nat.le_refl _)]; simp)
theorem st_append (h : St (R ++ [.lst xs]) S) (hl : xs.length < 16777216) (d : D) : gAppend S (.ptr (R.length + 1)) [d] = some (.non, S.set (R.length + 1) (.lst (xs ++ [d]))) := by
  have := st_ofPtr h
  unfold gAppend
  simp only [this]
  rw [if_pos (by rw [sl_eq]; exact hl)]
theorem st_set (h : St (R ++ [.lst xs]) S) (ys : List D) : St (R ++ [.lst ys]) (S.set (R.length + 1) (.lst ys)) := by
  obtain ⟨ds, hp, rfl⟩ := h
  refine ⟨ds, hp, ?_⟩
  rw [List.set_cons_succ, List.set_append_right _ _ (Nat.le_refl _)]
  simp
theorem st_new (h : St R S) (ys : List D) : St (R ++ [.lst ys]) (S ++ [.lst ys]) := by
  obtain ⟨ds, hp, rfl⟩ := h
  exact ⟨ds, hp, rfl⟩
theorem st_isList (h : St (R ++ [.lst xs]) S) : isList S (.ptr (R.length + 1)) = true := by
  unfold isList
  rw [seqL_ptr, st_ofPtr h]
  rfl
end
@[simp] theorem mst_some (a : D) (S' : Sto) : mst (some (a, S')) = .ok a S' := rfl
theorem rng2_int (i j : Int) (h1 : -(2 ^ 62) ≤ i) (h2 : i < 2 ^ 62) (h3 : -(2 ^ 62) ≤ j) (h4 : j < 2 ^ 62) : rng2 [.int i, .int j] = some (rangeD i (j - i).toNat) := if_pos ⟨h1, h2, h3, h4⟩
theorem cTuple_ptr {S : Sto} {n : Nat} {xs : List D} (h : ofPtr S n = some xs) : cTuple S [.ptr n] = some (.tup xs) := by
  unfold cTuple
  simp only [seqA_ptr, h]
/-! ### defs that leave own lists behind -/
def Cls (S : Sto) : Prop := S.all (noPtrC S.length) = true
theorem st_cls {R S : Sto} (h : Pre.St R S) (hR : Pre.Cl R) : Cls S := by
  obtain ⟨ds, hp, rfl⟩ := h
  show (noPtrC (R.length + 1) (.lst ds) && R.all (noPtrC (R.length + 1))) = true
  rw [Pre.pool_nopn _ hp]
  exact hR
theorem fin_ext {S ex : Sto} {v : D} (hS : Cls S) (hv : ∀ n, noPtr n v = true) : finO S.length (.ok v (S ++ ex)) = .ok v S := by
  by_cases he : ex = []
  · subst he
    rw [List.append_nil]
    exact finO_ok v S
  · have e1 : ¬ (S ++ ex).length = S.length := by
      have := List.length_pos_iff.mpr he
      simp
      omega
    have e0 : (S ++ ex).take S.length = S := by rw [List.take_append_of_le_length (Nat.le_refl _), List.take_length]
    have e3 : fz (S ++ ex) S.length v = some v := if_pos (hv _)
    simp only [finO]
    have hS' : S.all (noPtrC S.length) = true := hS
    rw [if_neg e1, e0, if_pos hS']
    simp only [e3]
theorem fin_wpX {N : Nat} {G : DS} {ds : List D} {S : Sto} {v : D} (hS : Cls S) (hv : ∀ n, noPtr n v = true) (h : Wp (G (startE N ds) S) fun f S' => f = .rt v ∧ ∃ ex, S' = S ++ ex) : fzF (mkF N G) ds S = .ok v S := by
  obtain ⟨f, S', e, rfl, ex, rfl⟩ := wp_ex h
  show finO S.length (outS _) = _
  rw [e]
  exact fin_ext hS hv
/-! a list at the place n of the store -/
theorem app_ofPtr (S Cs : Sto) (xs : List D) : ofPtr (S ++ .lst xs :: Cs) S.length = some xs := ofPtr_of (by rw [List.getElem?_append_right (Nat.le_refl _)]; simp)
theorem app_set (S Cs : Sto) (xs ys : List D) : (S ++ .lst xs :: Cs).set S.length (.lst ys) = S ++ .lst ys :: Cs := by
  rw [List.set_append_right _ _ (Nat.le_refl _)]
  simp
theorem app_append (S Cs : Sto) (xs : List D) (hl : xs.length < 16777216) (d : D) : gAppend (S ++ .lst xs :: Cs) (.ptr S.length) [d] = some (.non, S ++ .lst (xs ++ [d]) :: Cs) := by
  unfold gAppend
  simp only [app_ofPtr]
  rw [if_pos (by rw [sl_eq]; exact hl), app_set]
theorem app_isList (S Cs : Sto) (xs : List D) : isList (S ++ .lst xs :: Cs) (.ptr S.length) = true := by
  unfold isList
  rw [seqL_ptr, app_ofPtr]
  rfl
/-! slices of tuples between two numbers -/
theorem sl_both (S : Sto) (xs : List D) (a b : Nat) (ha : a ≤ b) : gSl S (some (a : Int)) (some (b : Int)) (.tup xs) = some (.tup ((xs.drop a).take (b - a))) := by
  show some (D.tup (cutD xs _ _)) = _
  unfold cutD
  rw [HT.sIx_nat, HT.sIx_nat]
  congr 2
  by_cases h : a ≤ xs.length
  · rw [Nat.min_eq_left h]
    by_cases h2 : b ≤ xs.length
    · rw [Nat.min_eq_left h2]
    · rw [Nat.min_eq_right (by omega), List.take_of_length_le (by rw [List.length_drop]; exact Nat.le_refl _), List.take_of_length_le (by rw [List.length_drop]; omega)]
  · have h1 : min a xs.length = xs.length := by omega
    rw [h1, List.drop_of_length_le (Nat.le_refl _), List.drop_of_length_le (by omega), List.take_nil, List.take_nil]
/-! rows turned over -/
theorem rowsOf_map {α : Type} (f : α → List D) : ∀ xs : List α, rowsOf (xs.map fun x => D.tup (f x)) = some (xs.map f)
  | [] => rfl
  | x :: xs => by
    show (match seqT (D.tup (f x)) with
      | some r => match rowsOf (xs.map fun x => D.tup (f x)) with
        | some rs => some (r :: rs)
        | none => none
      | none => none) = _
    rw [rowsOf_map f xs]
    rfl
theorem zipTD_of {S : Sto} {d : D} {α : Type} (f : α → List D) {xs : List α} {n : Nat} (h : seqA S d = some (xs.map fun x => D.tup (f x))) (ne : xs ≠ []) (hn : ∀ x ∈ xs, (f x).length = n) : zipTD S d = some (.tup ((List.range n).map fun j => D.tup (xs.map fun x => (f x).getD j .non))) := by
  unfold zipTD
  simp only [h, rowsOf_map]
  cases xs with
  | nil => exact absurd rfl ne
  | cons x r =>
    have hx := hn x List.mem_cons_self
    simp only [List.map_cons]
    rw [if_pos]
    · rw [hx]
      unfold colsD
      simp only [List.map_cons, List.map_map]
      rfl
    · rw [List.all_eq_true]
      intro y hy
      rw [← List.map_cons (f := f)] at hy
      obtain ⟨z, hz, rfl⟩ := List.mem_map.mp hy
      simp [hn z hz, hx]
section
variable {α : Type} {g : DG} {t : Env → M Bool} {e : Env → M D} {ρ : Env} {S : Sto} {Q : List D → Sto → Prop} {q : α → D} {xs : List α}
theorem sat_all (fn : α → D) (h : ∀ x ∈ xs, ∃ ρ1, g (q x) ρ = some ρ1 ∧ t ρ1 S = .ok true S ∧ e ρ1 S = .ok (fn x) S) (k : Q (xs.map fn) S) : (compL g t e ρ (xs.map q) S).sat Q := sat_of (compL_all q fn xs h) k
theorem sat_filter (p : α → Bool) (fn : α → D) (h : ∀ x ∈ xs, ∃ ρ1, g (q x) ρ = some ρ1 ∧ t ρ1 S = .ok (p x) S ∧ (p x = true → e ρ1 S = .ok (fn x) S)) (k : Q ((xs.filter p).map fn) S) : (compL g t e ρ (xs.map q) S).sat Q := sat_of (compL_of q p fn xs h) k
theorem satW_all {wk : Wk} (xs : List α) (q : α → D) (fn : α → D) (hl : xs.length < 1000000) (hw : wk S = some (xs.map q)) (h : ∀ x ∈ xs, ∃ ρ1, g (q x) ρ = some ρ1 ∧ t ρ1 S = .ok true S ∧ e ρ1 S = .ok (fn x) S) (k : Q (xs.map fn) S) : (compLW wk g t e ρ 1000000 0 S).sat Q := sat_of (compLW_all q fn xs hl hw h) k
theorem sat_allG {Q : Bool → Sto → Prop} (p : α → Bool) (h : ∀ x ∈ xs, ∃ ρ1, g (q x) ρ = some ρ1 ∧ t ρ1 S = .ok true S ∧ e ρ1 S = .ok (.bl (p x)) S) (k : Q (xs.all p) S) : (boolL false g t e ρ (xs.map q) S).sat Q := sat_of (boolL_all q p xs h) k
theorem sat_anyG {Q : Bool → Sto → Prop} (p : α → Bool) (h : ∀ x ∈ xs, ∃ ρ1, g (q x) ρ = some ρ1 ∧ t ρ1 S = .ok true S ∧ e ρ1 S = .ok (.bl (p x)) S) (k : Q (xs.any p) S) : (boolL true g t e ρ (xs.map q) S).sat Q := sat_of (boolL_any q p xs h) k
end
end DL
set_option Elab.async false
set_option linter.all false
set_option maxRecDepth 100000
set_option maxHeartbeats 4000000
namespace k57
open PySem PySem.Spec PyProof.Rows L2 DL
/-! ### the text -/
def topS (i : Nat) : Stmt := PySem.Challenge.pw_foldandbound_k57_whole_lines_of_words.main.body.getD i (.Pass ⟨0, 0, 0, 0⟩)
abbrev s_line_width : Stmt := topS 1
abbrev s_badness : Stmt := topS 2
abbrev s_best_number : Stmt := topS 3
abbrev s_best_lines : Stmt := topS 4
abbrev s__law_same : Stmt := topS 6
abbrev s__law_pool : Stmt := topS 7
abbrev s__law_spread : Stmt := topS 8
abbrev s__law_draw : Stmt := topS 9
abbrev s__law_pick : Stmt := topS 10
abbrev s__law_badness : Stmt := topS 11
abbrev s__law_divisions : Stmt := topS 12
abbrev s__law_asked_once : Stmt := topS 13
abbrev s_law : Stmt := topS 14
theorem sc_line_width : FnScope ["widths"] ["widths"] (defScope s_line_width) := ⟨rfl, rfl, rfl, by decide +kernel, rfl, by decide +kernel, by decide +kernel⟩
theorem sc_badness : FnScope ["widths", "width", "lines", "total", "start", "number", "left"] ["widths", "width", "lines"] (defScope s_badness) := ⟨rfl, rfl, rfl, by decide +kernel, rfl, by decide +kernel, by decide +kernel⟩
theorem sc_best_number : FnScope ["widths", "width", "rest", "start", "best", "end", "left", "total"] ["widths", "width", "rest", "start"] (defScope s_best_number) := ⟨rfl, rfl, rfl, by decide +kernel, rfl, by decide +kernel, by decide +kernel⟩
theorem sc_best_lines : FnScope ["widths", "width", "rest", "start", "lines"] ["widths", "width"] (defScope s_best_lines) := ⟨rfl, rfl, rfl, by decide +kernel, rfl, by decide +kernel, by decide +kernel⟩
theorem sc__law_same : FnScope ["actual", "due", "k"] ["actual", "due"] (defScope s__law_same) := ⟨rfl, rfl, rfl, by decide +kernel, rfl, by decide +kernel, by decide +kernel⟩
theorem sc__law_pool : FnScope ["script", "salt", "cell"] ["script"] (defScope s__law_pool) := ⟨rfl, rfl, rfl, by decide +kernel, rfl, by decide +kernel, by decide +kernel⟩
theorem sc__law_spread : FnScope ["cell", "mixed", "total", "k"] ["cell"] (defScope s__law_spread) := ⟨rfl, rfl, rfl, by decide +kernel, rfl, by decide +kernel, by decide +kernel⟩
theorem sc__law_draw : FnScope ["pool", "many", "value", "cell", "mixed"] ["pool", "many"] (defScope s__law_draw) := ⟨rfl, rfl, rfl, by decide +kernel, rfl, by decide +kernel, by decide +kernel⟩
theorem sc__law_pick : FnScope ["pool", "items"] ["pool", "items"] (defScope s__law_pick) := ⟨rfl, rfl, rfl, by decide +kernel, rfl, by decide +kernel, by decide +kernel⟩
theorem sc__law_badness : FnScope ["widths", "width", "lines", "total", "at", "k", "used", "number"] ["widths", "width", "lines"] (defScope s__law_badness) := ⟨rfl, rfl, rfl, by decide +kernel, rfl, by decide +kernel, by decide +kernel⟩
theorem sc__law_divisions : FnScope ["many", "found", "first", "rest"] ["many"] (defScope s__law_divisions) := ⟨rfl, rfl, rfl, by decide +kernel, rfl, by decide +kernel, by decide +kernel⟩
theorem sc__law_asked_once : FnScope ["pool", "widths", "width", "best", "lines", "handed", "found", "k"] ["pool"] (defScope s__law_asked_once) := ⟨rfl, rfl, rfl, by decide +kernel, rfl, by decide +kernel, by decide +kernel⟩
theorem sc_law : FnScope ["script", "pool", "k"] ["script"] (defScope s_law) := ⟨rfl, rfl, rfl, by decide +kernel, rfl, by decide +kernel, by decide +kernel⟩
/-! ### what the defs do, as functions of data -/
open DL.Pre (fuel)
def G_line_width : DS := (sRet (dOp2 gSub (dOp2 gAdd (dCallB cSum (aCons (dVar 0) aNil)) (dCallB cLen (aCons (dVar 0) aNil))) (dC (.int 1))))
def F_line_width : List D → M D := fzF (mkF 1 G_line_width)
open DL.Pre (G__law_same F__law_same)
open DL.Pre (G__law_pool F__law_pool)
open DL.Pre (G__law_spread F__law_spread)
def G__law_badness : DS := (sSeq (sIf (dOr (dTest (dOp2 gGt (dCallB cLen (aCons (dComp (iLst (dVar 2)) (gtName 7) (dTest (dOp2 gLt (dVar 7) (dC (.int 1)))) (dVar 7) [7]) aNil)) (dC (.int 0)))) (dTest (dOp2 gNe (dCallB cSum (aCons (dVar 2) aNil)) (dCallB cLen (aCons (dVar 0) aNil))))) (sRet (dC .non)) sNil)
  (sSeq (sAsg (dC (.int 0)) (gtName 3))
  (sSeq (sAsg (dC (.int 0)) (gtName 4))
  (sSeq (sFor (iArgs rng1 (aCons (dCallB cLen (aCons (dVar 2) aNil)) aNil)) (gtName 5) (sSeq (sAsg (dOp2 gSub (dOp2 gAdd (dCallB cSum (aCons (dSlice (dVar 0) (oSome (dVar 4)) (oSome (dOp2 gAdd (dVar 4) (dOp2 gIx (dVar 2) (dVar 5))))) aNil)) (dOp2 gIx (dVar 2) (dVar 5))) (dC (.int 1))) (gtName 6))
  (sSeq (sIf (dTest (dOp2 gGt (dVar 6) (dVar 1))) (sRet (dC .non)) sNil)
  (sSeq (sIf (dTest (dOp2 gLt (dVar 5) (dOp2 gSub (dCallB cLen (aCons (dVar 2) aNil)) (dC (.int 1))))) (sAsg (dOp2 gAdd (dVar 3) (dOp2 gMul (dOp2 gSub (dVar 1) (dVar 6)) (dOp2 gSub (dVar 1) (dVar 6)))) (gtName 3)) sNil)
  (sAsg (dOp2 gAdd (dVar 4) (dOp2 gIx (dVar 2) (dVar 5))) (gtName 4))))))
  (sRet (dVar 3))))))
def F__law_badness : List D → M D := fzF (mkF 8 G__law_badness)
def G__law_divisions (F__law_divisions_ : List D → M D) : DS := (sSeq (sIf (dTest (dOp2 gEq (dVar 0) (dC (.int 0)))) (sRet (dLst (aCons (dLst aNil) aNil))) sNil)
  (sSeq (sAsg (dLst aNil) (gtName 1))
  (sSeq (sFor (iArgs rng2 (aCons (dC (.int 1)) (aCons (dOp2 gAdd (dVar 0) (dC (.int 1))) aNil))) (gtName 2) (sAsg (dOp2 gAdd (dVar 1) (dComp (iLst (dCall 1 F__law_divisions_ (aCons (dOp2 gSub (dVar 0) (dVar 2)) aNil))) (gtName 3) dYes (dOp2 gAdd (dLst (aCons (dVar 2) aNil)) (dVar 3)) [3])) (gtName 1)))
  (sRet (dVar 1)))))
def F__law_divisions : Nat → List D → M D
  | 0 => fun _ => mbad
  | n + 1 => fzF (mkF 4 (G__law_divisions (F__law_divisions n)))
def G_badness : DS := (sSeq (sIf (dOr (dTest (dOp2 gNe (dCallB cSum (aCons (dVar 2) aNil)) (dCallB cLen (aCons (dVar 0) aNil)))) (dTrue (dBoolG true (iLst (dVar 2)) (gtName 5) dYes (dOp2 gLt (dVar 5) (dC (.int 1))) [5]))) (sRet (dC .non)) sNil)
  (sSeq (sAsg (dC (.int 0)) (gtName 3))
  (sSeq (sAsg (dC (.int 0)) (gtName 4))
  (sSeq (sFor (iLst (dVar 2)) (gtName 5) (sSeq (sAsg (dOp2 gSub (dVar 1) (dCall 1 F_line_width (aCons (dSlice (dVar 0) (oSome (dVar 4)) (oSome (dOp2 gAdd (dVar 4) (dVar 5)))) aNil))) (gtName 6))
  (sSeq (sIf (dTest (dOp2 gLt (dVar 6) (dC (.int 0)))) (sRet (dC .non)) sNil)
  (sSeq (sAug 4 gIAdd (dVar 5))
  (sIf (dTest (dOp2 gLt (dVar 4) (dCallB cLen (aCons (dVar 0) aNil)))) (sAug 3 gIAdd (dOp2 gMul (dVar 6) (dVar 6))) sNil)))))
  (sRet (dVar 3))))))
def F_badness : List D → M D := fzF (mkF 7 G_badness)
def G_best_number : DS := (sSeq (sAsg (dC .non) (gtName 4))
  (sSeq (sFor (iArgs rng2 (aCons (dOp2 gAdd (dVar 3) (dC (.int 1))) (aCons (dOp2 gAdd (dCallB cLen (aCons (dVar 0) aNil)) (dC (.int 1))) aNil))) (gtName 5) (sSeq (sAsg (dOp2 gSub (dVar 1) (dCall 1 F_line_width (aCons (dSlice (dVar 0) (oSome (dVar 3)) (oSome (dVar 5))) aNil))) (gtName 6))
  (sSeq (sIf (dTest (dOp2 gLt (dVar 6) (dC (.int 0)))) sBreak sNil)
  (sSeq (sAsg (dIfE (dTest (dOp2 gEq (dVar 5) (dCallB cLen (aCons (dVar 0) aNil)))) (dC (.int 0)) (dOp2 gAdd (dOp2 gMul (dVar 6) (dVar 6)) (dOp2 gIx (dGet (dVar 2) (dVar 5)) (dC (.int 0))))) (gtName 7))
  (sIf (dOr (dTest (dOp2 gIsNon (dVar 4) (dC .non))) (dTest (dOp2 gLt (dVar 7) (dOp2 gIx (dVar 4) (dC (.int 0)))))) (sAsg (dTup (aCons (dVar 7) (aCons (dOp2 gSub (dVar 5) (dVar 3)) aNil))) (gtName 4)) sNil)))))
  (sRet (dVar 4))))
def F_best_number : List D → M D := fzF (mkF 8 G_best_number)
open DL.Pre (G__law_draw F__law_draw)
def G_best_lines : DS := (sSeq (sAsg (dNewD (.K [])) (gtName 2))
  (sSeq (sFor (iArgs rng3 (aCons (dOp2 gSub (dCallB cLen (aCons (dVar 0) aNil)) (dC (.int 1))) (aCons (dNeg (dC (.int 1))) (aCons (dNeg (dC (.int 1))) aNil)))) (gtName 3) (sPut (dVar 2) (dVar 3) (dCall 4 F_best_number (aCons (dVar 0) (aCons (dVar 1) (aCons (dVar 2) (aCons (dVar 3) aNil)))))))
  (sSeq (sAsg (dLstP aNil) (gtName 4))
  (sSeq (sWh (dTest (dOp2 gLt (dCallB cSum (aCons (dVar 4) aNil)) (dCallB cLen (aCons (dVar 0) aNil)))) (sExpr (dMeth gAppend (dVar 4) (aCons (dOp2 gIx (dGet (dVar 2) (dCallB cSum (aCons (dVar 4) aNil))) (dC (.int 1))) aNil))) fuel)
  (sRet (dVar 4))))))
def F_best_lines : List D → M D := fzF (mkF 5 G_best_lines)
open DL.Pre (G__law_pick F__law_pick)
def G__law_asked_once : DS := (sSeq (sAsg (dComp (iArgs rng1 (aCons (dOp2 gAdd (dC (.int 1)) (dCall 2 F__law_draw (aCons (dVar 0) (aCons (dC (.int 9)) aNil)))) aNil)) (gtName 7) dYes (dOp2 gAdd (dC (.int 1)) (dCall 2 F__law_draw (aCons (dVar 0) (aCons (dOp2 gIx (dTup (aCons (dC (.int 3)) (aCons (dC (.int 9)) (aCons (dC (.int 200)) aNil)))) (dCall 2 F__law_draw (aCons (dVar 0) (aCons (dC (.int 3)) aNil)))) aNil)))) [7]) (gtName 1))
  (sSeq (sIf (dTest (dOp2 gEq (dCall 2 F__law_draw (aCons (dVar 0) (aCons (dC (.int 2)) aNil))) (dC (.int 0)))) (sAsg (dOp2 gRep (dLst (aCons (dOp2 gIx (dVar 1) (dC (.int 0))) aNil)) (dCallB cLen (aCons (dVar 1) aNil))) (gtName 1)) sNil)
  (sSeq (sAsg (dOp2 gAdd (dCallB cMaxL (aCons (dVar 1) aNil)) (dCall 2 F__law_draw (aCons (dVar 0) (aCons (dOp2 gIx (dTup (aCons (dC (.int 5)) (aCons (dC (.int 30)) aNil))) (dCall 2 F__law_draw (aCons (dVar 0) (aCons (dC (.int 2)) aNil)))) aNil)))) (gtName 2))
  (sSeq (sAsg (dC .non) (gtName 3))
  (sSeq (sFor (iLst (dCall 1 (F__law_divisions 60) (aCons (dCallB cLen (aCons (dVar 1) aNil)) aNil))) (gtName 4) (sSeq (sAsg (dCall 3 F__law_badness (aCons (dVar 1) (aCons (dVar 2) (aCons (dVar 4) aNil)))) (gtName 6))
  (sIf (dAnd (dTest (dOp2 gNotNon (dVar 6) (dC .non))) (dOr (dTest (dOp2 gIsNon (dVar 3) (dC .non))) (dTest (dOp2 gLtU (dTup (aCons (dVar 6) (aCons (dVar 4) aNil))) (dVar 3))))) (sAsg (dTup (aCons (dVar 6) (aCons (dVar 4) aNil))) (gtName 3)) sNil)))
  (sSeq (sAsg (dCallB cList (aCons (dVar 1) aNil)) (gtName 5))
  (sSeq (sIf (dOr (dNot (dTrue (dCall 2 (F__law_same 60) (aCons (dCall 2 F_best_lines (aCons (dVar 5) (aCons (dVar 2) aNil))) (aCons (dOp2 gIx (dVar 3) (dC (.int 1))) aNil))))) (dTest (dOp2 gNe (dVar 5) (dVar 1)))) (sRet (dC (.bl false))) sNil)
  (sSeq (sFor (iLst (dLst (aCons (dOp2 gIx (dVar 3) (dC (.int 1))) (aCons (dLst aNil) (aCons (dLst (aCons (dCallB cLen (aCons (dVar 1) aNil)) aNil)) (aCons (dOp2 gRep (dLst (aCons (dC (.int 1)) aNil)) (dCallB cLen (aCons (dVar 1) aNil))) (aCons (dOp2 gRep (dLst (aCons (dC (.int 1)) aNil)) (dOp2 gAdd (dCallB cLen (aCons (dVar 1) aNil)) (dC (.int 1)))) (aCons (dOp2 gAdd (dLst (aCons (dC (.int 0)) aNil)) (dOp2 gIx (dVar 3) (dC (.int 1)))) (aCons (dOp2 gAdd (dOp2 gIx (dVar 3) (dC (.int 1))) (dLst (aCons (dNeg (dC (.int 1))) (aCons (dC (.int 1)) aNil)))) (aCons (dSlice (dOp2 gIx (dVar 3) (dC (.int 1))) (oSome (dC (.int 1))) oNone) (aCons (dCall 2 F__law_pick (aCons (dVar 0) (aCons (dCall 1 (F__law_divisions 60) (aCons (dCallB cLen (aCons (dVar 1) aNil)) aNil)) aNil))) aNil))))))))))) (gtName 4) (sIf (dNot (dTrue (dCall 2 (F__law_same 60) (aCons (dCall 3 F_badness (aCons (dVar 5) (aCons (dVar 2) (aCons (dCallB cList (aCons (dVar 4) aNil)) aNil)))) (aCons (dCall 3 F__law_badness (aCons (dVar 1) (aCons (dVar 2) (aCons (dVar 4) aNil)))) aNil))))) (sRet (dC (.bl false))) sNil))
  (sRet (dC (.bl true)))))))))))
def F__law_asked_once : List D → M D := fzF (mkF 8 G__law_asked_once)
def G_law : DS := (sSeq (sAsg (dCall 1 F__law_pool (aCons (dVar 0) aNil)) (gtName 1))
  (sRet (dOp2 gEq (dCallB cLen (aCons (dComp (iArgs rng1 (aCons (dC (.int 4)) aNil)) (gtName 2) (dNot (dTrue (dCall 1 F__law_asked_once (aCons (dVar 1) aNil)))) (dVar 2) [2]) aNil)) (dC (.int 0)))))
def F_law : List D → M D := mkF 3 G_law
/-! ### what the top holds -/
structure Tx (K : PySem.W.Frag) (w : World) (mg : Str → Option Value) where
  m_any : mg "any" = none
  m_bool : mg "bool" = none
  m_int : mg "int" = none
  m_isinstance : mg "isinstance" = none
  m_len : mg "len" = none
  m_list : mg "list" = none
  m_max : mg "max" = none
  m_range : mg "range" = none
  m_str : mg "str" = none
  m_sum : mg "sum" = none
  m_tuple : mg "tuple" = none
  f_line_width : Addr
  d_line_width : FuncData
  F_line_width : Fun K "line_width" "line_width" s_line_width f_line_width d_line_width
  b_line_width : Binds K d_line_width ["widths"] []
  g_line_width : mg "line_width" = some (.ref f_line_width)
  f__law_same : Addr
  d__law_same : FuncData
  F__law_same : Fun K "_law_same" "_law_same" s__law_same f__law_same d__law_same
  b__law_same : Binds K d__law_same ["actual", "due"] []
  g__law_same : mg "_law_same" = some (.ref f__law_same)
  f__law_pool : Addr
  d__law_pool : FuncData
  F__law_pool : Fun K "_law_pool" "_law_pool" s__law_pool f__law_pool d__law_pool
  b__law_pool : Binds K d__law_pool ["script"] []
  g__law_pool : mg "_law_pool" = some (.ref f__law_pool)
  f__law_spread : Addr
  d__law_spread : FuncData
  F__law_spread : Fun K "_law_spread" "_law_spread" s__law_spread f__law_spread d__law_spread
  b__law_spread : Binds K d__law_spread ["cell"] []
  g__law_spread : mg "_law_spread" = some (.ref f__law_spread)
  f__law_badness : Addr
  d__law_badness : FuncData
  F__law_badness : Fun K "_law_badness" "_law_badness" s__law_badness f__law_badness d__law_badness
  b__law_badness : Binds K d__law_badness ["widths", "width", "lines"] []
  g__law_badness : mg "_law_badness" = some (.ref f__law_badness)
  f__law_divisions : Addr
  d__law_divisions : FuncData
  F__law_divisions : Fun K "_law_divisions" "_law_divisions" s__law_divisions f__law_divisions d__law_divisions
  b__law_divisions : Binds K d__law_divisions ["many"] []
  g__law_divisions : mg "_law_divisions" = some (.ref f__law_divisions)
  f_badness : Addr
  d_badness : FuncData
  F_badness : Fun K "badness" "badness" s_badness f_badness d_badness
  b_badness : Binds K d_badness ["widths", "width", "lines"] []
  g_badness : mg "badness" = some (.ref f_badness)
  C_badness : CodeT K d_badness
  f_best_number : Addr
  d_best_number : FuncData
  F_best_number : Fun K "best_number" "best_number" s_best_number f_best_number d_best_number
  b_best_number : Binds K d_best_number ["widths", "width", "rest", "start"] []
  g_best_number : mg "best_number" = some (.ref f_best_number)
  f__law_draw : Addr
  d__law_draw : FuncData
  F__law_draw : Fun K "_law_draw" "_law_draw" s__law_draw f__law_draw d__law_draw
  b__law_draw : Binds K d__law_draw ["pool", "many"] []
  g__law_draw : mg "_law_draw" = some (.ref f__law_draw)
  f_best_lines : Addr
  d_best_lines : FuncData
  F_best_lines : Fun K "best_lines" "best_lines" s_best_lines f_best_lines d_best_lines
  b_best_lines : Binds K d_best_lines ["widths", "width"] []
  g_best_lines : mg "best_lines" = some (.ref f_best_lines)
  f__law_pick : Addr
  d__law_pick : FuncData
  F__law_pick : Fun K "_law_pick" "_law_pick" s__law_pick f__law_pick d__law_pick
  b__law_pick : Binds K d__law_pick ["pool", "items"] []
  g__law_pick : mg "_law_pick" = some (.ref f__law_pick)
  f__law_asked_once : Addr
  d__law_asked_once : FuncData
  F__law_asked_once : Fun K "_law_asked_once" "_law_asked_once" s__law_asked_once f__law_asked_once d__law_asked_once
  b__law_asked_once : Binds K d__law_asked_once ["pool"] []
  g__law_asked_once : mg "_law_asked_once" = some (.ref f__law_asked_once)
  f_law : Addr
  d_law : FuncData
  F_law : Fun K "law" "law" s_law f_law d_law
  b_law : Binds K d_law ["script"] []
  g_law : mg "law" = some (.ref f_law)
section
variable {P : Program} {w : World} {K : PySem.W.Frag} {mg : Str → Option Value} {base : Heap}
theorem ok_line_width (T : Tx K w mg) (B : Bmain base mg) : FnOk P w K mg base (L2.CX P w) 1 T.f_line_width T.d_line_width ["widths"] (SpD K mg 1 F_line_width) := fn_fz (fn_D T.F_line_width sc_line_width G_line_width fun cdv A outer s H E hr => by
    have nd := sc_line_width.nd
    have hp : PassesOwn (model P w) (A.deeper (envOfC "line_width" (defScope s_line_width) s.heap.objs.size T.f_line_width cdv)) (envOfC "line_width" (defScope s_line_width) s.heap.objs.size T.f_line_width cdv) (cxOf (L2.CX P w) P w K mg base ["widths"] "line_width" (defScope s_line_width) T.f_line_width cdv A outer s H E).xe := passes_of rfl
    exact (bd_one (sd_ret (pd_bin op_sub den_sub (pd_bin op_addU den_add (pd_callB (cr_sum rfl) den_sum (by rfl) T.m_sum (by decide +kernel) (ad_cons (pd_var 0) ad_nil)) (pd_callB call_len den_len (by rfl) T.m_len (by decide +kernel) (ad_cons (pd_var 0) ad_nil))) pd_int))))
theorem ok__law_same (T : Tx K w mg) (B : Bmain base mg) : ∀ n : Nat, FnOk P w K mg base (L2.CX P w) (1 + 1 * n) T.f__law_same T.d__law_same ["actual", "due"] (SpD K mg 2 (F__law_same n))
  | 0 => ⟨fun vs H Q E h => h.len, fun A outer s H args us vs Q E hr e0 hb r h => (let ⟨_, _, _, _, _, _, _, z⟩ := h; False.elim z)⟩
  | n + 1 => fn_fz (show FnOk P w K mg base (L2.CX P w) ((1 + 1 * n + 0) + 1) T.f__law_same T.d__law_same ["actual", "due"] (SpD K mg 2 (mkF 3 (G__law_same (F__law_same n)))) from fn_D T.F__law_same sc__law_same (G__law_same (F__law_same n)) fun cdv A outer s H E hr => by
    have ih := ok__law_same T B n
    have nd := sc__law_same.nd
    have hp : PassesOwn (model P w) (A.deeper (envOfC "_law_same" (defScope s__law_same) s.heap.objs.size T.f__law_same cdv)) (envOfC "_law_same" (defScope s__law_same) s.heap.objs.size T.f__law_same cdv) (cxOf (L2.CX P w) P w K mg base ["actual", "due", "k"] "_law_same" (defScope s__law_same) T.f__law_same cdv A outer s H E).xe := passes_of rfl
    exact (bd_cons (sd_if (td_w (wd_or (td_truth (pd_callB call_isi den_isi (by rfl) T.m_isinstance (by decide +kernel) (ad_cons (pd_var 1) (ad_cons (pd_ty (by rfl) T.m_tuple (by decide +kernel)) ad_nil)))) (wd_or1 (td_truth (pd_callB call_isi den_isi (by rfl) T.m_isinstance (by decide +kernel) (ad_cons (pd_var 1) (ad_cons (pd_ty (by rfl) T.m_list (by decide +kernel)) ad_nil))))))) (bd_cons (sd_if (td_w (wd_or (td_cmp (op_neD (hr.units)) den_ne (pd_callB call_isi den_isi (by rfl) T.m_isinstance (by decide +kernel) (ad_cons (pd_var 1) (ad_cons (pd_ty (by rfl) T.m_tuple (by decide +kernel)) ad_nil))) (pd_callB call_isi den_isi (by rfl) T.m_isinstance (by decide +kernel) (ad_cons (pd_var 0) (ad_cons (pd_ty (by rfl) T.m_tuple (by decide +kernel)) ad_nil))) (nomark _)) (wd_or (td_cmp (op_neD (hr.units)) den_ne (pd_callB call_isi den_isi (by rfl) T.m_isinstance (by decide +kernel) (ad_cons (pd_var 1) (ad_cons (pd_ty (by rfl) T.m_list (by decide +kernel)) ad_nil))) (pd_callB call_isi den_isi (by rfl) T.m_isinstance (by decide +kernel) (ad_cons (pd_var 0) (ad_cons (pd_ty (by rfl) T.m_list (by decide +kernel)) ad_nil))) (nomark _)) (wd_or1 (td_cmp (op_neD (hr.units)) den_ne (pd_callB call_len den_len (by rfl) T.m_len (by decide +kernel) (ad_cons (pd_var 0) ad_nil)) (pd_callB call_len den_len (by rfl) T.m_len (by decide +kernel) (ad_cons (pd_var 1) ad_nil)) (nomark _)))))) (bd_one (sd_ret pd_bl)) bd_nil)
      (bd_one (sd_ret (pd_cmp (op_eqD (hr.units)) den_eq (pd_callB call_len den_len (by rfl) T.m_len (by decide +kernel) (ad_cons (pd_comp (own := [("k", 2)]) rfl nd (id_range1 (by rfl) T.m_range (ad_cons (pd_callB call_len den_len (by rfl) T.m_len (by decide +kernel) (ad_cons (pd_var 1) ad_nil)) ad_nil)) (blkOk_by (own := [("k", 2)]) (N := ["actual", "due", "k"]) (sc := (defScope s__law_same)) (by decide +kernel)) (by decide) (fun _ _ _ _ _ => (gd_name 2 nd)) (fun _ _ _ _ _ => (tsd_one (td_not (td_truth (pd_call ih (hr.mono (by first | exact Nat.le_refl _ | omega | (refine Nat.le_trans ?_ (Nat.le_add_right _ _); decide))) (by rfl) T.g__law_same T.F__law_same.kp T.b__law_same (ad_cons (pd_ix ix_seq den_ix (pd_var 0) (pd_var 2) (fun _ _ => rfl)) (ad_cons (pd_ix ix_seq den_ix (pd_var 1) (pd_var 2) (fun _ _ => rfl)) ad_nil))))))) (fun _ _ _ _ _ => (pd_var 2))) ad_nil)) pd_int (nomark _))))) bd_nil)
      (bd_cons (sd_if (td_cmp op_isN den_isNon (pd_var 1) pd_non (nomark _)) (bd_one (sd_ret (pd_cmp op_isN den_isNon (pd_var 0) pd_non (nomark _)))) bd_nil)
      (bd_cons (sd_if (td_w (wd_or (td_truth (pd_callB call_isi den_isi (by rfl) T.m_isinstance (by decide +kernel) (ad_cons (pd_var 1) (ad_cons (pd_ty (by rfl) T.m_bool (by decide +kernel)) ad_nil)))) (wd_or1 (td_truth (pd_callB call_isi den_isi (by rfl) T.m_isinstance (by decide +kernel) (ad_cons (pd_var 0) (ad_cons (pd_ty (by rfl) T.m_bool (by decide +kernel)) ad_nil))))))) (bd_one (sd_ret (pd_and (pd_callB call_isi den_isi (by rfl) T.m_isinstance (by decide +kernel) (ad_cons (pd_var 1) (ad_cons (pd_ty (by rfl) T.m_bool (by decide +kernel)) ad_nil))) (pd_and (pd_callB call_isi den_isi (by rfl) T.m_isinstance (by decide +kernel) (ad_cons (pd_var 0) (ad_cons (pd_ty (by rfl) T.m_bool (by decide +kernel)) ad_nil))) (pd_one (pd_cmp (op_eqD (hr.units)) den_eq (pd_var 0) (pd_var 1) (nomark _))))))) bd_nil)
      (bd_cons (sd_if (td_truth (pd_callB call_isi den_isi (by rfl) T.m_isinstance (by decide +kernel) (ad_cons (pd_var 1) (ad_cons (pd_ty (by rfl) T.m_int (by decide +kernel)) ad_nil)))) (bd_one (sd_ret (pd_and (pd_callB call_isi den_isi (by rfl) T.m_isinstance (by decide +kernel) (ad_cons (pd_var 0) (ad_cons (pd_ty (by rfl) T.m_int (by decide +kernel)) ad_nil))) (pd_one (pd_cmp (op_eqD (hr.units)) den_eq (pd_var 0) (pd_var 1) (nomark _)))))) bd_nil)
      (bd_one (sd_ret (pd_and (pd_callB call_isi den_isi (by rfl) T.m_isinstance (by decide +kernel) (ad_cons (pd_var 0) (ad_cons (pd_ty (by rfl) T.m_str (by decide +kernel)) ad_nil))) (pd_one (pd_cmp (op_eqD (hr.units)) den_eq (pd_var 0) (pd_var 1) (nomark _)))))))))))
theorem ok__law_pool (T : Tx K w mg) (B : Bmain base mg) : FnOk P w K mg base (L2.CX P w) 1 T.f__law_pool T.d__law_pool ["script"] (SpD K mg 1 F__law_pool) := fn_D T.F__law_pool sc__law_pool G__law_pool fun cdv A outer s H E hr => by
    have nd := sc__law_pool.nd
    have hp : PassesOwn (model P w) (A.deeper (envOfC "_law_pool" (defScope s__law_pool) s.heap.objs.size T.f__law_pool cdv)) (envOfC "_law_pool" (defScope s__law_pool) s.heap.objs.size T.f__law_pool cdv) (cxOf (L2.CX P w) P w K mg base ["script", "salt", "cell"] "_law_pool" (defScope s__law_pool) T.f__law_pool cdv A outer s H E).xe := passes_of rfl
    exact (bd_cons (sd_set 1 nd pd_int)
      (bd_cons (sd_for hp rfl (id_lst (pd_slice sl_U (pd_var 0) od_none (od_some pd_int))) (gd_name 2 nd) (bd_one (sd_set 1 nd (pd_bin op_mod den_mod (pd_callTy call_int1 den_int1 (by rfl) T.m_int (by decide +kernel) (ad_cons (pd_bin op_addU den_add (pd_bin op_mul den_mul (pd_var 1) pd_int) (pd_var 2)) ad_nil)) pd_int))))
      (bd_one (sd_ret (pd_lstP (ad_cons (pd_callTy call_list_of den_list (by rfl) T.m_list (by decide +kernel) (ad_cons (pd_var 0) ad_nil)) (ad_cons pd_int (ad_cons pd_int (ad_cons pd_int (ad_cons (pd_var 1) ad_nil))))))))))
theorem ok__law_spread (T : Tx K w mg) (B : Bmain base mg) : FnOk P w K mg base (L2.CX P w) 1 T.f__law_spread T.d__law_spread ["cell"] (SpD K mg 1 F__law_spread) := fn_fz (fn_D T.F__law_spread sc__law_spread G__law_spread fun cdv A outer s H E hr => by
    have nd := sc__law_spread.nd
    have hp : PassesOwn (model P w) (A.deeper (envOfC "_law_spread" (defScope s__law_spread) s.heap.objs.size T.f__law_spread cdv)) (envOfC "_law_spread" (defScope s__law_spread) s.heap.objs.size T.f__law_spread cdv) (cxOf (L2.CX P w) P w K mg base ["cell", "mixed", "total", "k"] "_law_spread" (defScope s__law_spread) T.f__law_spread cdv A outer s H E).xe := passes_of rfl
    exact (bd_cons (sd_set 1 nd (pd_bin op_mod den_mod (pd_callTy call_int1 den_int1 (by rfl) T.m_int (by decide +kernel) (ad_cons (pd_var 0) ad_nil)) pd_int))
      (bd_cons (sd_set 2 nd pd_int)
      (bd_cons (sd_for hp rfl (id_range1 (by rfl) T.m_range (ad_cons pd_int ad_nil)) (gd_name 3 nd) (bd_cons (sd_set 1 nd (pd_bin op_mod den_mod (pd_callTy call_int1 den_int1 (by rfl) T.m_int (by decide +kernel) (ad_cons (pd_bin op_addU den_add (pd_bin op_addU den_add (pd_bin op_mul den_mul (pd_var 1) pd_int) pd_int) (pd_var 3)) ad_nil)) pd_int))
      (bd_one (sd_set 2 nd (pd_bin op_addU den_add (pd_bin op_mul den_mul (pd_var 2) pd_int) (pd_var 1))))))
      (bd_one (sd_ret (pd_var 2)))))))
theorem ok__law_badness (T : Tx K w mg) (B : Bmain base mg) : FnOk P w K mg base (L2.CX P w) 1 T.f__law_badness T.d__law_badness ["widths", "width", "lines"] (SpD K mg 3 F__law_badness) := fn_fz (fn_D T.F__law_badness sc__law_badness G__law_badness fun cdv A outer s H E hr => by
    have nd := sc__law_badness.nd
    have hp : PassesOwn (model P w) (A.deeper (envOfC "_law_badness" (defScope s__law_badness) s.heap.objs.size T.f__law_badness cdv)) (envOfC "_law_badness" (defScope s__law_badness) s.heap.objs.size T.f__law_badness cdv) (cxOf (L2.CX P w) P w K mg base ["widths", "width", "lines", "total", "at", "k", "used", "number"] "_law_badness" (defScope s__law_badness) T.f__law_badness cdv A outer s H E).xe := passes_of rfl
    exact (bd_cons (sd_if (td_w (wd_or (td_cmp op_gt den_cmp (pd_callB call_len den_len (by rfl) T.m_len (by decide +kernel) (ad_cons (pd_comp (own := [("number", 7)]) rfl nd (id_lst (pd_var 2)) (blkOk_by (own := [("number", 7)]) (N := ["widths", "width", "lines", "total", "at", "k", "used", "number"]) (sc := (defScope s__law_badness)) (by decide +kernel)) (by decide) (fun _ _ _ _ _ => (gd_name 7 nd)) (fun _ _ _ _ _ => (tsd_one (td_cmp op_lt den_cmp (pd_var 7) pd_int (nomark _)))) (fun _ _ _ _ _ => (pd_var 7))) ad_nil)) pd_int (nomark _)) (wd_or1 (td_cmp (op_neD (hr.units)) den_ne (pd_callB (cr_sum rfl) den_sum (by rfl) T.m_sum (by decide +kernel) (ad_cons (pd_var 2) ad_nil)) (pd_callB call_len den_len (by rfl) T.m_len (by decide +kernel) (ad_cons (pd_var 0) ad_nil)) (nomark _))))) (bd_one (sd_ret pd_non)) bd_nil)
      (bd_cons (sd_set 3 nd pd_int)
      (bd_cons (sd_set 4 nd pd_int)
      (bd_cons (sd_for hp rfl (id_range1 (by rfl) T.m_range (ad_cons (pd_callB call_len den_len (by rfl) T.m_len (by decide +kernel) (ad_cons (pd_var 2) ad_nil)) ad_nil)) (gd_name 5 nd) (bd_cons (sd_set 6 nd (pd_bin op_sub den_sub (pd_bin op_addU den_add (pd_callB (cr_sum rfl) den_sum (by rfl) T.m_sum (by decide +kernel) (ad_cons (pd_slice sl_U (pd_var 0) (od_some (pd_var 4)) (od_some (pd_bin op_addU den_add (pd_var 4) (pd_ix ix_seq den_ix (pd_var 2) (pd_var 5) (fun _ _ => rfl))))) ad_nil)) (pd_ix ix_seq den_ix (pd_var 2) (pd_var 5) (fun _ _ => rfl))) pd_int))
      (bd_cons (sd_if (td_cmp op_gt den_cmp (pd_var 6) (pd_var 1) (nomark _)) (bd_one (sd_ret pd_non)) bd_nil)
      (bd_cons (sd_if (td_cmp op_lt den_cmp (pd_var 5) (pd_bin op_sub den_sub (pd_callB call_len den_len (by rfl) T.m_len (by decide +kernel) (ad_cons (pd_var 2) ad_nil)) pd_int) (nomark _)) (bd_one (sd_set 3 nd (pd_bin op_addU den_add (pd_var 3) (pd_bin op_mul den_mul (pd_bin op_sub den_sub (pd_var 1) (pd_var 6)) (pd_bin op_sub den_sub (pd_var 1) (pd_var 6)))))) bd_nil)
      (bd_one (sd_set 4 nd (pd_bin op_addU den_add (pd_var 4) (pd_ix ix_seq den_ix (pd_var 2) (pd_var 5) (fun _ _ => rfl)))))))))
      (bd_one (sd_ret (pd_var 3))))))))
theorem ok__law_divisions (T : Tx K w mg) (B : Bmain base mg) : ∀ n : Nat, FnOk P w K mg base (L2.CX P w) (1 + 1 * n) T.f__law_divisions T.d__law_divisions ["many"] (SpD K mg 1 (F__law_divisions n))
  | 0 => ⟨fun vs H Q E h => h.len, fun A outer s H args us vs Q E hr e0 hb r h => (let ⟨_, _, _, _, _, _, _, z⟩ := h; False.elim z)⟩
  | n + 1 => fn_fz (show FnOk P w K mg base (L2.CX P w) ((1 + 1 * n + 0) + 1) T.f__law_divisions T.d__law_divisions ["many"] (SpD K mg 1 (mkF 4 (G__law_divisions (F__law_divisions n)))) from fn_D T.F__law_divisions sc__law_divisions (G__law_divisions (F__law_divisions n)) fun cdv A outer s H E hr => by
    have ih := ok__law_divisions T B n
    have nd := sc__law_divisions.nd
    have hp : PassesOwn (model P w) (A.deeper (envOfC "_law_divisions" (defScope s__law_divisions) s.heap.objs.size T.f__law_divisions cdv)) (envOfC "_law_divisions" (defScope s__law_divisions) s.heap.objs.size T.f__law_divisions cdv) (cxOf (L2.CX P w) P w K mg base ["many", "found", "first", "rest"] "_law_divisions" (defScope s__law_divisions) T.f__law_divisions cdv A outer s H E).xe := passes_of rfl
    exact (bd_cons (sd_if (td_cmp (op_eqD (hr.units)) den_eq (pd_var 0) pd_int (nomark _)) (bd_one (sd_ret (pd_lst (ad_cons (pd_lst ad_nil) ad_nil)))) bd_nil)
      (bd_cons (sd_set 1 nd (pd_lst ad_nil))
      (bd_cons (sd_for hp rfl (id_range2 (by rfl) T.m_range (ad_cons pd_int (ad_cons (pd_bin op_addU den_add (pd_var 0) pd_int) ad_nil))) (gd_name 2 nd) (bd_one (sd_set 1 nd (pd_bin op_addU den_add (pd_var 1) (pd_comp (own := [("rest", 3)]) rfl nd (id_lst (pd_call ih (hr.mono (by first | exact Nat.le_refl _ | omega | (refine Nat.le_trans ?_ (Nat.le_add_right _ _); decide))) (by rfl) T.g__law_divisions T.F__law_divisions.kp T.b__law_divisions (ad_cons (pd_bin op_sub den_sub (pd_var 0) (pd_var 2)) ad_nil))) (blkOk_by (own := [("rest", 3)]) (N := ["many", "found", "first", "rest"]) (sc := (defScope s__law_divisions)) (by decide +kernel)) (by decide) (fun _ _ _ _ _ => (gd_name 3 nd)) (fun _ _ _ _ _ => tsd_nil) (fun _ _ _ _ _ => (pd_bin op_addU den_add (pd_lst (ad_cons (pd_var 2) ad_nil)) (pd_var 3))))))))
      (bd_one (sd_ret (pd_var 1)))))))
theorem ok_badness (T : Tx K w mg) (B : Bmain base mg) : FnOk P w K mg base (L2.CX P w) 3 T.f_badness T.d_badness ["widths", "width", "lines"] (SpD K mg 3 F_badness) := fn_fz (fn_DC T.F_badness T.C_badness sc_badness G_badness fun A outer s H E hr cx => by
    have nd := sc_badness.nd
    have hp : PassesOwn (model P w) (A.deeper (envOfC "badness" (defScope s_badness) s.heap.objs.size T.f_badness (.ref T.C_badness.c))) (envOfC "badness" (defScope s_badness) s.heap.objs.size T.f_badness (.ref T.C_badness.c)) (cxOf (L2.CX P w) P w K mg base ["widths", "width", "lines", "total", "start", "number", "left"] "badness" (defScope s_badness) T.f_badness (.ref T.C_badness.c) A outer s H E).xe := passes_of rfl
    exact (bd_cons (sd_if (td_w (wd_or (td_cmp (op_neD (hr.units)) den_ne (pd_callB (cr_sum rfl) den_sum (by rfl) T.m_sum (by decide +kernel) (ad_cons (pd_var 2) ad_nil)) (pd_callB call_len den_len (by rfl) T.m_len (by decide +kernel) (ad_cons (pd_var 0) ad_nil)) (nomark _)) (wd_or1 (td_truth (pd_anyG (own := [("number", 5)]) (k := 0) B cx rfl nd (hr.mono (by first | exact Nat.le_refl _ | decide | omega)) (by rfl) T.m_any (by decide +kernel) (id_lst (pd_var 2)) ⟨blkOk_by (own := [("number", 5)]) (N := ["widths", "width", "lines", "total", "start", "number", "left"]) (sc := (defScope s_badness)) (by decide +kernel), rfl, rfl⟩ (by decide) (fun _ _ _ _ _ _ _ _ => (gd_name 5 nd)) (fun _ _ _ _ _ _ _ _ hr cx => tsd_nil) (fun _ _ _ _ _ _ _ _ hr cx => (pd_cmp op_lt den_cmp (pd_var 5) pd_int (nomark _)))))))) (bd_one (sd_ret pd_non)) bd_nil)
      (bd_cons (sd_set 3 nd pd_int)
      (bd_cons (sd_set 4 nd pd_int)
      (bd_cons (sd_for hp rfl (id_lst (pd_var 2)) (gd_name 5 nd) (bd_cons (sd_set 6 nd (pd_bin op_sub den_sub (pd_var 1) (pd_call (ok_line_width T B) (hr.mono (by first | exact Nat.le_refl _ | omega | (refine Nat.le_trans ?_ (Nat.le_add_right _ _); decide))) (by rfl) T.g_line_width T.F_line_width.kp T.b_line_width (ad_cons (pd_slice sl_U (pd_var 0) (od_some (pd_var 4)) (od_some (pd_bin op_addU den_add (pd_var 4) (pd_var 5)))) ad_nil))))
      (bd_cons (sd_if (td_cmp op_lt den_cmp (pd_var 6) pd_int (nomark _)) (bd_one (sd_ret pd_non)) bd_nil)
      (bd_cons (sd_aug 4 nd iop_addU den_iadd (pd_var 5))
      (bd_one (sd_if (td_cmp op_lt den_cmp (pd_var 4) (pd_callB call_len den_len (by rfl) T.m_len (by decide +kernel) (ad_cons (pd_var 0) ad_nil)) (nomark _)) (bd_one (sd_aug 3 nd iop_addU den_iadd (pd_bin op_mul den_mul (pd_var 6) (pd_var 6)))) bd_nil))))))
      (bd_one (sd_ret (pd_var 3))))))))
theorem ok_best_number (T : Tx K w mg) (B : Bmain base mg) : FnOk P w K mg base (L2.CX P w) 2 T.f_best_number T.d_best_number ["widths", "width", "rest", "start"] (SpD K mg 4 F_best_number) := fn_fz (fn_D T.F_best_number sc_best_number G_best_number fun cdv A outer s H E hr => by
    have nd := sc_best_number.nd
    have hp : PassesOwn (model P w) (A.deeper (envOfC "best_number" (defScope s_best_number) s.heap.objs.size T.f_best_number cdv)) (envOfC "best_number" (defScope s_best_number) s.heap.objs.size T.f_best_number cdv) (cxOf (L2.CX P w) P w K mg base ["widths", "width", "rest", "start", "best", "end", "left", "total"] "best_number" (defScope s_best_number) T.f_best_number cdv A outer s H E).xe := passes_of rfl
    exact (bd_cons (sd_set 4 nd pd_non)
      (bd_cons (sd_for hp rfl (id_range2 (by rfl) T.m_range (ad_cons (pd_bin op_addU den_add (pd_var 3) pd_int) (ad_cons (pd_bin op_addU den_add (pd_callB call_len den_len (by rfl) T.m_len (by decide +kernel) (ad_cons (pd_var 0) ad_nil)) pd_int) ad_nil))) (gd_name 5 nd) (bd_cons (sd_set 6 nd (pd_bin op_sub den_sub (pd_var 1) (pd_call (ok_line_width T B) (hr.mono (by first | exact Nat.le_refl _ | omega | (refine Nat.le_trans ?_ (Nat.le_add_right _ _); decide))) (by rfl) T.g_line_width T.F_line_width.kp T.b_line_width (ad_cons (pd_slice sl_U (pd_var 0) (od_some (pd_var 3)) (od_some (pd_var 5))) ad_nil))))
      (bd_cons (sd_if (td_cmp op_lt den_cmp (pd_var 6) pd_int (nomark _)) (bd_one sd_break) bd_nil)
      (bd_cons (sd_set 7 nd (pd_ifExp (td_cmp (op_eqD (hr.units)) den_eq (pd_var 5) (pd_callB call_len den_len (by rfl) T.m_len (by decide +kernel) (ad_cons (pd_var 0) ad_nil)) (nomark _)) pd_int (pd_bin op_addU den_add (pd_bin op_mul den_mul (pd_var 6) (pd_var 6)) (pd_ix ix_seq den_ix (pd_dget (hr.units) (pd_var 2) (pd_var 5) (fun _ _ => rfl)) pd_int (fun _ _ => rfl)))))
      (bd_one (sd_if (td_w (wd_or (td_cmp op_isN den_isNon (pd_var 4) pd_non (nomark _)) (wd_or1 (td_cmp op_lt den_cmp (pd_var 7) (pd_ix ix_seq den_ix (pd_var 4) pd_int (fun _ _ => rfl)) (nomark _))))) (bd_one (sd_set 4 nd (pd_tup (ad_cons (pd_var 7) (ad_cons (pd_bin op_sub den_sub (pd_var 5) (pd_var 3)) ad_nil))))) bd_nil))))))
      (bd_one (sd_ret (pd_var 4))))))
theorem ok__law_draw (T : Tx K w mg) (B : Bmain base mg) : FnOk P w K mg base (L2.CX P w) 2 T.f__law_draw T.d__law_draw ["pool", "many"] (SpD K mg 2 F__law_draw) := fn_fz (fn_D T.F__law_draw sc__law_draw G__law_draw fun cdv A outer s H E hr => by
    have nd := sc__law_draw.nd
    have hp : PassesOwn (model P w) (A.deeper (envOfC "_law_draw" (defScope s__law_draw) s.heap.objs.size T.f__law_draw cdv)) (envOfC "_law_draw" (defScope s__law_draw) s.heap.objs.size T.f__law_draw cdv) (cxOf (L2.CX P w) P w K mg base ["pool", "many", "value", "cell", "mixed"] "_law_draw" (defScope s__law_draw) T.f__law_draw cdv A outer s H E).xe := passes_of rfl
    exact (bd_cons (sd_if (td_w (wd_and (td_cmp op_le den_cmp (pd_ix ix_seq den_ix (pd_var 0) pd_int (fun _ _ => rfl)) pd_int (nomark _)) (wd_and1 (td_cmp op_lt den_cmp (pd_ix ix_seq den_ix (pd_var 0) pd_int (fun _ _ => rfl)) (pd_callB call_len den_len (by rfl) T.m_len (by decide +kernel) (ad_cons (pd_ix ix_seq den_ix (pd_var 0) pd_int (fun _ _ => rfl)) ad_nil)) (nomark _))))) (bd_cons (sd_set 3 nd (pd_ix ix_seq den_ix (pd_ix ix_seq den_ix (pd_var 0) pd_int (fun _ _ => rfl)) (pd_ix ix_seq den_ix (pd_var 0) pd_int (fun _ _ => rfl)) (fun _ _ => rfl)))
      (bd_cons (sd_setIx (pd_var 0) pd_int (pd_bin op_addU den_add (pd_ix ix_seq den_ix (pd_var 0) pd_int (fun _ _ => rfl)) pd_int))
      (bd_cons (sd_setIx (pd_var 0) pd_int (pd_var 3))
      (bd_one (sd_if (td_cmp op_lt den_cmp (pd_var 3) pd_int (nomark _)) (bd_one (sd_setIx (pd_var 0) pd_int (pd_call (ok__law_spread T B) (hr.mono (by first | exact Nat.le_refl _ | omega | (refine Nat.le_trans ?_ (Nat.le_add_right _ _); decide))) (by rfl) T.g__law_spread T.F__law_spread.kp T.b__law_spread (ad_cons (pd_var 3) ad_nil)))) bd_nil))))) bd_nil)
      (bd_cons (sd_setIx (pd_var 0) pd_int (pd_bin op_addU den_add (pd_ix ix_seq den_ix (pd_var 0) pd_int (fun _ _ => rfl)) pd_int))
      (bd_cons (sd_if (td_cmp op_le den_cmp (pd_ix ix_seq den_ix (pd_var 0) pd_int (fun _ _ => rfl)) pd_int (nomark _)) (bd_cons (sd_set 4 nd (pd_bin op_mod den_mod (pd_callTy call_int1 den_int1 (by rfl) T.m_int (by decide +kernel) (ad_cons (pd_bin op_addU den_add (pd_bin op_addU den_add (pd_bin op_mul den_mul (pd_ix ix_seq den_ix (pd_var 0) pd_int (fun _ _ => rfl)) pd_int) (pd_bin op_mul den_mul (pd_ix ix_seq den_ix (pd_var 0) pd_int (fun _ _ => rfl)) pd_int)) pd_int) ad_nil)) pd_int))
      (bd_cons (sd_set 4 nd (pd_bin op_mod den_mod (pd_callTy call_int1 den_int1 (by rfl) T.m_int (by decide +kernel) (ad_cons (pd_bin op_addU den_add (pd_bin op_mul den_mul (pd_var 4) pd_int) (pd_ix ix_seq den_ix (pd_var 0) pd_int (fun _ _ => rfl))) ad_nil)) pd_int))
      (bd_one (sd_ret (pd_bin op_mod den_mod (pd_bin op_fdiv den_div (pd_var 4) pd_int) (pd_var 1)))))) bd_nil)
      (bd_cons (sd_set 2 nd (pd_bin op_mod den_mod (pd_callTy call_int1 den_int1 (by rfl) T.m_int (by decide +kernel) (ad_cons (pd_ix ix_seq den_ix (pd_var 0) pd_int (fun _ _ => rfl)) ad_nil)) (pd_var 1)))
      (bd_cons (sd_setIx (pd_var 0) pd_int (pd_bin op_fdiv den_div (pd_ix ix_seq den_ix (pd_var 0) pd_int (fun _ _ => rfl)) (pd_var 1)))
      (bd_one (sd_ret (pd_var 2)))))))))
theorem ok_best_lines (T : Tx K w mg) (B : Bmain base mg) : FnOk P w K mg base (L2.CX P w) 3 T.f_best_lines T.d_best_lines ["widths", "width"] (SpD K mg 2 F_best_lines) := fn_fz (fn_D T.F_best_lines sc_best_lines G_best_lines fun cdv A outer s H E hr => by
    have nd := sc_best_lines.nd
    have hp : PassesOwn (model P w) (A.deeper (envOfC "best_lines" (defScope s_best_lines) s.heap.objs.size T.f_best_lines cdv)) (envOfC "best_lines" (defScope s_best_lines) s.heap.objs.size T.f_best_lines cdv) (cxOf (L2.CX P w) P w K mg base ["widths", "width", "rest", "start", "lines"] "best_lines" (defScope s_best_lines) T.f_best_lines cdv A outer s H E).xe := passes_of rfl
    exact (bd_cons (sd_set 2 nd pd_dnewK)
      (bd_cons (sd_for hp rfl (id_range3 (by rfl) T.m_range (ad_cons (pd_bin op_sub den_sub (pd_callB call_len den_len (by rfl) T.m_len (by decide +kernel) (ad_cons (pd_var 0) ad_nil)) pd_int) (ad_cons (pd_neg pd_int) (ad_cons (pd_neg pd_int) ad_nil)))) (gd_name 3 nd) (bd_one (sd_dput (hr.units) (pd_var 2) (pd_var 3) (pd_call (ok_best_number T B) (hr.mono (by first | exact Nat.le_refl _ | omega | (refine Nat.le_trans ?_ (Nat.le_add_right _ _); decide))) (by rfl) T.g_best_number T.F_best_number.kp T.b_best_number (ad_cons (pd_var 0) (ad_cons (pd_var 1) (ad_cons (pd_var 2) (ad_cons (pd_var 3) ad_nil))))))))
      (bd_cons (sd_set 4 nd (pd_lstP ad_nil))
      (bd_cons (sd_while fuel hp (td_cmp op_lt den_cmp (pd_callB (cr_sum rfl) den_sum (by rfl) T.m_sum (by decide +kernel) (ad_cons (pd_var 4) ad_nil)) (pd_callB call_len den_len (by rfl) T.m_len (by decide +kernel) (ad_cons (pd_var 0) ad_nil)) (nomark _)) (bd_one (sd_expr (pd_meth PySem.F.plainAttrs_list PySem.F.slot_list_append PySem.F.type_list_append mt_append den_append (pd_var 4) (ad_cons (pd_ix ix_seq den_ix (pd_dget (hr.units) (pd_var 2) (pd_callB (cr_sum rfl) den_sum (by rfl) T.m_sum (by decide +kernel) (ad_cons (pd_var 4) ad_nil)) (fun _ _ => rfl)) pd_int (fun _ _ => rfl)) ad_nil)))))
      (bd_one (sd_ret (pd_var 4))))))))
theorem ok__law_pick (T : Tx K w mg) (B : Bmain base mg) : FnOk P w K mg base (L2.CX P w) 3 T.f__law_pick T.d__law_pick ["pool", "items"] (SpD K mg 2 F__law_pick) := fn_fz (fn_D T.F__law_pick sc__law_pick G__law_pick fun cdv A outer s H E hr => by
    have nd := sc__law_pick.nd
    have hp : PassesOwn (model P w) (A.deeper (envOfC "_law_pick" (defScope s__law_pick) s.heap.objs.size T.f__law_pick cdv)) (envOfC "_law_pick" (defScope s__law_pick) s.heap.objs.size T.f__law_pick cdv) (cxOf (L2.CX P w) P w K mg base ["pool", "items"] "_law_pick" (defScope s__law_pick) T.f__law_pick cdv A outer s H E).xe := passes_of rfl
    exact (bd_one (sd_ret (pd_ix ix_seq den_ix (pd_var 1) (pd_call (ok__law_draw T B) (hr.mono (by first | exact Nat.le_refl _ | omega | (refine Nat.le_trans ?_ (Nat.le_add_right _ _); decide))) (by rfl) T.g__law_draw T.F__law_draw.kp T.b__law_draw (ad_cons (pd_var 0) (ad_cons (pd_callB call_len den_len (by rfl) T.m_len (by decide +kernel) (ad_cons (pd_var 1) ad_nil)) ad_nil))) (fun _ _ => rfl)))))
theorem ok__law_asked_once (T : Tx K w mg) (B : Bmain base mg) : FnOk P w K mg base (L2.CX P w) 62 T.f__law_asked_once T.d__law_asked_once ["pool"] (SpD K mg 1 F__law_asked_once) := fn_fz (fn_D T.F__law_asked_once sc__law_asked_once G__law_asked_once fun cdv A outer s H E hr => by
    have nd := sc__law_asked_once.nd
    have hp : PassesOwn (model P w) (A.deeper (envOfC "_law_asked_once" (defScope s__law_asked_once) s.heap.objs.size T.f__law_asked_once cdv)) (envOfC "_law_asked_once" (defScope s__law_asked_once) s.heap.objs.size T.f__law_asked_once cdv) (cxOf (L2.CX P w) P w K mg base ["pool", "widths", "width", "best", "lines", "handed", "found", "k"] "_law_asked_once" (defScope s__law_asked_once) T.f__law_asked_once cdv A outer s H E).xe := passes_of rfl
    exact (bd_cons (sd_setComp 1 (own := [("k", 7)]) rfl nd rfl rfl (sw_true rfl rfl rfl (by decide +kernel)) (id_range1 (by rfl) T.m_range (ad_cons (pd_bin op_addU den_add pd_int (pd_call (ok__law_draw T B) (hr.mono (by first | exact Nat.le_refl _ | omega | (refine Nat.le_trans ?_ (Nat.le_add_right _ _); decide))) (by rfl) T.g__law_draw T.F__law_draw.kp T.b__law_draw (ad_cons (pd_var 0) (ad_cons pd_int ad_nil)))) ad_nil)) (blkOk_by (own := [("k", 7)]) (N := ["pool", "widths", "width", "best", "lines", "handed", "found", "k"]) (sc := (defScope s__law_asked_once)) (by decide +kernel)) (by decide) (fun _ _ _ _ _ => (gd_name 7 nd)) (fun _ _ _ _ _ => tsd_nil) (fun _ _ _ _ _ => (pd_bin op_addU den_add pd_int (pd_call (ok__law_draw T B) (hr.mono (by first | exact Nat.le_refl _ | omega | (refine Nat.le_trans ?_ (Nat.le_add_right _ _); decide))) (by rfl) T.g__law_draw T.F__law_draw.kp T.b__law_draw (ad_cons (pd_var 0) (ad_cons (pd_ix ix_seq den_ix (pd_tup (ad_cons pd_int (ad_cons pd_int (ad_cons pd_int ad_nil)))) (pd_call (ok__law_draw T B) (hr.mono (by first | exact Nat.le_refl _ | omega | (refine Nat.le_trans ?_ (Nat.le_add_right _ _); decide))) (by rfl) T.g__law_draw T.F__law_draw.kp T.b__law_draw (ad_cons (pd_var 0) (ad_cons pd_int ad_nil))) (fun _ _ => rfl)) ad_nil))))))
      (bd_cons (sd_if (td_cmp (op_eqD (hr.units)) den_eq (pd_call (ok__law_draw T B) (hr.mono (by first | exact Nat.le_refl _ | omega | (refine Nat.le_trans ?_ (Nat.le_add_right _ _); decide))) (by rfl) T.g__law_draw T.F__law_draw.kp T.b__law_draw (ad_cons (pd_var 0) (ad_cons pd_int ad_nil))) pd_int (nomark _)) (bd_one (sd_set 1 nd (pd_bin L2.op_rep den_rep (pd_lst (ad_cons (pd_ix ix_seq den_ix (pd_var 1) pd_int (fun _ _ => rfl)) ad_nil)) (pd_callB call_len den_len (by rfl) T.m_len (by decide +kernel) (ad_cons (pd_var 1) ad_nil))))) bd_nil)
      (bd_cons (sd_set 2 nd (pd_bin op_addU den_add (pd_callB (cr_max rfl) den_maxL (by rfl) T.m_max (by decide +kernel) (ad_cons (pd_var 1) ad_nil)) (pd_call (ok__law_draw T B) (hr.mono (by first | exact Nat.le_refl _ | omega | (refine Nat.le_trans ?_ (Nat.le_add_right _ _); decide))) (by rfl) T.g__law_draw T.F__law_draw.kp T.b__law_draw (ad_cons (pd_var 0) (ad_cons (pd_ix ix_seq den_ix (pd_tup (ad_cons pd_int (ad_cons pd_int ad_nil))) (pd_call (ok__law_draw T B) (hr.mono (by first | exact Nat.le_refl _ | omega | (refine Nat.le_trans ?_ (Nat.le_add_right _ _); decide))) (by rfl) T.g__law_draw T.F__law_draw.kp T.b__law_draw (ad_cons (pd_var 0) (ad_cons pd_int ad_nil))) (fun _ _ => rfl)) ad_nil)))))
      (bd_cons (sd_set 3 nd pd_non)
      (bd_cons (sd_for hp rfl (id_lst (pd_call (ok__law_divisions T B 60) (hr.mono (by first | exact Nat.le_refl _ | omega | (refine Nat.le_trans ?_ (Nat.le_add_right _ _); decide))) (by rfl) T.g__law_divisions T.F__law_divisions.kp T.b__law_divisions (ad_cons (pd_callB call_len den_len (by rfl) T.m_len (by decide +kernel) (ad_cons (pd_var 1) ad_nil)) ad_nil))) (gd_name 4 nd) (bd_cons (sd_set 6 nd (pd_call (ok__law_badness T B) (hr.mono (by first | exact Nat.le_refl _ | omega | (refine Nat.le_trans ?_ (Nat.le_add_right _ _); decide))) (by rfl) T.g__law_badness T.F__law_badness.kp T.b__law_badness (ad_cons (pd_var 1) (ad_cons (pd_var 2) (ad_cons (pd_var 4) ad_nil)))))
      (bd_one (sd_if (td_w (wd_and (td_cmp op_notN den_notNon (pd_var 6) pd_non (nomark _)) (wd_and1 (td_w (wd_or (td_cmp op_isN den_isNon (pd_var 3) pd_non (nomark _)) (wd_or1 (td_cmp (op_ltU (hr.units)) den_ltU (pd_tup (ad_cons (pd_var 6) (ad_cons (pd_var 4) ad_nil))) (pd_var 3) (nomark _)))))))) (bd_one (sd_set 3 nd (pd_tup (ad_cons (pd_var 6) (ad_cons (pd_var 4) ad_nil))))) bd_nil))))
      (bd_cons (sd_set 5 nd (pd_callTy call_list_of den_list (by rfl) T.m_list (by decide +kernel) (ad_cons (pd_var 1) ad_nil)))
      (bd_cons (sd_if (td_w (wd_or (td_not (td_truth (pd_call (ok__law_same T B 60) (hr.mono (by first | exact Nat.le_refl _ | omega | (refine Nat.le_trans ?_ (Nat.le_add_right _ _); decide))) (by rfl) T.g__law_same T.F__law_same.kp T.b__law_same (ad_cons (pd_call (ok_best_lines T B) (hr.mono (by first | exact Nat.le_refl _ | omega | (refine Nat.le_trans ?_ (Nat.le_add_right _ _); decide))) (by rfl) T.g_best_lines T.F_best_lines.kp T.b_best_lines (ad_cons (pd_var 5) (ad_cons (pd_var 2) ad_nil))) (ad_cons (pd_ix ix_seq den_ix (pd_var 3) pd_int (fun _ _ => rfl)) ad_nil))))) (wd_or1 (td_cmp (op_neD (hr.units)) den_ne (pd_var 5) (pd_var 1) (nomark _))))) (bd_one (sd_ret pd_bl)) bd_nil)
      (bd_cons (sd_for hp rfl (id_lst (pd_lst (ad_cons (pd_ix ix_seq den_ix (pd_var 3) pd_int (fun _ _ => rfl)) (ad_cons (pd_lst ad_nil) (ad_cons (pd_lst (ad_cons (pd_callB call_len den_len (by rfl) T.m_len (by decide +kernel) (ad_cons (pd_var 1) ad_nil)) ad_nil)) (ad_cons (pd_bin L2.op_rep den_rep (pd_lst (ad_cons pd_int ad_nil)) (pd_callB call_len den_len (by rfl) T.m_len (by decide +kernel) (ad_cons (pd_var 1) ad_nil))) (ad_cons (pd_bin L2.op_rep den_rep (pd_lst (ad_cons pd_int ad_nil)) (pd_bin op_addU den_add (pd_callB call_len den_len (by rfl) T.m_len (by decide +kernel) (ad_cons (pd_var 1) ad_nil)) pd_int)) (ad_cons (pd_bin op_addU den_add (pd_lst (ad_cons pd_int ad_nil)) (pd_ix ix_seq den_ix (pd_var 3) pd_int (fun _ _ => rfl))) (ad_cons (pd_bin op_addU den_add (pd_ix ix_seq den_ix (pd_var 3) pd_int (fun _ _ => rfl)) (pd_lst (ad_cons (pd_neg pd_int) (ad_cons pd_int ad_nil)))) (ad_cons (pd_slice sl_U (pd_ix ix_seq den_ix (pd_var 3) pd_int (fun _ _ => rfl)) (od_some pd_int) od_none) (ad_cons (pd_call (ok__law_pick T B) (hr.mono (by first | exact Nat.le_refl _ | omega | (refine Nat.le_trans ?_ (Nat.le_add_right _ _); decide))) (by rfl) T.g__law_pick T.F__law_pick.kp T.b__law_pick (ad_cons (pd_var 0) (ad_cons (pd_call (ok__law_divisions T B 60) (hr.mono (by first | exact Nat.le_refl _ | omega | (refine Nat.le_trans ?_ (Nat.le_add_right _ _); decide))) (by rfl) T.g__law_divisions T.F__law_divisions.kp T.b__law_divisions (ad_cons (pd_callB call_len den_len (by rfl) T.m_len (by decide +kernel) (ad_cons (pd_var 1) ad_nil)) ad_nil)) ad_nil))) ad_nil))))))))))) (gd_name 4 nd) (bd_one (sd_if (td_not (td_truth (pd_call (ok__law_same T B 60) (hr.mono (by first | exact Nat.le_refl _ | omega | (refine Nat.le_trans ?_ (Nat.le_add_right _ _); decide))) (by rfl) T.g__law_same T.F__law_same.kp T.b__law_same (ad_cons (pd_call (ok_badness T B) (hr.mono (by first | exact Nat.le_refl _ | omega | (refine Nat.le_trans ?_ (Nat.le_add_right _ _); decide))) (by rfl) T.g_badness T.F_badness.kp T.b_badness (ad_cons (pd_var 5) (ad_cons (pd_var 2) (ad_cons (pd_callTy call_list_of den_list (by rfl) T.m_list (by decide +kernel) (ad_cons (pd_var 4) ad_nil)) ad_nil)))) (ad_cons (pd_call (ok__law_badness T B) (hr.mono (by first | exact Nat.le_refl _ | omega | (refine Nat.le_trans ?_ (Nat.le_add_right _ _); decide))) (by rfl) T.g__law_badness T.F__law_badness.kp T.b__law_badness (ad_cons (pd_var 1) (ad_cons (pd_var 2) (ad_cons (pd_var 4) ad_nil)))) ad_nil))))) (bd_one (sd_ret pd_bl)) bd_nil)))
      (bd_one (sd_ret pd_bl)))))))))))
theorem law_run (T : Tx K w mg) (bnd : ∀ (s : Shared) (v : Value), BindsTo s T.d_law ⟨[v], []⟩ [("script", v)]) (hG : ∀ ns : List Int, ns.length ≤ 63 → ∃ S, F_law [scriptD ns] [] = .ok (.bl true) S) : LawT P w K mg T.f_law := lawT (P := P) T.F_law sc_law G_law (k := 62) ⟨rfl, by decide, by decide⟩ bnd (fun base cdv s H E B hcd hr => by
    have nd := sc_law.nd
    have hp : PassesOwn (model P w) (callerA.deeper (envOfC "law" (defScope s_law) s.heap.objs.size T.f_law cdv)) (envOfC "law" (defScope s_law) s.heap.objs.size T.f_law cdv) (cxOf (L2.CX P w) P w K mg base ["script", "pool", "k"] "law" (defScope s_law) T.f_law cdv callerA [] s H E).xe := passes_of rfl
    exact (bd_cons (sd_set 1 nd (pd_call (ok__law_pool T B) (hr.mono (by first | exact Nat.le_refl _ | omega | (refine Nat.le_trans ?_ (Nat.le_add_right _ _); decide))) (by rfl) T.g__law_pool T.F__law_pool.kp T.b__law_pool (ad_cons (pd_var 0) ad_nil)))
      (bd_one (sd_ret (pd_cmp (op_eqD (hr.units)) den_eq (pd_callB call_len den_len (by rfl) T.m_len (by decide +kernel) (ad_cons (pd_comp (own := [("k", 2)]) rfl nd (id_range1 (by rfl) T.m_range (ad_cons pd_int ad_nil)) (blkOk_by (own := [("k", 2)]) (N := ["script", "pool", "k"]) (sc := (defScope s_law)) (by decide +kernel)) (by decide) (fun _ _ _ _ _ => (gd_name 2 nd)) (fun _ _ _ _ _ => (tsd_one (td_not (td_truth (pd_call (ok__law_asked_once T B) (hr.mono (by first | exact Nat.le_refl _ | omega | (refine Nat.le_trans ?_ (Nat.le_add_right _ _); decide))) (by rfl) T.g__law_asked_once T.F__law_asked_once.kp T.b__law_asked_once (ad_cons (pd_var 1) ad_nil)))))) (fun _ _ _ _ _ => (pd_var 2))) ad_nil)) pd_int (nomark _)))))) hG
end
/- levels {'line_width': 1, 'badness': 3, 'best_number': 2, 'best_lines': 3, '_law_same': 61, '_law_pool': 1, '_law_spread': 1, '_law_draw': 2, '_law_pick': 3, '_law_badness': 1, '_law_divisions': 61, '_law_asked_once': 62, 'law': 63} raising [] gens ['badness'] -/
end k57
set_option Elab.async false
set_option linter.all false
set_option maxRecDepth 100000
set_option maxHeartbeats 4000000
/-! dicts: what is put and asked; while as a wish -/
namespace DL
open PySem PySem.Spec PyProof.Rows L2
section
variable {κ : Type} [DecidableEq κ]
theorem valD_nil (ds : List D) (j : κ) : valD ([] : List κ) ds j = none := by simp [valD]
theorem valD_cons (a : κ) (ks : List κ) (x : D) (ds : List D) (j : κ) : valD (a :: ks) (x :: ds) j = if a = j then some x else valD ks ds j := by
  by_cases h : a = j <;> simp [valD, h]
theorem valD_with (k j : κ) (d : D) : ∀ (ks : List κ) (ds : List D), ks.length = ds.length → valD ks (List.zipWith (fun j x => if j = k then d else x) ks ds) j = (valD ks ds j).map fun x => if j = k then d else x
  | [], ds, _ => by rw [valD_nil, valD_nil]; rfl
  | a :: ks, [], h => by simp at h
  | a :: ks, x :: ds, h => by
    rw [List.zipWith_cons_cons, valD_cons, valD_cons, valD_with k j d ks ds (by simpa using h)]
    by_cases e : a = j
    · subst e; simp
    · rw [if_neg e, if_neg e]
theorem valD_any (k : κ) : ∀ (ks : List κ) (ds : List D), ks.length = ds.length → (ks.any fun j => decide (j = k)) = (valD ks ds k).isSome
  | [], ds, _ => by rw [valD_nil]; rfl
  | a :: ks, [], h => by simp at h
  | a :: ks, x :: ds, h => by
    rw [List.any_cons, valD_cons, valD_any k ks ds (by simpa using h)]
    by_cases e : a = k <;> simp [e]
theorem valD_snoc (k j : κ) (d : D) : ∀ (ks : List κ) (ds : List D), ks.length = ds.length → valD (ks ++ [k]) (ds ++ [d]) j = match valD ks ds j with
    | some x => some x
    | none => if k = j then some d else none
  | [], [], _ => by
    show valD [k] [d] j = _
    rw [valD_cons, valD_nil]
  | [], _ :: _, h => by simp at h
  | a :: ks, [], h => by simp at h
  | a :: ks, x :: ds, h => by
    rw [List.cons_append, List.cons_append, valD_cons, valD_cons, valD_snoc k j d ks ds (by simpa using h)]
    by_cases e : a = j <;> simp [e]
theorem valD_put (k j : κ) (d : D) (ks : List κ) (ds : List D) (hl : ks.length = ds.length) : valD (putDs ks ds k d).1 (putDs ks ds k d).2 j = if j = k then some d else valD ks ds j := by
  unfold putDs
  have ha := valD_any k ks ds hl
  by_cases h : (ks.any fun j => decide (j = k)) = true
  · rw [if_pos h]
    show valD ks (List.zipWith _ ks ds) j = _
    rw [valD_with k j d ks ds hl]
    by_cases e : j = k
    · subst e
      rw [h] at ha
      obtain ⟨x, hx⟩ := Option.isSome_iff_exists.mp ha.symm
      simp [hx]
    · simp [e]
  · rw [if_neg h]
    show valD (ks ++ [k]) (ds ++ [d]) j = _
    rw [valD_snoc k j d ks ds hl]
    by_cases e : j = k
    · subst e
      have : valD ks ds j = none := by
        cases q : valD ks ds j with
        | none => rfl
        | some x => rw [q] at ha; exact absurd ha h
      simp [this]
    · have e' : ¬ k = j := fun z => e z.symm
      rw [if_neg e, if_neg e']
      cases valD ks ds j <;> rfl
theorem put_len (k : κ) (d : D) (ks : List κ) (ds : List D) (hl : ks.length = ds.length) : (putDs ks ds k d).1.length = (putDs ks ds k d).2.length ∧ (putDs ks ds k d).1.length ≤ ks.length + 1 := by
  unfold putDs
  split
  · simp [hl]
  · simp [hl]
theorem put_mem (k : κ) (d : D) (ks : List κ) (ds : List D) : ∀ j ∈ (putDs ks ds k d).1, j ∈ ks ∨ j = k := by
  unfold putDs
  split
  · intro j hj; exact .inl hj
  · intro j hj
    rcases List.mem_append.mp hj with h | h
    · exact .inl h
    · exact .inr (List.mem_singleton.mp h)
theorem put_vals (k : κ) (d : D) (ks : List κ) (ds : List D) : ∀ x ∈ (putDs ks ds k d).2, x ∈ ds ∨ x = d := by
  unfold putDs
  split
  · intro x hx
    obtain ⟨i, hi, e⟩ := List.getElem_of_mem hx
    rw [List.getElem_zipWith] at e
    rw [← e]
    split
    · exact .inr rfl
    · exact .inl (List.getElem_mem _)
  · intro x hx
    rcases List.mem_append.mp hx with h | h
    · exact .inl h
    · exact .inr (List.mem_singleton.mp h)
end
/-- the whole dict in the store -/
theorem put_at {S Cs : Sto} {ks : List Key} {ds : List D} (i : Int) (d : D) (hl : ks.length < 16777216) : putDD (S ++ .dct false (.K ks) ds :: Cs) (.ptr S.length) (.int i) d = some (S ++ .dct false (.K (putDs ks ds (.inl i) d).1) (putDs ks ds (.inl i) d).2 :: Cs) := by
  have e : (S ++ .dct false (.K ks) ds :: Cs)[S.length]? = some (.dct false (.K ks) ds) := by
    rw [List.getElem?_append_right (Nat.le_refl _)]; simp
  unfold putDD
  simp only [e, keyOf]
  rw [if_pos (by rw [sl_eq]; exact hl), List.set_append_right _ _ (Nat.le_refl _)]
  simp
theorem get_at {S Cs : Sto} {ks : List Key} {ds : List D} (l : Bool) (i : Int) : getDD (S ++ .dct l (.K ks) ds :: Cs) (.ptr S.length) (.int i) = some (valD ks ds (.inl i)) := by
  have e : (S ++ .dct l (.K ks) ds :: Cs)[S.length]? = some (.dct l (.K ks) ds) := by
    rw [List.getElem?_append_right (Nat.le_refl _)]; simp
  unfold getDD dictOf
  simp only [e, keyOf]
  rfl
/-- while, with a bound that falls -/
theorem wp_wh {c : Env → M Bool} {f : DS} {Q : Fl → Sto → Prop} (I : Nat → Env → Sto → Prop) (step : ∀ k ρ S, I k ρ S → (c ρ S).sat fun b S1 => (b = true → Wp (f ρ S1) (turnQ Q fun ρ S => ∃ j, j < k ∧ I j ρ S)) ∧ (b = false → Q (.nx ρ) S1)) : ∀ n k ρ S, k < n → I k ρ S → Wp (sWh c f n ρ S) Q
  | 0, k, _, _, h, _ => absurd h (Nat.not_lt_zero _)
  | n + 1, k, ρ, S, h, hI => by
    obtain ⟨b, S1, e, h1, h2⟩ := sat_ex_of (step k ρ S hI)
    unfold sWh
    rw [e, sbind_ok]
    cases b with
    | false => exact h2 rfl
    | true =>
      obtain ⟨fl, S2, e2, h3⟩ := wp_ex (h1 rfl)
      rw [if_pos rfl]
      simp only [e2]
      cases fl with
      | nx ρ2 => obtain ⟨j, hj, h3⟩ := h3; exact wp_wh I step n j ρ2 S2 (by omega) h3
      | ct ρ2 => obtain ⟨j, hj, h3⟩ := h3; exact wp_wh I step n j ρ2 S2 (by omega) h3
      | bk ρ2 => exact h3
      | rt d => exact h3
/-- a def that returns its own list, with other own cells before it -/
theorem fin_wpL {N : Nat} {G : DS} {ds : List D} {S : Sto} {xs : List D} (hS : Cls S) (hv : ∀ n, noPtrs n xs = true) (h : Wp (G (startE N ds) S) fun f S' => ∃ n Cs, f = .rt (.ptr n) ∧ S.length ≤ n ∧ S' = S ++ Cs ∧ Cs ≠ [] ∧ ofPtr S' n = some xs) : fzF (mkF N G) ds S = .ok (.lst xs) S := by
  obtain ⟨f, S', e, n, Cs, rfl, hn, rfl, hc, ho⟩ := wp_ex h
  show finO S.length (outS _) = _
  rw [e]
  have e1 : ¬ (S ++ Cs).length = S.length := by
    have := List.length_pos_iff.mpr hc
    simp
    omega
  have e0 : (S ++ Cs).take S.length = S := by rw [List.take_append_of_le_length (Nat.le_refl _), List.take_length]
  have e3 : fz (S ++ Cs) S.length (.ptr n) = some (.lst xs) := by
    unfold fz
    rw [if_neg (by simp [noPtr]; omega)]
    simp only [ho]
    rw [if_pos (hv _)]
  have hS' : S.all (noPtrC S.length) = true := hS
  show finO S.length (.ok (.ptr n) (S ++ Cs)) = _
  simp only [finO]
  rw [if_neg e1, e0, if_pos hS']
  simp only [e3]
end DL
set_option Elab.async false
set_option linter.all false
set_option maxRecDepth 100000
set_option maxHeartbeats 4000000
namespace k57
open PySem PySem.Spec PyProof.Rows L2 DL DL.Pre
/-! ### what lines cost -/
def wd (vs : List Int) : Int := vs.sum + vs.length - 1
def cost (w : Int) : List Int → List Nat → Option Int
  | _, [] => some 0
  | vs, n :: ls => if w < wd (vs.take n) then none else match cost w (vs.drop n) ls with
    | none => none
    | some c => some ((if n < vs.length then (w - wd (vs.take n)) * (w - wd (vs.take n)) else 0) + c)
def Fits (m : Nat) (ls : List Nat) : Prop := (∀ n ∈ ls, 1 ≤ n) ∧ ls.sum = m
def lexN : List Nat → List Nat → Bool
  | _, [] => false
  | [], _ :: _ => true
  | x :: xs, y :: ys => if x = y then lexN xs ys else decide (x < y)
theorem lex_irr : ∀ a : List Nat, lexN a a = false
  | [] => rfl
  | x :: xs => by rw [lexN, if_pos rfl]; exact lex_irr xs
theorem lex_total : ∀ a b : List Nat, lexN a b = false → lexN b a = false → a = b
  | [], [], _, _ => rfl
  | [], _ :: _, h, _ => by cases h
  | _ :: _, [], _, h => by cases h
  | x :: xs, y :: ys, h1, h2 => by
    rw [lexN] at h1 h2
    by_cases e : x = y
    · subst e
      rw [if_pos rfl] at h1 h2
      rw [lex_total xs ys h1 h2]
    · rw [if_neg e] at h1
      rw [if_neg (Ne.symm e)] at h2
      have := of_decide_eq_false h1
      have := of_decide_eq_false h2
      omega
theorem lex_trans : ∀ a b c : List Nat, lexN a b = true → lexN b c = true → lexN a c = true
  | _, [], _, h, _ => by simp [lexN] at h
  | _, _ :: _, [], _, h => by simp [lexN] at h
  | [], _ :: _, _ :: _, _, _ => rfl
  | x :: xs, y :: ys, z :: zs, h1, h2 => by
    rw [lexN] at h1 h2 ⊢
    by_cases e1 : x = y
    · subst e1
      rw [if_pos rfl] at h1
      by_cases e2 : x = z
      · subst e2
        rw [if_pos rfl] at h2 ⊢
        exact lex_trans xs ys zs h1 h2
      · rw [if_neg e2] at h2 ⊢; exact h2
    · rw [if_neg e1] at h1
      have h1 := of_decide_eq_true h1
      by_cases e2 : y = z
      · subst e2
        rw [if_neg e1]; exact decide_eq_true h1
      · rw [if_neg e2] at h2
        have h2 := of_decide_eq_true h2
        rw [if_neg (by omega)]; exact decide_eq_true (by omega)
def lt2 (c : Int) (ls : List Nat) (d : Int) (ms : List Nat) : Bool := if c = d then lexN ls ms else decide (c < d)
theorem lt2_irr (c : Int) (ls : List Nat) : lt2 c ls c ls = false := by unfold lt2; rw [if_pos rfl, lex_irr]
theorem lt2_trans {c d e : Int} {l m n : List Nat} (h1 : lt2 c l d m = true) (h2 : lt2 d m e n = true) : lt2 c l e n = true := by
  unfold lt2 at *
  by_cases e1 : c = d
  · subst e1
    rw [if_pos rfl] at h1
    by_cases e2 : c = e
    · subst e2
      rw [if_pos rfl] at h2 ⊢
      exact lex_trans _ _ _ h1 h2
    · rw [if_neg e2] at h2 ⊢; exact h2
  · rw [if_neg e1] at h1
    have h1 := of_decide_eq_true h1
    by_cases e2 : d = e
    · subst e2
      rw [if_neg e1]; exact decide_eq_true h1
    · rw [if_neg e2] at h2
      have h2 := of_decide_eq_true h2
      rw [if_neg (by omega)]; exact decide_eq_true (by omega)
/-! ### the best lines from behind -/
section
variable (ws : List Int) (w : Int)
def lft (s k : Nat) : Int := w - wd ((ws.drop s).take k)
def Tz (T : Nat → Int) (s : Nat) : Int := if s < ws.length then T s else 0
def cand (T : Nat → Int) (s k : Nat) : Int := (if s + k < ws.length then lft ws w s k * lft ws w s k else 0) + Tz ws T (s + k)
structure Best (T : Nat → Int) (N : Nat → Nat) (s : Nat) : Prop where
  one : 1 ≤ N s
  le : s + N s ≤ ws.length
  fit : 0 ≤ lft ws w s (N s)
  eq : T s = cand ws w T s (N s)
  min : ∀ k, 1 ≤ k → s + k ≤ ws.length → 0 ≤ lft ws w s k → T s ≤ cand ws w T s k ∧ (T s = cand ws w T s k → N s ≤ k)
def lin (N : Nat → Nat) : Nat → Nat → List Nat
  | 0, _ => []
  | f + 1, s => if s < ws.length then N s :: lin N f (s + N s) else []
variable {ws w}
theorem lin_end {N : Nat → Nat} : ∀ f s, ws.length ≤ s → lin ws N f s = []
  | 0, _, _ => rfl
  | f + 1, s, h => by rw [lin, if_neg (by omega)]
theorem lin_ok {T : Nat → Int} {N : Nat → Nat} (hB : ∀ s, s < ws.length → Best ws w T N s) : ∀ f s, ws.length - s ≤ f → s ≤ ws.length → Fits (ws.length - s) (lin ws N f s) ∧ cost w (ws.drop s) (lin ws N f s) = some (Tz ws T s)
  | 0, s, h, hs => by
    have : s = ws.length := by omega
    subst this
    refine ⟨⟨by simp [lin], by simp [lin]⟩, ?_⟩
    simp [lin, cost, Tz]
  | f + 1, s, h, hs => by
    by_cases hl : s < ws.length
    · rw [lin, if_pos hl]
      have b := hB s hl
      have := b.one
      have := b.le
      obtain ⟨⟨i1, i2⟩, i3⟩ := lin_ok hB f (s + N s) (by omega) (by omega)
      refine ⟨⟨?_, ?_⟩, ?_⟩
      · intro n hn
        rcases List.mem_cons.mp hn with rfl | hn
        · exact b.one
        · exact i1 n hn
      · rw [List.sum_cons, i2]; omega
      · rw [cost, if_neg (by have := b.fit; unfold lft at this; omega), List.drop_drop, i3]
        show some _ = some _
        have e1 : Tz ws T s = T s := if_pos hl
        rw [e1, b.eq]
        unfold cand lft
        rw [List.length_drop]
        congr 2
        by_cases hc : s + N s < ws.length
        · rw [if_pos hc, if_pos (by omega)]
        · rw [if_neg hc, if_neg (by omega)]
    · rw [lin, if_neg hl]
      have : s = ws.length := by omega
      subst this
      refine ⟨⟨by simp, by simp⟩, ?_⟩
      simp [cost, Tz]
theorem lin_min {T : Nat → Int} {N : Nat → Nat} (hB : ∀ s, s < ws.length → Best ws w T N s) : ∀ (ls : List Nat) (f s : Nat) (c : Int), ws.length - s ≤ f → s ≤ ws.length → Fits (ws.length - s) ls → cost w (ws.drop s) ls = some c → Tz ws T s ≤ c ∧ (Tz ws T s = c → lexN ls (lin ws N f s) = false)
  | [], f, s, c, hf, hs, ⟨_, h2⟩, hc => by
    have e : ws.length ≤ s := by simp at h2; omega
    rw [lin_end f s e]
    have : Tz ws T s = 0 := if_neg (by omega)
    cases hc
    exact ⟨by omega, fun _ => rfl⟩
  | n :: ls, f, s, c, hf, hs, ⟨h1, h2⟩, hc => by
    have hn := h1 n List.mem_cons_self
    rw [List.sum_cons] at h2
    have hl : s < ws.length := by omega
    rw [cost] at hc
    by_cases hw : w < wd ((ws.drop s).take n)
    · rw [if_pos hw] at hc; cases hc
    · rw [if_neg hw, List.drop_drop] at hc
      cases hr : cost w (ws.drop (s + n)) ls with
      | none => rw [hr] at hc; cases hc
      | some c' =>
        rw [hr] at hc
        have b := hB s hl
        have b1 := b.one
        have b2 := b.le
        obtain ⟨m1, m2⟩ := b.min n hn (by omega) (by unfold lft; omega)
        have ih : ∀ f', ws.length - (s + n) ≤ f' → _ := fun f' hf' => lin_min hB ls f' (s + n) c' hf' (by omega) ⟨fun k hk => h1 k (List.mem_cons_of_mem _ hk), by omega⟩ hr
        have e1 : Tz ws T s = T s := if_pos hl
        have ec : c = (if s + n < ws.length then lft ws w s n * lft ws w s n else 0) + c' := by
          have := Option.some.inj hc
          rw [← this]
          unfold lft
          rw [List.length_drop]
          congr 1
          by_cases hc : s + n < ws.length
          · rw [if_pos hc, if_pos (by omega)]
          · rw [if_neg hc, if_neg (by omega)]
        have i0 := (ih (ws.length - (s + n)) (Nat.le_refl _)).1
        unfold cand at m1 m2
        rw [e1]
        refine ⟨by omega, fun he => ?_⟩
        cases f with
        | zero => omega
        | succ f =>
          rw [lin, if_pos hl, lexN]
          have hT : Tz ws T (s + n) = c' := by omega
          have hN : N s ≤ n := m2 (by omega)
          by_cases hnn : n = N s
          · rw [if_pos hnn, ← hnn]
            exact (ih f (by omega)).2 hT
          · rw [if_neg hnn]
            exact decide_eq_false (by omega)
end
/-! ### widths as data -/
abbrev wsD (ws : List Int) : D := .lst (ws.map D.int)
theorem sl_bothL (S : Sto) (xs : List D) (a b : Nat) (ha : a ≤ b) : gSl S (some (a : Int)) (some (b : Int)) (.lst xs) = some (.lst ((xs.drop a).take (b - a))) := by
  have := sl_both S xs a b ha
  have e : gSl S (some (a : Int)) (some (b : Int)) (.tup xs) = some (.tup (cutD xs (some (a : Int)) (some (b : Int)))) := rfl
  rw [e] at this
  show some (D.lst (cutD xs (some (a : Int)) (some (b : Int)))) = _
  injection this with h
  injection h with h
  rw [h]
theorem sl_ws (S : Sto) (ws : List Int) (a b : Nat) (ha : a ≤ b) : gSl S (some (a : Int)) (some (b : Int)) (wsD ws) = some (wsD ((ws.drop a).take (b - a))) := by
  rw [sl_bothL S _ a b ha, ← List.map_drop, ← List.map_take]
theorem cSum_l (S : Sto) (ns : List Int) : cSum S [wsD ns] = some (.int ns.sum) := by
  show (intsD (ns.map D.int)).map (fun ns => D.int ns.sum) = _
  rw [intsD_map]
  rfl
theorem v_line_width (vs : List Int) (S : Sto) : F_line_width [wsD vs] S = .ok (.int (wd vs)) S := by
  refine fin_wp ?_
  unfold G_line_width
  with_reducible refine l_ret ?_
  have h := cSum_l S vs
  simp -implicitDefEqProofs [h]
  rfl
section
variable {ws : List Int} {w : Int}
theorem lft_mono (hp : ∀ x ∈ ws, 1 ≤ x) (s k : Nat) : lft ws w s (k + 1) ≤ lft ws w s k := by
  unfold lft wd
  by_cases h : k < (ws.drop s).length
  · rw [List.take_succ_eq_append_getElem h, List.sum_append, List.length_append]
    have := hp _ (List.mem_of_mem_drop (List.getElem_mem h))
    generalize (ws.drop s)[k] = x at this ⊢
    have e1 : [x].sum = x := by simp
    rw [e1, List.length_singleton]
    omega
  · rw [List.take_of_length_le (by omega), List.take_of_length_le (by omega)]
    exact Int.le_refl _
theorem lft_le (hp : ∀ x ∈ ws, 1 ≤ x) (s : Nat) : ∀ d k : Nat, lft ws w s (k + d) ≤ lft ws w s k
  | 0, k => Int.le_refl _
  | d + 1, k => Int.le_trans (lft_mono hp s (k + d)) (lft_le hp s d k)
def BestK (ws : List Int) (w : Int) (T : Nat → Int) (s m : Nat) (t : Int) (k : Nat) : Prop := 1 ≤ k ∧ k ≤ m ∧ 0 ≤ lft ws w s k ∧ t = cand ws w T s k ∧ ∀ j, 1 ≤ j → j ≤ m → 0 ≤ lft ws w s j → t ≤ cand ws w T s j ∧ (t = cand ws w T s j → k ≤ j)
theorem v_best_number {T : Nat → Int} {N : Nat → Nat} {s : Nat} {S : Sto} {p : Nat} (hn : ws.length ≤ 100) (hs : s < ws.length) (hp : ∀ x ∈ ws, 1 ≤ x) (h1 : 0 ≤ lft ws w s 1) (hW : w < 10000 ∧ 0 ≤ w) (hD : ∀ e, s < e → e < ws.length → getDD S (.ptr p) (.int (e : Int)) = some (some (.tup [.int (T e), .int (N e)]))) :
    ∃ (t : Int) (k : Nat), BestK ws w T s (ws.length - s) t k ∧ F_best_number [wsD ws, .int w, .ptr p, .int s] S = .ok (.tup [.int t, .int k]) S := by
  have key : ∃ d, (∃ (t : Int) (k : Nat), BestK ws w T s (ws.length - s) t k ∧ d = .tup [.int t, .int k]) ∧ F_best_number [wsD ws, .int w, .ptr p, .int s] S = .ok d S := by
    refine fin_wpE ?_
    unfold G_best_number
    with_reducible refine c_set ?_
    intro g1 eg
    simp -implicitDefEqProofs
    subst eg
    have hr := rng2_int ((s : Int) + 1) ((ws.length : Int) + 1) (by omega) (by omega) (by omega) (by omega)
    have hk : ((ws.length : Int) + 1 - ((s : Int) + 1)).toNat = ws.length - s := by omega
    rw [hk] at hr
    with_reducible refine w_for ?_
    have f1 : iArgs rng2 (aCons (dOp2 gAdd (dVar 3) (dC (.int 1))) (aCons (dOp2 gAdd (dCallB cLen (aCons (dVar 0) aNil)) (dC (.int 1))) aNil)) [some (wsD ws), some (.int w), some (.ptr p), some (.int (s : Int)), some .non, none, none, none] S = .ok (rangeD ((s : Int) + 1) (ws.length - s)) S := by
      simp -implicitDefEqProofs [hr]
    rw [f1, sat_ok]
    refine wp_loopR2 (fun m ρ S' => S' = S ∧ (∀ j, 1 ≤ j → j ≤ m → 0 ≤ lft ws w s j) ∧ ∃ y5 y6 y7, (m = 0 ∧ ρ = [some (wsD ws), some (.int w), some (.ptr p), some (.int (s : Int)), some .non, y5, y6, y7]) ∨ ∃ (t : Int) (k : Nat), BestK ws w T s m t k ∧ ρ = [some (wsD ws), some (.int w), some (.ptr p), some (.int (s : Int)), some (.tup [.int t, .int k]), y5, y6, y7]) ?_ ?_ ⟨rfl, by omega, _, _, _, .inl ⟨rfl, rfl⟩⟩
    · rintro m hm ρ S' ⟨rfl, hall, y5, y6, y7, hρ⟩
      obtain ⟨b, eb⟩ : ∃ b, ρ = [some (wsD ws), some (.int w), some (.ptr p), some (.int (s : Int)), some b, y5, y6, y7] := by
        rcases hρ with ⟨_, rfl⟩ | ⟨t, k, _, rfl⟩ <;> exact ⟨_, rfl⟩
      subst eb
      refine ⟨_, rfl, ?_⟩
      simp -implicitDefEqProofs only [List.set_cons_succ, List.set_cons_zero]
      obtain ⟨E, hE⟩ : ∃ E : Nat, E = s + (m + 1) := ⟨_, rfl⟩
      have ea : (s : Int) + 1 + (m : Int) = (E : Int) := by omega
      rw [ea]
      have hsl := sl_ws S' ws s E (by omega)
      have e0 : E - s = m + 1 := by omega
      rw [e0] at hsl
      have elw := v_line_width ((ws.drop s).take (m + 1)) S'
      have el : w - wd ((ws.drop s).take (m + 1)) = lft ws w s (m + 1) := rfl
      with_reducible refine c_set ?_
      intro g1 eg
      simp -implicitDefEqProofs [hsl, nox_ok elw, el]
      subst eg
      by_cases hneg : lft ws w s (m + 1) < 0
      · refine c_if fun a1 b1 g1 ea eb eg => ?_
        subst ea
        simp -implicitDefEqProofs [hneg]
        rcases hρ with ⟨h0, hb⟩ | ⟨t, k, hb, he⟩
        · subst h0; rw [Nat.zero_add] at hneg; omega
        · injection he with _ he
          injection he with _ he
          injection he with _ he
          injection he with _ he
          injection he with he _
          injection he with he
          subst he
          refine ⟨t, k, ⟨hb.1, by have := hb.2.1; omega, hb.2.2.1, hb.2.2.2.1, fun j j1 j2 j3 => ?_⟩, rfl⟩
          by_cases hj : j ≤ m
          · exact hb.2.2.2.2 j j1 hj j3
          · have := lft_le (w := w) hp s (j - (m + 1)) (m + 1)
            have ej : m + 1 + (j - (m + 1)) = j := by omega
            rw [ej] at this
            omega
      · with_reducible refine c_skip ?_
        intro g1 eg
        simp -implicitDefEqProofs [hneg]
        subst eg
        have ecand : (if E = ws.length then (0 : Int) else lft ws w s (m + 1) * lft ws w s (m + 1) + T E) = cand ws w T s (m + 1) := by
          unfold cand Tz
          rw [← hE]
          by_cases hc : E = ws.length
          · rw [if_pos hc, if_neg (by omega), if_neg (by omega)]; rfl
          · rw [if_neg hc, if_pos (by omega), if_pos (by omega)]
        have hle : lft ws w s (m + 1) ≤ w + 1 := by
          have := lft_le (w := w) hp s (m + 1) 0
          rw [Nat.zero_add] at this
          have e2 : lft ws w s 0 = w + 1 := by unfold lft wd; simp
          omega
        have etot : dIfE (dTest (dOp2 gEq (dVar 5) (dCallB cLen (aCons (dVar 0) aNil)))) (dC (.int 0)) (dOp2 gAdd (dOp2 gMul (dVar 6) (dVar 6)) (dOp2 gIx (dGet (dVar 2) (dVar 5)) (dC (.int 0)))) [some (wsD ws), some (.int w), some (.ptr p), some (.int (s : Int)), some b, some (.int (E : Int)), some (.int (lft ws w s (m + 1))), y7] S' = .ok (.int (cand ws w T s (m + 1))) S' := by
          rw [← ecand]
          by_cases hc : E = ws.length
          · have hc2 : (E : Int) = (ws.length : Int) := by omega
            rw [if_pos hc]
            simp -implicitDefEqProofs [hc2]
          · have hc2 : ¬ (E : Int) = (ws.length : Int) := by omega
            rw [if_neg hc]
            have eg := hD E (by omega) (by omega)
            simp -implicitDefEqProofs [hc2, eg]
            omega
        with_reducible refine c_set ?_
        intro g1 eg
        rw [etot, sat_ok]
        simp -implicitDefEqProofs only [List.set_cons_succ, List.set_cons_zero]
        subst eg
        have hfit : ∀ j, 1 ≤ j → j ≤ m + 1 → 0 ≤ lft ws w s j := fun j j1 j2 => by
          by_cases hj : j ≤ m
          · exact hall j j1 hj
          · have : j = m + 1 := by omega
            subst this; omega
        have edif : (E : Int) - (s : Int) = ((m + 1 : Nat) : Int) := by omega
        rcases hρ with ⟨h0, hb⟩ | ⟨t, k, hb, he⟩
        · injection hb with _ hb
          injection hb with _ hb
          injection hb with _ hb
          injection hb with _ hb
          injection hb with hb _
          injection hb with hb
          subst hb
          subst h0
          simp -implicitDefEqProofs
          refine ⟨hfit, _, _, _, cand ws w T s 1, 1, ⟨by omega, by omega, h1, rfl, fun j j1 j2 j3 => ?_⟩, ⟨rfl, by omega⟩, rfl, rfl, rfl⟩
          have : j = 1 := by omega
          subst this
          exact ⟨Int.le_refl _, fun _ => Nat.le_refl _⟩
        · injection he with _ he
          injection he with _ he
          injection he with _ he
          injection he with _ he
          injection he with he _
          injection he with he
          subst he
          by_cases hlt : cand ws w T s (m + 1) < t
          · simp -implicitDefEqProofs [hlt, edif]
            refine ⟨hfit, _, _, _, cand ws w T s (m + 1), m + 1, ⟨by omega, by omega, by omega, rfl, fun j j1 j2 j3 => ?_⟩, ⟨rfl, by omega⟩, rfl, rfl, rfl⟩
            by_cases hj : j ≤ m
            · have := (hb.2.2.2.2 j j1 hj j3).1
              exact ⟨by omega, fun z => by omega⟩
            · have : j = m + 1 := by omega
              subst this
              exact ⟨Int.le_refl _, fun _ => Nat.le_refl _⟩
          · simp -implicitDefEqProofs [hlt]
            refine ⟨hfit, _, _, _, t, k, ⟨hb.1, by have := hb.2.1; omega, hb.2.2.1, hb.2.2.2.1, fun j j1 j2 j3 => ?_⟩, ⟨rfl, rfl⟩, rfl, rfl, rfl⟩
            by_cases hj : j ≤ m
            · exact hb.2.2.2.2 j j1 hj j3
            · have : j = m + 1 := by omega
              subst this
              exact ⟨by omega, fun _ => by have := hb.2.1; omega⟩
    · rintro ρ S' ⟨rfl, hall, y5, y6, y7, hρ⟩
      rcases hρ with ⟨h0, rfl⟩ | ⟨t, k, hb, rfl⟩
      · omega
      · simp -implicitDefEqProofs
        exact ⟨t, k, hb, rfl, rfl⟩
  obtain ⟨d, ⟨t, k, hb, rfl⟩, e⟩ := key
  exact ⟨t, k, hb, e⟩
end
/-! ### all the best from behind -/
theorem cand_congr {ws : List Int} {w : Int} {T T' : Nat → Int} {s k : Nat} (hk : 1 ≤ k) (h : ∀ x, s < x → T x = T' x) : cand ws w T s k = cand ws w T' s k := by
  unfold cand Tz
  rw [h (s + k) (by omega)]
theorem best_of {ws : List Int} {w : Int} {T : Nat → Int} {N : Nat → Nat} {s : Nat} (hs : s < ws.length) (h : BestK ws w T s (ws.length - s) (T s) (N s)) : Best ws w T N s :=
  ⟨h.1, by have := h.2.1; omega, h.2.2.1, h.2.2.2.1, fun k k1 k2 k3 => h.2.2.2.2 k k1 (by omega) k3⟩
theorem best_up {ws : List Int} {w : Int} {T T' : Nat → Int} {N N' : Nat → Nat} {s : Nat} (hT : ∀ x, s ≤ x → T x = T' x) (hN : N s = N' s) (h : Best ws w T N s) : Best ws w T' N' s := by
  have hc : ∀ k, 1 ≤ k → cand ws w T s k = cand ws w T' s k := fun k hk => cand_congr hk fun x hx => hT x (by omega)
  refine ⟨hN ▸ h.one, hN ▸ h.le, hN ▸ h.fit, ?_, fun k k1 k2 k3 => ?_⟩
  · rw [← hT s (Nat.le_refl _), h.eq, hc _ h.one, hN]
  · rw [← hT s (Nat.le_refl _), ← hc k k1, ← hN]
    exact h.min k k1 k2 k3
theorem downD_map (i : Int) : ∀ n : Nat, downD i n = (List.range n).map fun k : Nat => D.int (i - (k : Int)) := by
  intro n
  unfold downD
  refine List.map_congr_left fun k _ => ?_
  congr 1
  omega
theorem lin_fuel {ws : List Int} {w : Int} {T : Nat → Int} {N : Nat → Nat} (hB : ∀ s, s < ws.length → Best ws w T N s) : ∀ f f' s, ws.length - s ≤ f → ws.length - s ≤ f' → lin ws N f s = lin ws N f' s
  | 0, f', s, h, h' => by rw [lin_end _ _ (by omega), lin_end _ _ (by omega)]
  | f + 1, 0, s, h, h' => by rw [lin_end _ _ (by omega), lin_end _ _ (by omega)]
  | f + 1, f' + 1, s, h, h' => by
    rw [lin, lin]
    by_cases hl : s < ws.length
    · have := (hB s hl).one
      rw [if_pos hl, if_pos hl, lin_fuel hB f f' (s + N s) (by omega) (by omega)]
    · rw [if_neg hl, if_neg hl]
def lsD (ps : List Nat) : List D := (ps.map fun n : Nat => (n : Int)).map D.int
theorem sum_cast : ∀ ps : List Nat, (ps.map fun n : Nat => (n : Int)).sum = ((ps.sum : Nat) : Int)
  | [] => rfl
  | p :: ps => by rw [List.map_cons, List.sum_cons, List.sum_cons, sum_cast ps]; omega
theorem put_best {ws : List Int} {w : Int} {T : Nat → Int} {N : Nat → Nat} {s p : Nat} {S1 : Sto} {y4 : Option D} {Q : Fl → Sto → Prop} (hn : ws.length ≤ 100) (hs : s < ws.length) (hp : ∀ x ∈ ws, 1 ≤ x) (h1 : 0 ≤ lft ws w s 1) (hW : w < 10000 ∧ 0 ≤ w) (hD : ∀ e, s < e → e < ws.length → getDD S1 (.ptr p) (.int (e : Int)) = some (some (.tup [.int (T e), .int (N e)])))
    (h : ∀ t k, BestK ws w T s (ws.length - s) t k → ∃ S2, putDD S1 (.ptr p) (.int (s : Int)) (.tup [.int t, .int k]) = some S2 ∧ Q (.nx [some (wsD ws), some (.int w), some (.ptr p), some (.int (s : Int)), y4]) S2) :
    Wp (sPut (dVar 2) (dVar 3) (dCall 4 F_best_number (aCons (dVar 0) (aCons (dVar 1) (aCons (dVar 2) (aCons (dVar 3) aNil))))) [some (wsD ws), some (.int w), some (.ptr p), some (.int (s : Int)), y4] S1) Q := by
  cases v_best_number (N := N) hn hs hp h1 hW hD with
  | intro t hx =>
  cases hx with
  | intro m hx =>
  cases hx with
  | intro hb eb =>
  cases h t m hb with
  | intro S2 h2 =>
  cases h2 with
  | intro e2 q =>
  simp -implicitDefEqProofs [nox_ok eb, e2, q]
theorem v_best_lines {ws : List Int} {w : Int} {S : Sto} (hS : Cls S) (hn : ws.length ≤ 100) (hp : ∀ x ∈ ws, 1 ≤ x) (hw : ∀ x ∈ ws, x ≤ w) (hW : w < 10000 ∧ 0 ≤ w) :
    ∃ (T : Nat → Int) (N : Nat → Nat), (∀ s, s < ws.length → Best ws w T N s) ∧ F_best_lines [wsD ws, .int w] S = .ok (.lst (lsD (lin ws N ws.length 0))) S := by
  have h1 : ∀ s, s < ws.length → 0 ≤ lft ws w s 1 := fun s hs => by
    have e : (ws.drop s).take 1 = [ws[s]] := by
      rw [List.drop_eq_getElem_cons hs]; rfl
    unfold lft wd
    rw [e]
    have := hw _ (List.getElem_mem hs)
    simp
    exact this
  have key : Wp (G_best_lines (startE 5 [wsD ws, .int w]) S) fun f S' => ∃ (T : Nat → Int) (N : Nat → Nat), (∀ s, s < ws.length → Best ws w T N s) ∧ ∃ n Cs, f = .rt (.ptr n) ∧ S.length ≤ n ∧ S' = S ++ Cs ∧ Cs ≠ [] ∧ ofPtr S' n = some (lsD (lin ws N ws.length 0)) := by
    unfold G_best_lines
    with_reducible refine c_set ?_
    intro g1 eg
    simp -implicitDefEqProofs
    subst eg
    have hr : rng3 [.int ((ws.length : Int) - 1), .int (-1), .int (-1)] = some (downD ((ws.length : Int) - 1) ws.length) := by
      refine (if_pos ⟨rfl, by omega, by omega, by omega, by omega⟩).trans ?_
      have e : ((ws.length : Int) - 1 - -1).toNat = ws.length := by omega
      rw [e]
    with_reducible refine w_cut ?_
    intro g1 eg
    with_reducible refine w_for ?_
    have f1 : iArgs rng3 (aCons (dOp2 gSub (dCallB cLen (aCons (dVar 0) aNil)) (dC (.int 1))) (aCons (dNeg (dC (.int 1))) (aCons (dNeg (dC (.int 1))) aNil))) [some (wsD ws), some (.int w), some (.ptr S.length), none, none] (S ++ [.dct false (.K []) []]) = .ok (downD ((ws.length : Int) - 1) ws.length) (S ++ [.dct false (.K []) []]) := by
      simp -implicitDefEqProofs [hr]
    rw [f1, sat_ok, downD_map]
    refine wp_loopN (List.range ws.length) (fun k : Nat => D.int ((ws.length : Int) - 1 - (k : Int))) (fun k ρ S' => ∃ (T : Nat → Int) (N : Nat → Nat) (ks : List Key) (ds : List D) (y3 : Option D), ks.length = ds.length ∧ ks.length ≤ k ∧ (∀ s, ws.length - k ≤ s → s < ws.length → Best ws w T N s ∧ valD ks ds (.inl (s : Int)) = some (.tup [.int (T s), .int (N s)])) ∧ S' = S ++ [.dct false (.K ks) ds] ∧ ρ = [some (wsD ws), some (.int w), some (.ptr S.length), y3, none]) ?_ ?_ ⟨fun _ => 0, fun _ => 0, [], [], none, rfl, Nat.zero_le _, fun s a b => by omega, rfl, rfl⟩
    · rintro k hk ρ S' ⟨T, N, ks, ds, y3, l1, l2, hB, rfl, rfl⟩
      clear eg
      rw [List.length_range] at hk
      rw [List.getElem_range]
      refine ⟨_, rfl, ?_⟩
      simp -implicitDefEqProofs only [List.set_cons_succ, List.set_cons_zero]
      obtain ⟨s, hs⟩ : ∃ s : Nat, (ws.length : Int) - 1 - (k : Int) = (s : Int) := ⟨ws.length - 1 - k, by omega⟩
      rw [hs]
      have hsl : s < ws.length := by omega
      have hD : ∀ e, s < e → e < ws.length → getDD (S ++ [.dct false (.K ks) ds]) (.ptr S.length) (.int (e : Int)) = some (some (.tup [.int (T e), .int (N e)])) := fun e e1 e2 => by
        rw [get_at, (hB e (by omega) e2).2]
      with_reducible refine put_best (N := N) hn hsl hp (h1 s hsl) hW hD ?_
      intro t m hb
      refine ⟨_, put_at (S := S) (Cs := []) (ks := ks) (ds := ds) (s : Int) (.tup [.int t, .int m]) (by omega), ?_⟩
      have q1 := (put_len (.inl (s : Int) : Key) (.tup [.int t, .int m]) ks ds l1).1
      have q2 := (put_len (.inl (s : Int) : Key) (.tup [.int t, .int m]) ks ds l1).2
      refine ⟨fun x => if x = s then t else T x, fun x => if x = s then m else N x, _, _, _, q1, by omega, fun s' a b => ?_, rfl, rfl⟩
      have hv := valD_put (.inl (s : Int) : Key) (.inl (s' : Int)) (.tup [.int t, .int m]) ks ds l1
      by_cases he : s' = s
      · subst he
        refine ⟨best_of hsl ?_, ?_⟩
        · rw [if_pos rfl, if_pos rfl]
          have hc : ∀ k, 1 ≤ k → cand ws w T s' k = cand ws w (fun x => if x = s' then t else T x) s' k := fun k hk => cand_congr hk fun x hx => (if_neg (by omega)).symm
          refine ⟨hb.1, hb.2.1, hb.2.2.1, by rw [← hc _ hb.1]; exact hb.2.2.2.1, fun j j1 j2 j3 => ?_⟩
          rw [← hc j j1]
          exact hb.2.2.2.2 j j1 j2 j3
        · rw [hv, if_pos rfl]
          simp
      · obtain ⟨b1, b2⟩ := hB s' (by omega) b
        refine ⟨best_up (fun x hx => (if_neg (by omega)).symm) (if_neg he).symm b1, ?_⟩
        rw [hv, if_neg (by intro z; injection z with z; omega), b2]
        simp [he]
    · rintro ρ S' ⟨T, N, ks, ds, y3, l1, l2, hB, rfl, rfl⟩
      rw [List.length_range] at hB
      have hB' : ∀ s, s < ws.length → Best ws w T N s := fun s hs => (hB s (by omega) hs).1
      subst eg
      simp -implicitDefEqProofs only [seqQ_nx]
      with_reducible refine c_set ?_
      intro g1 eg
      simp -implicitDefEqProofs
      subst eg
      with_reducible refine w_cut ?_
      intro g1 eg
      with_reducible refine w_seq ?_
      obtain ⟨T1, hT1⟩ : ∃ T1, T1 = S ++ [Cell.dct false (.K ks) ds] := ⟨_, rfl⟩
      have hlT : T1.length = S.length + 1 := by rw [hT1]; simp
      have hT2 : S ++ [Cell.dct false (.K ks) ds, Cell.lst []] = T1 ++ [.lst (lsD [])] := by rw [hT1]; simp [lsD]
      rw [hT2, ← hlT]
      refine wp_wh (fun k ρ S' => ∃ ps : List Nat, ps.sum ≤ ws.length ∧ k = ws.length - ps.sum ∧ ps.length ≤ ps.sum ∧ lin ws N ws.length 0 = ps ++ lin ws N (ws.length - ps.sum) ps.sum ∧ S' = T1 ++ [.lst (lsD ps)] ∧ ρ = [some (wsD ws), some (.int w), some (.ptr S.length), y3, some (.ptr T1.length)]) ?_ fuel ws.length _ _ (by show _ < 1000000; omega) ⟨[], Nat.zero_le _, rfl, Nat.le_refl _, rfl, rfl, rfl⟩
      rintro k ρ S' ⟨ps, p1, rfl, p2, p3, rfl, rfl⟩
      have es : cSum (T1 ++ [.lst (lsD ps)]) [.ptr T1.length] = some (.int ((ps.sum : Nat) : Int)) := by
        have := cSum_end T1 (ps.map fun n : Nat => (n : Int))
        rw [sum_cast] at this
        exact this
      by_cases hlt : ps.sum < ws.length
      · have hlt2 : ((ps.sum : Nat) : Int) < (ws.length : Int) := by omega
        have b := hB' ps.sum hlt
        have b1 := b.one
        have b2 := b.le
        have eg2 : getDD (T1 ++ [.lst (lsD ps)]) (.ptr S.length) (.int ((ps.sum : Nat) : Int)) = some (some (.tup [.int (T ps.sum), .int (N ps.sum)])) := by
          have := get_at (S := S) (Cs := [.lst (lsD ps)]) (ks := ks) (ds := ds) false ((ps.sum : Nat) : Int)
          rw [(hB ps.sum (by omega) hlt).2] at this
          rw [hT1, List.append_assoc]
          exact this
        have a1 := app_append T1 [] (lsD ps) (by unfold lsD; simp; omega) (.int ((N ps.sum : Nat) : Int))
        have a2 := app_isList T1 [] (lsD ps)
        have a3 : lsD ps ++ [.int ((N ps.sum : Nat) : Int)] = lsD (ps ++ [N ps.sum]) := by unfold lsD; simp
        rw [a3] at a1
        simp -implicitDefEqProofs [es, hlt2, eg2, a1, a2]
        refine ⟨ws.length - (ps ++ [N ps.sum]).sum, ?_, ps ++ [N ps.sum], ?_, rfl, ?_, ?_, rfl⟩
        · rw [List.sum_append]; simp; omega
        · rw [List.sum_append]; simp; omega
        · rw [List.sum_append, List.length_append]; simp; omega
        · rw [p3, List.append_assoc]
          congr 1
          have e1 : (ps ++ [N ps.sum]).sum = ps.sum + N ps.sum := by rw [List.sum_append]; simp
          rw [e1]
          have e2 : ws.length - ps.sum = (ws.length - ps.sum - 1) + 1 := by omega
          rw [e2, lin, if_pos hlt]
          rw [List.singleton_append]
          rw [lin_fuel hB' (ws.length - ps.sum - 1) (ws.length - (ps.sum + N ps.sum)) _ (by omega) (by omega)]
      · have hlt2 : ¬ ((ps.sum : Nat) : Int) < (ws.length : Int) := by omega
        simp -implicitDefEqProofs [es, hlt2]
        subst eg
        with_reducible refine l_ret ?_
        simp -implicitDefEqProofs
        refine ⟨T, N, hB', by omega, [.dct false (.K ks) ds, .lst (lsD ps)], by rw [hT1]; simp, by simp, ?_⟩
        rw [app_ofPtr]
        rw [p3]
        rw [lin_end _ _ (by omega), List.append_nil]
  obtain ⟨f, S', e, T, N, hB, n, Cs, rfl, a1, rfl, a2, a3⟩ := wp_ex key
  refine ⟨T, N, hB, fin_wpL hS (fun n => ?_) (wp_of e ⟨n, Cs, rfl, a1, rfl, a2, a3⟩)⟩
  exact nop_ints n _
/-! ### what given lines cost -/
def costD (ws : List Int) (w : Int) (L : List Nat) : D := match cost w ws L with
  | none => .non
  | some c => .int c
theorem lsD_map (L : List Nat) : lsD L = L.map fun n : Nat => D.int (n : Int) := by unfold lsD; rw [List.map_map]; rfl
theorem lft_top {ws : List Int} {w : Int} (hp : ∀ x ∈ ws, 1 ≤ x) (s k : Nat) : lft ws w s k ≤ w + 1 := by
  have := lft_le (w := w) hp s k 0
  rw [Nat.zero_add] at this
  have e2 : lft ws w s 0 = w + 1 := by unfold lft wd; simp
  omega
theorem sum_take_le : ∀ (L : List Nat) (k : Nat), (L.take k).sum ≤ L.sum
  | [], k => by simp
  | x :: L, 0 => by simp
  | x :: L, k + 1 => by
    have := sum_take_le L k
    simp
    exact this
theorem sum_take_succ {L : List Nat} {k : Nat} (h : k < L.length) : (L.take (k + 1)).sum = (L.take k).sum + L[k] := by
  rw [List.take_succ_eq_append_getElem h, List.sum_append]; simp
theorem len_sum : ∀ L : List Nat, (∀ n ∈ L, 1 ≤ n) → L.length ≤ L.sum
  | [], _ => Nat.le_refl _
  | x :: L, h => by
    have := len_sum L fun n hn => h n (List.mem_cons_of_mem _ hn)
    have := h x List.mem_cons_self
    rw [List.length_cons, List.sum_cons]
    omega
theorem cSum_ls (S : Sto) (L : List Nat) : cSum S [.lst (lsD L)] = some (.int ((L.sum : Nat) : Int)) := by
  have := cSum_l S (L.map fun n : Nat => (n : Int))
  rw [sum_cast] at this
  exact this
/-- what is left to pay at k -/
def Pay (ws : List Int) (w : Int) (L : List Nat) (k : Nat) (tot : Int) : Prop := cost w ws L = (cost w (ws.drop (L.take k).sum) (L.drop k)).map fun c => tot + c
theorem pay_step {ws : List Int} {w : Int} {L : List Nat} {k : Nat} {tot : Int} (h : k < L.length) (hf : Fits ws.length L) (hP : Pay ws w L k tot) :
    (lft ws w (L.take k).sum L[k] < 0 → cost w ws L = none) ∧ (0 ≤ lft ws w (L.take k).sum L[k] → Pay ws w L (k + 1) (tot + if (L.take k).sum + L[k] < ws.length then lft ws w (L.take k).sum L[k] * lft ws w (L.take k).sum L[k] else 0)) := by
  unfold Pay at *
  rw [List.drop_eq_getElem_cons h, cost] at hP
  have e1 : w - wd ((ws.drop (L.take k).sum).take L[k]) = lft ws w (L.take k).sum L[k] := rfl
  constructor
  · intro h1
    rw [if_pos (by omega)] at hP
    exact hP
  · intro h1
    rw [if_neg (by omega), List.drop_drop, e1, List.length_drop] at hP
    rw [hP, sum_take_succ h]
    cases cost w (ws.drop ((L.take k).sum + L[k])) (L.drop (k + 1)) with
    | none => rfl
    | some c =>
      show some _ = some _
      congr 1
      by_cases hc : (L.take k).sum + L[k] < ws.length
      · rw [if_pos hc, if_pos (by omega)]; exact (Int.add_assoc tot _ c).symm
      · rw [if_neg hc, if_neg (by omega)]; exact (Int.add_assoc tot _ c).symm
theorem pay_end {ws : List Int} {w : Int} {L : List Nat} {tot : Int} (hP : Pay ws w L L.length tot) : costD ws w L = .int tot := by
  unfold Pay at hP
  unfold costD
  rw [hP, List.drop_length]
  simp [cost]
theorem v_badness {ws : List Int} {w : Int} {L : List Nat} {S : Sto} (hn : ws.length ≤ 100) (hp : ∀ x ∈ ws, 1 ≤ x) (hW : w < 10000 ∧ 0 ≤ w) (hf : Fits ws.length L) : F_badness [wsD ws, .int w, .lst (lsD L)] S = .ok (costD ws w L) S := by
  refine fin_wp ?_
  unfold G_badness
  have es := cSum_ls S L
  rw [hf.2] at es
  have hany := boolL_any (g := gtName 5) (t := dYes) (e := dOp2 gLt (dVar 5) (dC (.int 1))) (ρ := [some (wsD ws), some (.int w), some (.lst (lsD L)), none, none, none, none]) (fun n : Nat => D.int (n : Int)) (fun n => decide ((n : Int) < 1)) (S := S) L fun x hx => ⟨_, rfl, rfl, by simp -implicitDefEqProofs⟩
  rw [← lsD_map] at hany
  have hno : (L.any fun n => decide ((n : Int) < 1)) = false := by
    rw [List.any_eq_false]
    intro n hn
    have := hf.1 n hn
    simp
    omega
  rw [hno] at hany
  have hL : L.length ≤ 16777216 := by have := len_sum L hf.1; have := hf.2; omega
  have hLl : (lsD L).length ≤ 16777216 := by unfold lsD; simpa using hL
  with_reducible refine c_skip ?_
  intro g1 eg
  simp -implicitDefEqProofs [es, hany, hLl]
  subst eg
  with_reducible refine c_set ?_
  intro g1 eg
  simp -implicitDefEqProofs
  subst eg
  with_reducible refine c_set ?_
  intro g1 eg
  simp -implicitDefEqProofs
  subst eg
  with_reducible refine w_for ?_
  have f1 : iLst (dVar 2) [some (wsD ws), some (.int w), some (.lst (lsD L)), some (.int 0), some (.int 0), none, none] S = .ok (L.map fun n : Nat => D.int (n : Int)) S := by
    rw [← lsD_map]
    rfl
  rw [f1, sat_ok]
  refine wp_loopN L (fun n : Nat => D.int (n : Int)) (fun k ρ S' => S' = S ∧ ∃ (tot : Int) (y5 y6 : Option D), Pay ws w L k tot ∧ ρ = [some (wsD ws), some (.int w), some (.lst (lsD L)), some (.int tot), some (.int (((L.take k).sum : Nat) : Int)), y5, y6]) ?_ ?_ ⟨rfl, 0, _, _, ?_, rfl⟩
  · rintro k hk ρ S' ⟨rfl, tot, y5, y6, hP, rfl⟩
    refine ⟨_, rfl, ?_⟩
    simp -implicitDefEqProofs only [List.set_cons_succ, List.set_cons_zero]
    have st := pay_step hk hf hP
    have e2 := sum_take_succ hk
    have e3 := sum_take_le L (k + 1)
    rw [hf.2, e2] at e3
    generalize hs : (L.take k).sum = s at *
    generalize L[k] = n at *
    have hsl := sl_ws S' ws s (s + n) (by omega)
    have e0 : s + n - s = n := by omega
    rw [e0] at hsl
    have elw := v_line_width ((ws.drop s).take n) S'
    have el : w - wd ((ws.drop s).take n) = lft ws w s n := rfl
    have ea : (s : Int) + (n : Int) = ((s + n : Nat) : Int) := by omega
    with_reducible refine c_set ?_
    intro g1 eg
    simp -implicitDefEqProofs [-Int.natCast_add, ea, hsl, nox_ok elw, el]
    subst eg
    have ht := lft_top (w := w) hp s n
    by_cases hneg : lft ws w s n < 0
    · refine c_if fun a1 b1 g1 ea eb eg => ?_
      subst ea
      simp -implicitDefEqProofs [hneg]
      unfold costD
      rw [st.1 hneg]
    · have hP2 := st.2 (by omega)
      with_reducible refine c_skip ?_
      intro g1 eg
      simp -implicitDefEqProofs [hneg]
      subst eg
      by_cases hc : s + n < ws.length
      · have hc2 : ((s + n : Nat) : Int) < (ws.length : Int) := by omega
        rw [if_pos hc] at hP2
        simp -implicitDefEqProofs [-Int.natCast_add, sAug, gIAdd, ea, hc2]
        rw [if_pos (by omega)]
        exact ⟨_, hP2, rfl, by rw [e2]⟩
      · have hc2 : ¬ ((s + n : Nat) : Int) < (ws.length : Int) := by omega
        rw [if_neg hc] at hP2
        simp -implicitDefEqProofs [-Int.natCast_add, sAug, gIAdd, ea, hc2]
        rw [Int.add_zero] at hP2
        exact ⟨_, hP2, rfl, by rw [e2]⟩
  · rintro ρ S' ⟨rfl, tot, y5, y6, hP, rfl⟩
    have := pay_end hP
    simp -implicitDefEqProofs [this]
  · unfold Pay
    simp
theorem last_iff {ws : List Int} {L : List Nat} {k : Nat} (hk : k < L.length) (hf : Fits ws.length L) : (k : Int) < (L.length : Int) - 1 ↔ (L.take k).sum + L[k] < ws.length := by
  have h1 := sum_take_succ hk
  have h2 : (L.take (k + 1)).sum + (L.drop (k + 1)).sum = ws.length := by rw [← List.sum_append, List.take_append_drop, hf.2]
  have h3 := len_sum (L.drop (k + 1)) fun n hn => hf.1 n (List.mem_of_mem_drop hn)
  rw [List.length_drop] at h3
  constructor
  · intro h; omega
  · intro h
    by_cases hc : L.length ≤ k + 1
    · rw [List.drop_of_length_le hc] at h2
      simp at h2
      omega
    · omega
theorem v_law_badness {ws : List Int} {w : Int} {L : List Nat} {S : Sto} (hn : ws.length ≤ 100) (hp : ∀ x ∈ ws, 1 ≤ x) (hW : w < 10000 ∧ 0 ≤ w) (hf : Fits ws.length L) : F__law_badness [wsD ws, .int w, .lst (lsD L)] S = .ok (costD ws w L) S := by
  refine fin_wp ?_
  unfold G__law_badness
  have es := cSum_ls S L
  rw [hf.2] at es
  have hc := compL_of (g := gtName 7) (t := dTest (dOp2 gLt (dVar 7) (dC (.int 1)))) (e := dVar 7) (ρ := [some (wsD ws), some (.int w), some (.lst (lsD L)), none, none, none, none, none]) (fun n : Nat => D.int (n : Int)) (fun n => decide ((n : Int) < 1)) (fun n : Nat => D.int (n : Int)) (S := S) L fun x hx => ⟨_, rfl, by simp -implicitDefEqProofs, fun _ => rfl⟩
  rw [← lsD_map] at hc
  have hno : L.filter (fun n : Nat => decide ((n : Int) < 1)) = [] := by
    rw [List.filter_eq_nil_iff]
    intro n hn
    have := hf.1 n hn
    simp
    omega
  rw [hno] at hc
  have hL : L.length ≤ ws.length := by have := len_sum L hf.1; have := hf.2; omega
  have hll : (lsD L).length = L.length := by unfold lsD; simp
  have hLl : (lsD L).length ≤ 16777216 := by omega
  with_reducible refine c_skip ?_
  intro g1 eg
  simp -implicitDefEqProofs [es, hc, hLl]
  subst eg
  with_reducible refine c_set ?_
  intro g1 eg
  simp -implicitDefEqProofs
  subst eg
  with_reducible refine c_set ?_
  intro g1 eg
  simp -implicitDefEqProofs
  subst eg
  with_reducible refine w_for ?_
  have hr := rng_len (n := L.length) (by omega)
  have f1 : iArgs rng1 (aCons (dCallB cLen (aCons (dVar 2) aNil)) aNil) [some (wsD ws), some (.int w), some (.lst (lsD L)), some (.int 0), some (.int 0), none, none, none] S = .ok (rangeD 0 L.length) S := by
    simp -implicitDefEqProofs [hll, hr]
  rw [f1, sat_ok]
  refine wp_loopR (fun k ρ S' => S' = S ∧ ∃ (tot : Int) (y5 y6 y7 : Option D), Pay ws w L k tot ∧ ρ = [some (wsD ws), some (.int w), some (.lst (lsD L)), some (.int tot), some (.int (((L.take k).sum : Nat) : Int)), y5, y6, y7]) ?_ ?_ ⟨rfl, 0, _, _, _, ?_, rfl⟩
  · rintro k hk ρ S' ⟨rfl, tot, y5, y6, y7, hP, rfl⟩
    refine ⟨_, rfl, ?_⟩
    simp -implicitDefEqProofs only [List.set_cons_succ, List.set_cons_zero]
    have st := pay_step hk hf hP
    have e2 := sum_take_succ hk
    have e3 := sum_take_le L (k + 1)
    have hlast := last_iff hk hf
    have ei : atI (lsD L) (k : Int) = some (.int (L[k] : Int)) := by
      rw [atI_n, lsD_map, List.getElem?_map, List.getElem?_eq_getElem hk]
      rfl
    rw [hf.2, e2] at e3
    generalize hs : (L.take k).sum = s at *
    generalize L[k] = n at *
    have hsl := sl_ws S' ws s (s + n) (by omega)
    have e0 : s + n - s = n := by omega
    rw [e0] at hsl
    have esum := cSum_l S' ((ws.drop s).take n)
    have el : w - wd ((ws.drop s).take n) = lft ws w s n := rfl
    have ew : ((ws.drop s).take n).sum + (n : Int) - 1 = wd ((ws.drop s).take n) := by
      unfold wd
      rw [List.length_take, List.length_drop]
      omega
    have ea : (s : Int) + (n : Int) = ((s + n : Nat) : Int) := by omega
    with_reducible refine c_set ?_
    intro g1 eg
    simp -implicitDefEqProofs [-Int.natCast_add, ei, ea, hsl, esum, ew]
    subst eg
    generalize wd ((ws.drop s).take n) = u at *
    have ht := lft_top (w := w) hp s n
    by_cases hneg : lft ws w s n < 0
    · have hu : w < u := by omega
      refine c_if fun a1 b1 g1 ea eb eg => ?_
      subst ea
      simp -implicitDefEqProofs [hu]
      unfold costD
      rw [st.1 hneg]
    · have hP2 := st.2 (by omega)
      have hu : ¬ w < u := by omega
      with_reducible refine c_skip ?_
      intro g1 eg
      simp -implicitDefEqProofs [hu]
      subst eg
      by_cases hc : s + n < ws.length
      · have hc2 := hlast.mpr hc
        rw [if_pos hc] at hP2
        have b1 : -18446744073709551616 < lft ws w s n := by omega
        have b2 : lft ws w s n < 18446744073709551616 := by omega
        simp -implicitDefEqProofs [-Int.natCast_add, ei, ea, hc2, hll, el, b1, b2]
        exact ⟨_, hP2, rfl, by rw [e2]⟩
      · have hc2 : ¬ (k : Int) < (L.length : Int) - 1 := fun z => hc (hlast.mp z)
        rw [if_neg hc] at hP2
        simp -implicitDefEqProofs [-Int.natCast_add, ei, ea, hc2, hll]
        rw [Int.add_zero] at hP2
        exact ⟨_, hP2, rfl, by rw [e2]⟩
  · rintro ρ S' ⟨rfl, tot, y5, y6, y7, hP, rfl⟩
    have := pay_end hP
    simp -implicitDefEqProofs [this]
  · unfold Pay
    simp
/-! ### any lines -/
theorem badness_any {ws : List Int} {w : Int} {S : Sto} (hn : ws.length ≤ 100) (hp : ∀ x ∈ ws, 1 ≤ x) (hW : w < 10000 ∧ 0 ≤ w) (ns : List Int) (hl : ns.length ≤ 1000) :
    ∃ d : D, ((∃ c : Int, d = .int c) ∨ d = .non) ∧ F_badness [wsD ws, .int w, .lst (ns.map D.int)] S = .ok d S ∧ F__law_badness [wsD ws, .int w, .lst (ns.map D.int)] S = .ok d S := by
  by_cases h : (∀ x ∈ ns, 1 ≤ x) ∧ ns.sum = ws.length
  · have e : ns = (ns.map Int.toNat).map fun n : Nat => (n : Int) := by
      rw [List.map_map]
      conv => lhs; rw [← List.map_id ns]
      refine List.map_congr_left fun x hx => ?_
      have := h.1 x hx
      show x = ((x.toNat : Nat) : Int)
      omega
    have hf : Fits ws.length (ns.map Int.toNat) := by
      refine ⟨fun n hn => ?_, ?_⟩
      · obtain ⟨x, hx, rfl⟩ := List.mem_map.mp hn
        have := h.1 x hx
        omega
      · have := h.2
        rw [e, sum_cast] at this
        omega
    have e1 : ns.map D.int = lsD (ns.map Int.toNat) := by
      unfold lsD
      rw [← e]
    rw [e1]
    refine ⟨costD ws w (ns.map Int.toNat), ?_, v_badness hn hp hW hf, v_law_badness hn hp hW hf⟩
    unfold costD
    cases cost w ws (ns.map Int.toNat) with
    | none => exact .inr rfl
    | some c => exact .inl ⟨c, rfl⟩
  · refine ⟨.non, .inr rfl, ?_, ?_⟩
    · refine fin_wp ?_
      unfold G_badness
      have es := cSum_l S ns
      refine c_if fun a1 b1 g1 ea eb eg => ?_
      subst ea
      by_cases hs : ns.sum = ws.length
      · have hany := boolL_any (g := gtName 5) (t := dYes) (e := dOp2 gLt (dVar 5) (dC (.int 1))) (ρ := [some (wsD ws), some (.int w), some (wsD ns), none, none, none, none]) D.int (fun n => decide (n < 1)) (S := S) ns fun x hx => ⟨_, rfl, rfl, by simp -implicitDefEqProofs⟩
        have hy : (ns.any fun n => decide (n < 1)) = true := by
          rw [List.any_eq_true]
          refine Classical.byContradiction fun z => h ⟨fun x hx => ?_, hs⟩
          refine Classical.byContradiction fun y => z ⟨x, hx, decide_eq_true (by omega)⟩
        rw [hy] at hany
        simp -implicitDefEqProofs [es, hs, hany]
        omega
      · simp -implicitDefEqProofs [es, hs]
    · refine fin_wp ?_
      unfold G__law_badness
      have es := cSum_l S ns
      have hc := compL_of (g := gtName 7) (t := dTest (dOp2 gLt (dVar 7) (dC (.int 1)))) (e := dVar 7) (ρ := [some (wsD ws), some (.int w), some (wsD ns), none, none, none, none, none]) D.int (fun n => decide (n < 1)) D.int (S := S) ns fun x hx => ⟨_, rfl, by simp -implicitDefEqProofs, fun _ => rfl⟩
      refine c_if fun a1 b1 g1 ea eb eg => ?_
      subst ea
      by_cases hs : ns.sum = ws.length
      · have hy : 0 < (ns.filter fun n => decide (n < 1)).length := by
          rw [List.length_pos_iff]
          intro z
          rw [List.filter_eq_nil_iff] at z
          exact h ⟨fun x hx => by have := z x hx; simp at this; omega, hs⟩
        have hy2 : (0 : Int) < (ns.filter fun n => decide (n < 1)).length := by omega
        simp -implicitDefEqProofs [es, hs, hc, hy2]
        exact ⟨by omega, fun z => absurd ⟨z, hs⟩ h⟩
      · by_cases hy : (0 : Int) < (ns.filter fun n => decide (n < 1)).length
        · simp -implicitDefEqProofs [es, hs, hc, hy]
          omega
        · simp -implicitDefEqProofs [es, hs, hc, hy]
          omega
/-! ### divisions -/
def divs : Nat → Nat → List (List Nat)
  | 0, _ => []
  | _ + 1, 0 => [[]]
  | f + 1, m + 1 => (List.range (m + 1)).flatMap fun i => (divs f (m - i)).map fun r => (i + 1) :: r
theorem mem_divs : ∀ (f m : Nat) (L : List Nat), m < f → (L ∈ divs f m ↔ Fits m L)
  | 0, _, _, h => absurd h (Nat.not_lt_zero _)
  | f + 1, 0, L, _ => by
    rw [divs, List.mem_singleton]
    constructor
    · rintro rfl; exact ⟨by simp, rfl⟩
    · rintro ⟨h1, h2⟩
      cases L with
      | nil => rfl
      | cons x L =>
        have := h1 x List.mem_cons_self
        rw [List.sum_cons] at h2
        omega
  | f + 1, m + 1, L, h => by
    rw [divs, List.mem_flatMap]
    constructor
    · rintro ⟨i, hi, hL⟩
      have hi := List.mem_range.mp hi
      obtain ⟨r, hr, rfl⟩ := List.mem_map.mp hL
      have ⟨q1, q2⟩ := (mem_divs f (m - i) r (by omega)).mp hr
      refine ⟨fun n hn => ?_, ?_⟩
      · rcases List.mem_cons.mp hn with rfl | hn
        · omega
        · exact q1 n hn
      · rw [List.sum_cons]; omega
    · rintro ⟨h1, h2⟩
      cases L with
      | nil => simp at h2
      | cons x L =>
        have hx := h1 x List.mem_cons_self
        rw [List.sum_cons] at h2
        refine ⟨x - 1, List.mem_range.mpr (by omega), List.mem_map.mpr ⟨L, (mem_divs f _ L (by omega)).mpr ⟨fun n hn => h1 n (List.mem_cons_of_mem _ hn), by omega⟩, by congr 1; omega⟩⟩
theorem flat_len {α : Type} (g : Nat → List α) (m : Nat) : ∀ n : Nat, n ≤ m + 1 → (∀ i, i < n → (g i).length ≤ 2 ^ (m - i)) → ((List.range n).flatMap g).length + 2 ^ (m + 1 - n) ≤ 2 ^ (m + 1)
  | 0, _, _ => by simp
  | n + 1, hn, h => by
    rw [List.range_succ, List.flatMap_append, List.length_append]
    have ih := flat_len g m n (by omega) fun i hi => h i (by omega)
    have h2 := h n (by omega)
    have e : [n].flatMap g = g n := by simp [List.flatMap_cons]
    have e2 : 2 ^ (m + 1 - n) = 2 * 2 ^ (m - n) := by
      have : m + 1 - n = (m - n) + 1 := by omega
      rw [this, Nat.pow_succ, Nat.mul_comm]
    have e3 : m + 1 - (n + 1) = m - n := by omega
    rw [e, e3]
    omega
theorem divs_len : ∀ f m : Nat, (divs f m).length ≤ 2 ^ m
  | 0, m => by simp [divs]
  | f + 1, 0 => by simp [divs]
  | f + 1, m + 1 => by
    rw [divs]
    have := flat_len (fun i => (divs f (m - i)).map fun r => (i + 1) :: r) m (m + 1) (Nat.le_refl _) fun i hi => by
      rw [List.length_map]; exact divs_len f (m - i)
    exact Nat.le_trans (Nat.le_add_right _ _) this
abbrev dl (L : List Nat) : D := .lst (lsD L)
theorem v_divs : ∀ (f m : Nat) (S : Sto), m < f → m ≤ 9 → F__law_divisions f [.int (m : Int)] S = .ok (.lst ((divs f m).map dl)) S
  | 0, _, _, h, _ => absurd h (Nat.not_lt_zero _)
  | f + 1, 0, S, _, _ => by
    rw [F__law_divisions]
    refine fin_wp ?_
    unfold G__law_divisions
    simp -implicitDefEqProofs [divs, lsD]
  | f + 1, m + 1, S, h, h9 => by
    obtain ⟨M, hM⟩ : ∃ M : Nat, M = m + 1 := ⟨_, rfl⟩
    rw [← hM, F__law_divisions]
    refine fin_wp ?_
    unfold G__law_divisions
    have hm : ¬ (M : Int) = 0 := by omega
    with_reducible refine c_skip ?_
    intro g1 eg
    simp -implicitDefEqProofs
    subst eg
    refine ⟨by omega, ?_⟩
    with_reducible refine c_set ?_
    intro g1 eg
    simp -implicitDefEqProofs
    subst eg
    have hr := rng2_int 1 ((M : Int) + 1) (by omega) (by omega) (by omega) (by omega)
    have hk : ((M : Int) + 1 - 1).toNat = m + 1 := by omega
    rw [hk] at hr
    with_reducible refine w_for ?_
    have f1 : iArgs rng2 (aCons (dC (.int 1)) (aCons (dOp2 gAdd (dVar 0) (dC (.int 1))) aNil)) [some (.int (M : Int)), some (.lst []), none, none] S = .ok (rangeD 1 (m + 1)) S := by
      simp -implicitDefEqProofs [hr]
    rw [f1, sat_ok]
    have hlen : ∀ k, k ≤ m + 1 → ((List.range k).flatMap fun i => (divs f (m - i)).map fun r => (i + 1) :: r).length ≤ 1024 := fun k hk => by
      have := flat_len (fun i => (divs f (m - i)).map fun r => (i + 1) :: r) m k hk fun i hi => by
        rw [List.length_map]; exact divs_len f (m - i)
      have this := Nat.le_trans (Nat.le_add_right _ _) this
      have h2 : 2 ^ (m + 1) ≤ 2 ^ 9 := Nat.pow_le_pow_right (by decide) (by omega)
      omega
    refine wp_loopR2 (fun k ρ S' => S' = S ∧ ∃ y2 y3, ρ = [some (.int (M : Int)), some (.lst (((List.range k).flatMap fun i => (divs f (m - i)).map fun r => (i + 1) :: r).map dl)), y2, y3]) ?_ ?_ ⟨rfl, _, _, rfl⟩
    · rintro k hk ρ S' ⟨rfl, y2, y3, rfl⟩
      refine ⟨_, rfl, ?_⟩
      simp -implicitDefEqProofs only [List.set_cons_succ, List.set_cons_zero]
      with_reducible refine l_set ?_
      obtain ⟨K, hK⟩ : ∃ K : Nat, K = k + 1 := ⟨_, rfl⟩
      have ea : (1 : Int) + (k : Int) = (K : Int) := by omega
      have em : (M : Int) - (K : Int) = ((m - k : Nat) : Int) := by omega
      have ih := v_divs f (m - k) S' (by omega) (by omega)
      have hl1 := hlen k (by omega)
      have hl2 := hlen (k + 1) (by omega)
      have el : ((List.range (k + 1)).flatMap fun i => (divs f (m - i)).map fun r => (i + 1) :: r) = ((List.range k).flatMap fun i => (divs f (m - i)).map fun r => (i + 1) :: r) ++ (divs f (m - k)).map fun r => (k + 1) :: r := by
        rw [List.range_succ, List.flatMap_append]
        simp [List.flatMap_cons]
      rw [el] at hl2 ⊢
      generalize ((List.range k).flatMap fun i => (divs f (m - i)).map fun r => (i + 1) :: r) = xs at *
      have hc := compL_all (g := gtName 3) (t := dYes) (e := dOp2 gAdd (dLst (aCons (dVar 2) aNil)) (dVar 3)) (ρ := [some (.int (M : Int)), some (.lst (xs.map dl)), some (.int (K : Int)), none]) dl (fun r => dl (K :: r)) (S := S') (divs f (m - k)) fun r hr => by
        refine ⟨_, rfl, rfl, ?_⟩
        have ad : gAdd S' (.lst [.int (K : Int)]) (dl r) = some (dl (K :: r)) := by
          have hr := ((mem_divs f (m - k) r (by omega)).mp hr)
          have h2 := len_sum r hr.1
          have h3 := hr.2
          show (if 1 + (lsD r).length ≤ sizeLine then some (D.lst (.int (K : Int) :: lsD r)) else none) = _
          rw [if_pos (by rw [sl_eq]; unfold lsD; simp; omega)]
          rfl
        simp -implicitDefEqProofs [ad]
      rw [← hK] at hl2 ⊢
      rw [List.length_append, List.length_map] at hl2
      have ad : gAdd S' (.lst (xs.map dl)) (.lst ((divs f (m - k)).map fun r => dl (K :: r))) = some (.lst (xs.map dl ++ (divs f (m - k)).map fun r => dl (K :: r))) := by
        show (if _ then some (D.lst _) else none) = _
        rw [if_pos (by rw [sl_eq, List.length_map, List.length_map]; omega)]
      have hl3 : ((divs f (m - k)).map dl).length ≤ 16777216 := by rw [List.length_map]; omega
      simp -implicitDefEqProofs [ea, em, nox_ok ih, hc, ad]
      omega
    · rintro ρ S' ⟨rfl, y2, y3, rfl⟩
      rw [hM]
      simp -implicitDefEqProofs [divs]
/-! ### (cost, lines) < (cost, lines) -/
section
open PySem.W
def pL : List Nat → List PyData
  | [] => []
  | x :: L => .int (x : Int) :: pL L
theorem pL_map : ∀ L : List Nat, (L.map fun n : Nat => (n : Int)).map PyData.int = pL L
  | [] => rfl
  | x :: L => by rw [List.map_cons, List.map_cons, pL_map L]; rfl
theorem py_dl (L : List Nat) : D.py (dl L) = some (.list (pL L)) := by
  show (match D.pys (lsD L) with
    | some ps => some (PyData.list ps)
    | none => none) = _
  unfold lsD
  rw [pys_ints, pL_map]
theorem py_pair (c : Int) (L : List Nat) : D.py (.tup [.int c, dl L]) = some (.tuple [.int c, .list (pL L)]) := by
  show (match D.pys [.int c, dl L] with
    | some ps => some (PyData.tuple ps)
    | none => none) = _
  have : D.pys [.int c, dl L] = some [.int c, .list (pL L)] := by
    show (match D.py (.int c) with
      | some p => match D.pys [dl L] with
        | some ps => some (p :: ps)
        | none => none
      | none => none) = _
    have e2 : D.pys [dl L] = some [.list (pL L)] := by
      show (match D.py (dl L) with
        | some p => match D.pys [] with
          | some ps => some (p :: ps)
          | none => none
        | none => none) = _
      rw [py_dl]
      rfl
    rw [e2]
    rfl
  rw [this]
theorem alike_pL : ∀ L M : List Nat, alikeAll (pL L) (pL M) = true
  | [], _ => by simp [pL, alikeAll]
  | _ :: _, [] => by simp [pL, alikeAll]
  | x :: L, y :: M => by
    have := alike_pL L M
    simp only [pL, alikeAll, alike, Bool.true_and]
    exact this
theorem lex_pL : ∀ L M : List Nat, PyProof.Rows.lexLt itemOrd (keyToksAll (pL L)) (keyToksAll (pL M)) = lexN L M
  | [], [] => by simp [pL, keyToksAll, lex_irrefl, lexN]
  | [], y :: M => by
    simp only [pL]
    rw [keyToksAll, toks_all_cons, lex_atom (by simp), lex_one]
    rfl
  | x :: L, [] => by
    simp only [pL]
    rw [keyToksAll, toks_all_cons, lex_atom (by simp), lex_one]
    rfl
  | x :: L, y :: M => by
    simp only [pL]
    rw [lexN]
    by_cases h : x = y
    · subst h
      rw [dataLt_all_yes rfl (by simp [PyData.eqv]), if_pos rfl]
      exact lex_pL L M
    · rw [dataLt_all_no rfl (by simp [PyData.eqv]; omega), if_neg h, dataLt_int]
      by_cases h2 : x < y
      · rw [decide_eq_true (by omega), decide_eq_true h2]
      · rw [decide_eq_false (by omega), decide_eq_false h2]
theorem eqv_pL : ∀ L M : List Nat, PyData.eqvAll (pL L) (pL M) = decide (L = M)
  | [], [] => by simp [pL, PyData.eqvAll]
  | [], y :: M => by simp [pL, PyData.eqvAll]
  | x :: L, [] => by simp [pL, PyData.eqvAll]
  | x :: L, y :: M => by
    simp only [pL]
    rw [eqv_all_cons, eqv_pL L M]
    by_cases h : x = y
    · subst h; simp [PyData.eqv]
    · have : PyData.eqv (.int (x : Int)) (.int (y : Int)) = false := by simp [PyData.eqv]; omega
      rw [this]
      simp [h]
theorem lt_pair (c d : Int) (L M : List Nat) : dataLt (.tuple [.int c, .list (pL L)]) (.tuple [.int d, .list (pL M)]) = lt2 c L d M := by
  rw [dataLt_tuple]
  unfold lt2
  by_cases h : c = d
  · subst h
    rw [dataLt_all_yes rfl (by simp [PyData.eqv]), if_pos rfl]
    have ha : alike (.list (pL L)) (.list (pL M)) = true := alike_pL L M
    have he : PyData.eqv (.list (pL L)) (.list (pL M)) = decide (L = M) := by
      rw [← eqv_pL]; simp [PyData.eqv]
    by_cases h2 : L = M
    · rw [dataLt_all_yes ha (by rw [he]; exact decide_eq_true h2), h2, lex_irr]
      simp [keyToksAll, lex_irrefl]
    · rw [dataLt_all_no ha (by rw [he]; exact decide_eq_false h2), dataLt_list]
      exact lex_pL L M
  · rw [dataLt_all_no rfl (by simp [PyData.eqv]; exact h), if_neg h, dataLt_int]
theorem ltU_pair (S : Sto) (c d : Int) (L M : List Nat) : gLtU S (.tup [.int c, dl L]) (.tup [.int d, dl M]) = some (.bl (lt2 c L d M)) := by
  have e1 : pyS S (.tup [.int c, dl L]) = some (.tuple [.int c, .list (pL L)]) := py_pair c L
  have e2 : pyS S (.tup [.int d, dl M]) = some (.tuple [.int d, .list (pL M)]) := py_pair d M
  unfold gLtU
  simp only [e1, e2]
  rw [if_pos, lt_pair]
  refine ⟨?_, rfl, ?_⟩
  · have := alike_pL L M
    simp only [alike, alikeAll, Bool.true_and, Bool.and_true]
    exact this
  · have h : PyData.depthAll (pL L) = 0 := by
      clear e1
      induction L with
      | nil => rfl
      | cons n ns ih => simp [pL, PyData.depthAll, PyData.depth, ih]
    simp only [PyData.depth, PyData.depthAll, h]
    decide
end
/-! ### asked once -/
theorem fin_wpS {N : Nat} {G : DS} {ds : List D} {S R : Sto} {P : D → Prop} (h0 : St R S) (h : Wp (G (startE N ds) S) fun f S' => St R S' ∧ ∃ d, f = .rt d ∧ P d) : ∃ d S', St R S' ∧ P d ∧ fzF (mkF N G) ds S = .ok d S' := by
  obtain ⟨f, S', e, h1, d, rfl, hp⟩ := wp_ex h
  refine ⟨d, S', h1, hp, ?_⟩
  show finO S.length (outS _) = _
  rw [e]
  exact finO_ok' _ _ (by rw [h0.len, h1.len])
theorem ints_of (P : Int → Prop) : ∀ ys : List D, (∀ y ∈ ys, ∃ v : Int, y = .int v ∧ P v) → ∃ ws : List Int, ys = ws.map D.int ∧ ∀ x ∈ ws, P x
  | [], _ => ⟨[], rfl, by simp⟩
  | y :: ys, h => by
    obtain ⟨v, rfl, hv⟩ := h y List.mem_cons_self
    obtain ⟨ws, rfl, hw⟩ := ints_of P ys fun y hy => h y (List.mem_cons_of_mem _ hy)
    exact ⟨v :: ws, rfl, fun x hx => by
      rcases List.mem_cons.mp hx with rfl | hx
      · exact hv
      · exact hw x hx⟩
theorem pick_st {S : Sto} {es : List D} (h : St [] S) (h0 : 0 < es.length) (h1 : es.length < 1000000) : ∃ k S', ∃ hk : k < es.length, St [] S' ∧ F__law_pick [.ptr 0, .lst es] S = .ok es[k] S' := by
  obtain ⟨k, S', hS, a, b, e⟩ := dS h (es.length : Int) (by omega) (by omega)
  have hk : k.toNat < es.length := by omega
  refine ⟨k.toNat, S', hk, hS, ?_⟩
  have e2 : atI es k = some es[k.toNat] := atI_in a (List.getElem?_eq_getElem hk)
  simp -implicitDefEqProofs [F__law_pick, G__law_pick, e, e2]
  exact finO_ok' _ _ (by rw [hS.len, h.len])
def Seen (ws : List Int) (w : Int) (xs : List (List Nat)) (b : D) : Prop := (b = .non ∧ ∀ M ∈ xs, cost w ws M = none) ∨ ∃ (c : Int) (L : List Nat), b = .tup [.int c, dl L] ∧ L ∈ xs ∧ cost w ws L = some c ∧ ∀ M ∈ xs, ∀ d, cost w ws M = some d → lt2 d M c L = false
abbrev bB : DS := (sSeq (sAsg (dCall 3 F__law_badness (aCons (dVar 1) (aCons (dVar 2) (aCons (dVar 4) aNil)))) (gtName 6))
  (sIf (dAnd (dTest (dOp2 gNotNon (dVar 6) (dC .non))) (dOr (dTest (dOp2 gIsNon (dVar 3) (dC .non))) (dTest (dOp2 gLtU (dTup (aCons (dVar 6) (aCons (dVar 4) aNil))) (dVar 3))))) (sAsg (dTup (aCons (dVar 6) (aCons (dVar 4) aNil))) (gtName 3)) sNil))
theorem bB_ok {ws : List Int} {w : Int} {S : Sto} (hn : ws.length ≤ 100) (hp : ∀ x ∈ ws, 1 ≤ x) (hW : w < 10000 ∧ 0 ≤ w) {xs : List (List Nat)} {k : Nat} (hk : k < xs.length) (hf : Fits ws.length xs[k]) {b : D} (hb : Seen ws w (xs.take k) b) (x0 x5 x6 x7 : Option D) {Q : Fl → Sto → Prop}
    (q : ∀ b' y6, Seen ws w (xs.take (k + 1)) b' → Q (.nx [x0, some (wsD ws), some (.int w), some b', some (dl xs[k]), x5, y6, x7]) S) : Wp (bB [x0, some (wsD ws), some (.int w), some b, some (dl xs[k]), x5, x6, x7] S) Q := by
  have e1 := v_law_badness (S := S) hn hp hW hf
  have hm : ∀ M, M ∈ xs.take (k + 1) ↔ M ∈ xs.take k ∨ M = xs[k] := fun M => mem_take_succ hk
  generalize xs[k] = L at *
  with_reducible refine c_set ?_
  intro g1 eg
  simp -implicitDefEqProofs [nox_ok e1]
  subst eg
  cases hc : cost w ws L with
  | none =>
    have e2 : costD ws w L = .non := by unfold costD; rw [hc]
    rw [e2]
    simp -implicitDefEqProofs
    refine q _ _ ?_
    rcases hb with ⟨h1, h2⟩ | ⟨c, M, h1, h2, h3, h4⟩
    · exact .inl ⟨h1, fun M hM => by
        rcases (hm M).mp hM with h | rfl
        · exact h2 M h
        · exact hc⟩
    · exact .inr ⟨c, M, h1, (hm M).mpr (.inl h2), h3, fun M' hM' d hd => by
        rcases (hm M').mp hM' with h | rfl
        · exact h4 M' h d hd
        · rw [hc] at hd; cases hd⟩
  | some c =>
    have e2 : costD ws w L = .int c := by unfold costD; rw [hc]
    rw [e2]
    have new : (∀ M ∈ xs.take k, ∀ d, cost w ws M = some d → lt2 d M c L = false) → Seen ws w (xs.take (k + 1)) (.tup [.int c, dl L]) := fun h => .inr ⟨c, L, rfl, (hm L).mpr (.inr rfl), hc, fun M hM d hd => by
      rcases (hm M).mp hM with h' | rfl
      · exact h M h' d hd
      · rw [hc] at hd
        cases hd
        exact lt2_irr _ _⟩
    rcases hb with ⟨rfl, h2⟩ | ⟨c', M, rfl, h2, h3, h4⟩
    · simp -implicitDefEqProofs
      exact q _ _ (new fun M hM d hd => by rw [h2 M hM] at hd; cases hd)
    · have el := ltU_pair S c c' L M
      by_cases hlt : lt2 c L c' M = true
      · rw [hlt] at el
        simp -implicitDefEqProofs [el]
        refine q _ _ (new fun M' hM' d hd => ?_)
        cases h : lt2 d M' c L with
        | false => rfl
        | true => rw [← h4 M' hM' d hd]; exact (lt2_trans h hlt).symm
      · rw [Bool.eq_false_iff.mpr hlt] at el
        simp -implicitDefEqProofs [el]
        refine q _ _ (.inr ⟨c', M, rfl, (hm M).mpr (.inl h2), h3, fun M' hM' d hd => ?_⟩)
        rcases (hm M').mp hM' with h | rfl
        · exact h4 M' h d hd
        · rw [hc] at hd
          cases hd
          exact Bool.eq_false_iff.mpr hlt
theorem plain_ws (ns : List Int) (h : ns.length < 16777216) : Plain (wsD ns) = true ∧ dep (wsD ns) ≤ 60 := by
  refine ⟨?_, by rw [dep_ints]; decide⟩
  show (Plains (ns.map D.int) && decide ((ns.map D.int).length < 16777216)) = true
  rw [plains_ints, decide_eq_true (by rw [List.length_map]; exact h)]
  rfl
theorem rep_ws (S : Sto) (x : Int) (n : Nat) (hn : n ≤ 1000) : gRep S (.lst [.int x]) (.int (n : Int)) = some (wsD (List.replicate n x)) := by
  show (if _ then some (D.lst (repD _ _)) else none) = _
  rw [if_pos ⟨by omega, by omega, by rw [sl_eq, Int.toNat_natCast]; simp; omega⟩]
  unfold repD
  rw [Int.toNat_natCast]
  simp
theorem sl_dropL (S : Sto) (xs : List D) (h : 1 ≤ xs.length) : gSl S (some 1) none (.lst xs) = some (.lst (xs.drop 1)) := by
  have := sl_drop S xs 1 (by decide) (by omega)
  have e : gSl S (some 1) none (.tup xs) = some (.tup (cutD xs (some 1) none)) := rfl
  rw [e] at this
  show some (D.lst (cutD xs (some 1) none)) = _
  injection this with h
  injection h with h
  rw [h]
  rfl
theorem wp_loopI {gt : DG} {f : DS} {ρ : DL.Env} {S : Sto} {Q : Fl → Sto → Prop} (ds : List D) (I : Nat → DL.Env → Sto → Prop) (step : ∀ k (h : k < ds.length) ρ S, I k ρ S → ∃ ρ1, gt ds[k] ρ = some ρ1 ∧ Wp (f ρ1 S) (turnQ Q (I (k + 1)))) (fin : ∀ ρ S, I ds.length ρ S → Q (.nx ρ) S) (h0 : I 0 ρ S) : Wp (sLoop gt f ds ρ S) Q := by
  have := wp_loopN (gt := gt) (f := f) (ρ := ρ) (S := S) (Q := Q) ds id I step fin h0
  rw [List.map_id] at this
  exact this
def isL (d : D) : Prop := ∃ ns : List Int, d = .lst (ns.map D.int) ∧ ns.length ≤ 1000
theorem once_ok {S : Sto} (h : St [] S) : ∃ d S', St [] S' ∧ d = .bl true ∧ F__law_asked_once [.ptr 0] S = .ok d S' := by
  refine fin_wpS h ?_
  unfold G__law_asked_once
  with_reducible refine c_set ?_
  intro g1 eg
  simp -implicitDefEqProofs
  refine sat_draw h _ (by omega) (by omega) fun m S1 hS1 m0 m1 => ?_
  have hr := rng1_int (1 + m) (by omega) (by omega)
  simp -implicitDefEqProofs [hr]
  refine ⟨by omega, ?_⟩
  refine sat_compJ (St []) (fun y => ∃ v : Int, y = .int v ∧ 1 ≤ v ∧ v ≤ 200) ?_ hS1 ?_
  · intro d _ S2 hS2
    refine ⟨_, rfl, ?_⟩
    simp -implicitDefEqProofs
    refine sat_draw hS2 _ (by omega) (by omega) fun a S3 hS3 a0 a1 => ?_
    obtain ⟨q, hq, q1, q2⟩ : ∃ q : Int, atI [D.int 3, D.int 9, D.int 200] a = some (.int q) ∧ 3 ≤ q ∧ q ≤ 200 := by
      obtain rfl | rfl | rfl : a = 0 ∨ a = 1 ∨ a = 2 := by omega
      · exact ⟨3, rfl, by decide, by decide⟩
      · exact ⟨9, rfl, by decide, by decide⟩
      · exact ⟨200, rfl, by decide, by decide⟩
    simp -implicitDefEqProofs [hq]
    refine sat_draw hS3 _ (by omega) (by omega) fun b S4 hS4 b0 b1 => ?_
    simp -implicitDefEqProofs [hS4]
    omega
  intro ys S2 hS2 hl hy
  rw [rangeD_length] at hl
  have hl1 : 1 ≤ ys.length ∧ ys.length ≤ 9 := by omega
  have rest : ∀ (ws : List Int) (S : Sto), St [] S → 1 ≤ ws.length ∧ ws.length ≤ 9 → (∀ x ∈ ws, 1 ≤ x ∧ x ≤ 200) → Wp (g1 [some (.ptr 0), some (wsD ws), none, none, none, none, none, none] S) fun f S' => St [] S' ∧ f = .rt (.bl true) := by
    subst eg
    clear hl1 hy hl ys hS2 S2 hr m0 m1 hS1 S1 h
    intro ws0 S hS hl0 hw0
    refine c_if fun a1 b1 g1 ea eb eg => ?_
    simp -implicitDefEqProofs
    refine sat_draw hS _ (by omega) (by omega) fun z S1 hS1 z0 z1 => ?_
    have rest2 : ∀ (ws : List Int), 1 ≤ ws.length ∧ ws.length ≤ 9 → (∀ x ∈ ws, 1 ≤ x ∧ x ≤ 200) → Wp (g1 [some (.ptr 0), some (wsD ws), none, none, none, none, none, none] S1) fun f S' => St [] S' ∧ f = .rt (.bl true) := by
      clear ea eb a1 b1
      intro ws hl hw
      subst eg
      have hp : ∀ x ∈ ws, 1 ≤ x := fun x hx => (hw x hx).1
      cases ws with
      | nil => simp at hl
      | cons w1 wr =>
      have emax : cMaxL S1 [wsD (w1 :: wr)] = some (.int (wr.foldl max w1)) := by
        show (match intsD ((w1 :: wr).map D.int) with
          | some (n :: ns) => some (D.int (ns.foldl max n))
          | _ => none) = _
        rw [intsD_map]
      have hmx := foldl_max_ge wr w1
      generalize wr.foldl max w1 = mx at *
      have hmx2 : 1 ≤ mx ∧ mx ≤ 200 ∧ ∀ x ∈ w1 :: wr, x ≤ mx := by
        have a1 := hw w1 List.mem_cons_self
        refine ⟨by omega, ?_, fun x hx => ?_⟩
        · rcases hmx.2.2 with e | e
          · omega
          · exact (hw mx (List.mem_cons_of_mem _ e)).2
        · rcases List.mem_cons.mp hx with rfl | hx
          · exact hmx.1
          · exact hmx.2.1 x hx
      generalize w1 :: wr = ws at *
      clear hmx
      with_reducible refine c_set ?_
      intro g1 eg
      simp -implicitDefEqProofs [emax]
      refine sat_draw hS1 _ (by omega) (by omega) fun a S2 hS2 a0 a1 => ?_
      obtain ⟨q, hq, q1, q2⟩ : ∃ q : Int, atI [D.int 5, D.int 30] a = some (.int q) ∧ 5 ≤ q ∧ q ≤ 30 := by
        obtain rfl | rfl : a = 0 ∨ a = 1 := by omega
        · exact ⟨5, rfl, by decide, by decide⟩
        · exact ⟨30, rfl, by decide, by decide⟩
      simp -implicitDefEqProofs [hq]
      refine sat_draw hS2 _ (by omega) (by omega) fun b S3 hS3 b0 b1 => ?_
      simp -implicitDefEqProofs
      obtain ⟨w, hwd⟩ : ∃ w, w = mx + b := ⟨_, rfl⟩
      rw [← hwd]
      have hW : w < 10000 ∧ 0 ≤ w := by omega
      have hle : ∀ x ∈ ws, x ≤ w := fun x hx => by have := hmx2.2.2 x hx; omega
      subst eg
      have hn : ws.length ≤ 100 := by omega
      with_reducible refine c_set ?_
      intro g1 eg
      simp -implicitDefEqProofs
      subst eg
      with_reducible refine w_cut ?_
      intro g1 eg
      with_reducible refine w_for ?_
      have ed := v_divs 60 ws.length S3 (by omega) (by omega)
      have hdl : (divs 60 ws.length).length ≤ 1024 := by
        have := divs_len 60 ws.length
        have h2 : 2 ^ ws.length ≤ 2 ^ 9 := Nat.pow_le_pow_right (by decide) (by omega)
        omega
      simp -implicitDefEqProofs [nox_ok ed]
      have hfit : ∀ L, L ∈ divs 60 ws.length ↔ Fits ws.length L := fun L => mem_divs 60 ws.length L (by omega)
      refine wp_loopN (divs 60 ws.length) dl (fun k ρ S' => S' = S3 ∧ ∃ b y4 y6, Seen ws w ((divs 60 ws.length).take k) b ∧ ρ = [some (.ptr 0), some (wsD ws), some (.int w), some b, y4, none, y6, none]) ?_ ?_ ⟨rfl, .non, none, none, .inl ⟨rfl, by simp⟩, rfl⟩
      · rintro k hk ρ S' ⟨rfl, b, y4, y6, hb, rfl⟩
        refine ⟨_, rfl, ?_⟩
        simp -implicitDefEqProofs only [List.set_cons_succ, List.set_cons_zero]
        exact bB_ok hn hp hW hk ((hfit _).mp (List.getElem_mem hk)) hb _ _ _ _ fun b' y6 hb' => ⟨rfl, b', _, y6, hb', rfl⟩
      · rintro ρ S' ⟨rfl, b, y4, y6, hb, rfl⟩
        rw [List.take_length] at hb
        subst eg
        obtain ⟨T, N, hB, ebl⟩ := v_best_lines (st_cls hS3 rfl) hn hp hle hW
        have hlin := lin_ok hB ws.length 0 (by omega) (by omega)
        rw [Nat.sub_zero, List.drop_zero] at hlin
        have key : ∃ c, b = .tup [.int c, dl (lin ws N ws.length 0)] := by
          rcases hb with ⟨_, h2⟩ | ⟨c, L, h1, h2, h3, h4⟩
          · have := h2 _ ((hfit _).mpr hlin.1)
            rw [hlin.2] at this
            cases this
          · have a1 := h4 _ ((hfit _).mpr hlin.1) _ hlin.2
            have a2 := lin_min hB L ws.length 0 c (by omega) (by omega) (by rw [Nat.sub_zero]; exact (hfit _).mp h2) (by rw [List.drop_zero]; exact h3)
            unfold lt2 at a1
            by_cases hc : Tz ws T 0 = c
            · rw [if_pos hc] at a1
              have := lex_total _ _ a1 (a2.2 hc)
              rw [this]
              exact ⟨c, h1⟩
            · rw [if_neg hc] at a1
              have := of_decide_eq_false a1
              omega
        obtain ⟨c, rfl⟩ := key
        generalize lin ws N ws.length 0 = L at *
        have hL := hlin.1
        have hLl := len_sum L hL.1
        rw [hL.2] at hLl
        have hLp : 1 ≤ L.length := by
          cases L with
          | nil => have := hL.2; simp at this; omega
          | cons x L => simp
        clear hlin hb hB
        simp -implicitDefEqProofs only [seqQ_nx]
        with_reducible refine c_set ?_
        intro g1 eg
        have ecl : cList S' [wsD ws] = some (wsD ws) := rfl
        simp -implicitDefEqProofs [ecl]
        subst eg
        have pl := plain_ws (L.map fun n : Nat => (n : Int)) (by simp; omega)
        have esame := same_refl 60 (dl L) S' pl.1 (by have : dep (dl L) = 1 := dep_ints _; omega)
        have pw := plain_ws ws (by omega)
        have ene := gNe_self S' pw.1 (by omega)
        with_reducible refine c_skip ?_
        intro g1 eg
        simp -implicitDefEqProofs [nox_ok ebl, nox_ok esame, ene]
        subst eg
        with_reducible refine w_cut ?_
        intro g1 eg
        with_reducible refine w_for ?_
        have hdp : 0 < ((divs 60 ws.length).map dl).length := by
          rw [List.length_map]
          exact List.length_pos_iff.mpr fun z => by
            have := (hfit L).mpr hL
            rw [z] at this
            cases this
        have hpk := pick_st hS3 hdp (by rw [List.length_map]; omega)
        refine hpk.elim fun kk hpk => hpk.elim fun S4 hpk => hpk.elim fun hkk hpk => ?_
        have hS4 := hpk.1
        have epk := hpk.2
        clear hpk
        have hpi : isL ((divs 60 ws.length).map dl)[kk] := by
          rw [List.length_map] at hkk
          rw [List.getElem_map]
          have hf := (hfit _).mp (List.getElem_mem hkk)
          have h2 := len_sum _ hf.1
          rw [hf.2] at h2
          exact ⟨_, rfl, by rw [List.length_map]; omega⟩
        generalize ((divs 60 ws.length).map dl)[kk] = pk at *
        have f1 := rep_ws S' 1 ws.length (by omega)
        have f2 := rep_ws S' 1 (ws.length + 1) (by omega)
        have e3 : ((ws.length : Int) + 1) = ((ws.length + 1 : Nat) : Int) := by omega
        have hll : (lsD L).length = L.length := by unfold lsD; simp
        have f3 : gAdd S' (.lst [.int 0]) (.lst (lsD L)) = some (.lst (.int 0 :: lsD L)) := by
          show (if _ then some (D.lst _) else none) = _
          rw [if_pos (by rw [sl_eq, hll]; simp; omega)]
          rfl
        have f4 : gAdd S' (.lst (lsD L)) (.lst [.int (-1), .int 1]) = some (.lst (lsD L ++ [.int (-1), .int 1])) := by
          show (if _ then some (D.lst _) else none) = _
          rw [if_pos (by rw [sl_eq, hll]; simp; omega)]
        have f5 := sl_dropL S' (lsD L) (by omega)
        obtain ⟨R1, hR1⟩ : ∃ R1, R1 = wsD (List.replicate ws.length 1) := ⟨_, rfl⟩
        obtain ⟨R2, hR2⟩ : ∃ R2, R2 = wsD (List.replicate (ws.length + 1) 1) := ⟨_, rfl⟩
        rw [← hR1] at f1
        rw [← hR2, ← e3] at f2
        simp -implicitDefEqProofs [f1, f2, f3, f4, f5, nox_ok ed, nox_ok epk]
        have hit : ∀ d ∈ [dl L, .lst [], .lst [.int (ws.length : Int)], R1, R2, .lst (.int 0 :: lsD L), .lst (lsD L ++ [.int (-1), .int 1]), .lst (lsD L).tail, pk], isL d := by
          intro d hd
          simp only [List.mem_cons, List.not_mem_nil, or_false] at hd
          rcases hd with rfl | rfl | rfl | rfl | rfl | rfl | rfl | rfl | rfl
          · exact ⟨_, rfl, by rw [List.length_map]; omega⟩
          · exact ⟨[], rfl, by simp⟩
          · exact ⟨[(ws.length : Int)], rfl, by simp⟩
          · exact ⟨_, hR1, by simp; omega⟩
          · exact ⟨_, hR2, by simp; omega⟩
          · exact ⟨0 :: L.map fun n : Nat => (n : Int), rfl, by simp; omega⟩
          · exact ⟨(L.map fun n : Nat => (n : Int)) ++ [-1, 1], by unfold lsD; simp, by simp; omega⟩
          · exact ⟨(L.map fun n : Nat => (n : Int)).tail, by unfold lsD; rw [List.map_tail], by simp; omega⟩
          · exact hpi
        generalize [dl L, .lst [], .lst [.int (ws.length : Int)], R1, R2, .lst (.int 0 :: lsD L), .lst (lsD L ++ [.int (-1), .int 1]), .lst (lsD L).tail, pk] = items at hit ⊢
        refine wp_loopI items (fun _ ρ S' => S' = S4 ∧ ∃ y4, ρ = [some (.ptr 0), some (wsD ws), some (.int w), some (.tup [.int c, dl L]), y4, some (wsD ws), y6, none]) ?_ ?_ ⟨rfl, _, rfl⟩
        · rintro k hk ρ S5 ⟨rfl, y4, rfl⟩
          refine ⟨_, rfl, ?_⟩
          simp -implicitDefEqProofs only [List.set_cons_succ, List.set_cons_zero]
          have hi := hit _ (List.getElem_mem hk)
          generalize items[k] = d at *
          refine hi.elim fun ns hi => ?_
          have hd := hi.1
          subst hd
          refine (badness_any (S := S5) hn hp hW ns hi.2).elim fun r hr => ?_
          have hr1 := hr.1
          have hr2 := hr.2.1
          have hr3 := hr.2.2
          have ecl2 : cList S5 [.lst (ns.map D.int)] = some (.lst (ns.map D.int)) := rfl
          have esm : F__law_same 60 [r, r] S5 = .ok (.bl true) S5 := by
            rcases hr1 with ⟨c, rfl⟩ | rfl
            · exact same_refl 60 _ S5 rfl (by show 0 < 60; decide)
            · exact same_refl 60 _ S5 rfl (by show 0 < 60; decide)
          with_reducible refine e_skip ?_
          simp -implicitDefEqProofs [ecl2, nox_ok hr2, nox_ok hr3, nox_ok esm]
        · rintro ρ S5 ⟨rfl, y4, rfl⟩
          subst eg
          simp -implicitDefEqProofs only [seqQ_nx]
          with_reducible refine l_ret ?_
          simp -implicitDefEqProofs [hS4]
    have hws0 : wsD ws0 = .lst (ws0.map D.int) := rfl
    by_cases hz : z = 0
    · subst hz
      cases ws0 with
      | nil => simp at hl0
      | cons w1 wr =>
        have er := rep_ws S1 w1 (wr.length + 1) (by simp at hl0; omega)
        have r2 := rest2 (List.replicate (wr.length + 1) w1) (by simp at hl0 ⊢; omega) fun x hx => by
          rw [(List.mem_replicate.mp hx).2]; exact hw0 w1 List.mem_cons_self
        simp -implicitDefEqProofs [ea]
        have e3 : ((wr.length : Int) + 1) = ((wr.length + 1 : Nat) : Int) := by omega
        rw [e3, er]
        exact r2
    · simp -implicitDefEqProofs [hz, eb]
      exact rest2 ws0 hl0 hw0
  obtain ⟨ws, rfl, hw⟩ := ints_of (fun v => 1 ≤ v ∧ v ≤ 200) ys hy
  rw [List.length_map] at hl1
  exact rest ws S2 hS2 hl1 hw
theorem law_ok (ns : List Int) (h : ns.length ≤ 63) : ∃ S, F_law [scriptD ns] [] = .ok (.bl true) S := by
  refine law_wp (fun ds0 p0 e0 => ?_) h
  unfold G_law
  refine w_pool p0 e0 fun S0 hS0 => ?_
  have hr : rng1 [.int 4] = some (rangeD 0 4) := rng1_int 4 (by decide) (by decide)
  with_reducible refine l_ret ?_
  simp -implicitDefEqProofs [hr]
  have hc := sat_compL (g := gtName 2) (t := dNot (dTrue (dCall 1 F__law_asked_once (aCons (dVar 1) aNil)))) (e := dVar 2) (ρ := [some (scriptD ns), some (.ptr 0), none]) (fun _ out S => St [] S ∧ out = []) (Q := fun out _ => out = []) (fun d r out S hI => by
    refine ⟨_, rfl, ?_⟩
    have ho := once_ok hI.1
    refine ho.elim fun b ho => ho.elim fun S' ho => ?_
    have h1 := ho.1
    have h2 := ho.2.1
    have h3 := ho.2.2
    subst h2
    simp -implicitDefEqProofs [nox_ok h3]
    exact ⟨h1, hI.2⟩) (fun out S hI => hI.2) (rangeD 0 4) [] S0 ⟨hS0, rfl⟩
  exact hc
end k57
set_option Elab.async false
set_option linter.all false
set_option maxRecDepth 100000
set_option maxHeartbeats 4000000
namespace k57
open PySem PySem.Spec PyProof.Rows L2 DL DL.Pre
/-! ### what the top has written -/
def mkT {w : World} {K : PySem.W.Frag} {h : Heap} {mg : Str → Option Value} (X : K.In h) (G : h.Ns mainGlobals mg)
    {f_line_width : Addr} {od_line_width an_line_width : Option Addr} {sl_line_width : Array (Option Value)} {oc_line_width kV_line_width dc_line_width pm_line_width cd_line_width ct_line_width : Value}
    {f__law_same : Addr} {od__law_same an__law_same : Option Addr} {sl__law_same : Array (Option Value)} {oc__law_same kV__law_same dc__law_same pm__law_same cd__law_same ct__law_same : Value}
    {f__law_pool : Addr} {od__law_pool an__law_pool : Option Addr} {sl__law_pool : Array (Option Value)} {oc__law_pool kV__law_pool dc__law_pool pm__law_pool cd__law_pool ct__law_pool : Value}
    {f__law_spread : Addr} {od__law_spread an__law_spread : Option Addr} {sl__law_spread : Array (Option Value)} {oc__law_spread kV__law_spread dc__law_spread pm__law_spread cd__law_spread ct__law_spread : Value}
    {f__law_badness : Addr} {od__law_badness an__law_badness : Option Addr} {sl__law_badness : Array (Option Value)} {oc__law_badness kV__law_badness dc__law_badness pm__law_badness cd__law_badness ct__law_badness : Value}
    {f__law_divisions : Addr} {od__law_divisions an__law_divisions : Option Addr} {sl__law_divisions : Array (Option Value)} {oc__law_divisions kV__law_divisions dc__law_divisions pm__law_divisions cd__law_divisions ct__law_divisions : Value}
    {f_badness : Addr} {od_badness an_badness : Option Addr} {sl_badness : Array (Option Value)} {oc_badness kV_badness dc_badness pm_badness cd_badness ct_badness : Value}
    {f_best_number : Addr} {od_best_number an_best_number : Option Addr} {sl_best_number : Array (Option Value)} {oc_best_number kV_best_number dc_best_number pm_best_number cd_best_number ct_best_number : Value}
    {f__law_draw : Addr} {od__law_draw an__law_draw : Option Addr} {sl__law_draw : Array (Option Value)} {oc__law_draw kV__law_draw dc__law_draw pm__law_draw cd__law_draw ct__law_draw : Value}
    {f_best_lines : Addr} {od_best_lines an_best_lines : Option Addr} {sl_best_lines : Array (Option Value)} {oc_best_lines kV_best_lines dc_best_lines pm_best_lines cd_best_lines ct_best_lines : Value}
    {f__law_pick : Addr} {od__law_pick an__law_pick : Option Addr} {sl__law_pick : Array (Option Value)} {oc__law_pick kV__law_pick dc__law_pick pm__law_pick cd__law_pick ct__law_pick : Value}
    {f__law_asked_once : Addr} {od__law_asked_once an__law_asked_once : Option Addr} {sl__law_asked_once : Array (Option Value)} {oc__law_asked_once kV__law_asked_once dc__law_asked_once pm__law_asked_once cd__law_asked_once ct__law_asked_once : Value}
    {f_law : Addr} {od_law an_law : Option Addr} {sl_law : Array (Option Value)} {oc_law kV_law dc_law pm_law cd_law ct_law : Value}
    (z_any : PySem.W.nsIn K mainGlobals "any" = some none)
    (z_bool : PySem.W.nsIn K mainGlobals "bool" = some none)
    (z_int : PySem.W.nsIn K mainGlobals "int" = some none)
    (z_isinstance : PySem.W.nsIn K mainGlobals "isinstance" = some none)
    (z_len : PySem.W.nsIn K mainGlobals "len" = some none)
    (z_list : PySem.W.nsIn K mainGlobals "list" = some none)
    (z_max : PySem.W.nsIn K mainGlobals "max" = some none)
    (z_range : PySem.W.nsIn K mainGlobals "range" = some none)
    (z_str : PySem.W.nsIn K mainGlobals "str" = some none)
    (z_sum : PySem.W.nsIn K mainGlobals "sum" = some none)
    (z_tuple : PySem.W.nsIn K mainGlobals "tuple" = some none)
    (a_line_width : PySem.W.nsIn K mainGlobals "line_width" = some (some (.ref f_line_width)))
    (l_line_width : K.lookup f_line_width = some ⟨oc_line_width, od_line_width, .func (PySem.W.fnOf "line_width" "line_width" (defArgs s_line_width) (defBody s_line_width) (defScope s_line_width) .none kV_line_width dc_line_width pm_line_width an_line_width cd_line_width ct_line_width), sl_line_width⟩)
    (c_line_width : PySem.W.codeIn K cd_line_width "line_width" = true)
    (k_line_width : PySem.W.keepIn K (.ref f_line_width) = true)
    (a__law_same : PySem.W.nsIn K mainGlobals "_law_same" = some (some (.ref f__law_same)))
    (l__law_same : K.lookup f__law_same = some ⟨oc__law_same, od__law_same, .func (PySem.W.fnOf "_law_same" "_law_same" (defArgs s__law_same) (defBody s__law_same) (defScope s__law_same) .none kV__law_same dc__law_same pm__law_same an__law_same cd__law_same ct__law_same), sl__law_same⟩)
    (c__law_same : PySem.W.codeIn K cd__law_same "_law_same" = true)
    (k__law_same : PySem.W.keepIn K (.ref f__law_same) = true)
    (a__law_pool : PySem.W.nsIn K mainGlobals "_law_pool" = some (some (.ref f__law_pool)))
    (l__law_pool : K.lookup f__law_pool = some ⟨oc__law_pool, od__law_pool, .func (PySem.W.fnOf "_law_pool" "_law_pool" (defArgs s__law_pool) (defBody s__law_pool) (defScope s__law_pool) .none kV__law_pool dc__law_pool pm__law_pool an__law_pool cd__law_pool ct__law_pool), sl__law_pool⟩)
    (c__law_pool : PySem.W.codeIn K cd__law_pool "_law_pool" = true)
    (k__law_pool : PySem.W.keepIn K (.ref f__law_pool) = true)
    (a__law_spread : PySem.W.nsIn K mainGlobals "_law_spread" = some (some (.ref f__law_spread)))
    (l__law_spread : K.lookup f__law_spread = some ⟨oc__law_spread, od__law_spread, .func (PySem.W.fnOf "_law_spread" "_law_spread" (defArgs s__law_spread) (defBody s__law_spread) (defScope s__law_spread) .none kV__law_spread dc__law_spread pm__law_spread an__law_spread cd__law_spread ct__law_spread), sl__law_spread⟩)
    (c__law_spread : PySem.W.codeIn K cd__law_spread "_law_spread" = true)
    (k__law_spread : PySem.W.keepIn K (.ref f__law_spread) = true)
    (a__law_badness : PySem.W.nsIn K mainGlobals "_law_badness" = some (some (.ref f__law_badness)))
    (l__law_badness : K.lookup f__law_badness = some ⟨oc__law_badness, od__law_badness, .func (PySem.W.fnOf "_law_badness" "_law_badness" (defArgs s__law_badness) (defBody s__law_badness) (defScope s__law_badness) .none kV__law_badness dc__law_badness pm__law_badness an__law_badness cd__law_badness ct__law_badness), sl__law_badness⟩)
    (c__law_badness : PySem.W.codeIn K cd__law_badness "_law_badness" = true)
    (k__law_badness : PySem.W.keepIn K (.ref f__law_badness) = true)
    (a__law_divisions : PySem.W.nsIn K mainGlobals "_law_divisions" = some (some (.ref f__law_divisions)))
    (l__law_divisions : K.lookup f__law_divisions = some ⟨oc__law_divisions, od__law_divisions, .func (PySem.W.fnOf "_law_divisions" "_law_divisions" (defArgs s__law_divisions) (defBody s__law_divisions) (defScope s__law_divisions) .none kV__law_divisions dc__law_divisions pm__law_divisions an__law_divisions cd__law_divisions ct__law_divisions), sl__law_divisions⟩)
    (c__law_divisions : PySem.W.codeIn K cd__law_divisions "_law_divisions" = true)
    (k__law_divisions : PySem.W.keepIn K (.ref f__law_divisions) = true)
    (a_badness : PySem.W.nsIn K mainGlobals "badness" = some (some (.ref f_badness)))
    (l_badness : K.lookup f_badness = some ⟨oc_badness, od_badness, .func (PySem.W.fnOf "badness" "badness" (defArgs s_badness) (defBody s_badness) (defScope s_badness) .none kV_badness dc_badness pm_badness an_badness cd_badness ct_badness), sl_badness⟩)
    (c_badness : PySem.W.codeIn K cd_badness "badness" = true)
    (k_badness : PySem.W.keepIn K (.ref f_badness) = true)
    (a_best_number : PySem.W.nsIn K mainGlobals "best_number" = some (some (.ref f_best_number)))
    (l_best_number : K.lookup f_best_number = some ⟨oc_best_number, od_best_number, .func (PySem.W.fnOf "best_number" "best_number" (defArgs s_best_number) (defBody s_best_number) (defScope s_best_number) .none kV_best_number dc_best_number pm_best_number an_best_number cd_best_number ct_best_number), sl_best_number⟩)
    (c_best_number : PySem.W.codeIn K cd_best_number "best_number" = true)
    (k_best_number : PySem.W.keepIn K (.ref f_best_number) = true)
    (a__law_draw : PySem.W.nsIn K mainGlobals "_law_draw" = some (some (.ref f__law_draw)))
    (l__law_draw : K.lookup f__law_draw = some ⟨oc__law_draw, od__law_draw, .func (PySem.W.fnOf "_law_draw" "_law_draw" (defArgs s__law_draw) (defBody s__law_draw) (defScope s__law_draw) .none kV__law_draw dc__law_draw pm__law_draw an__law_draw cd__law_draw ct__law_draw), sl__law_draw⟩)
    (c__law_draw : PySem.W.codeIn K cd__law_draw "_law_draw" = true)
    (k__law_draw : PySem.W.keepIn K (.ref f__law_draw) = true)
    (a_best_lines : PySem.W.nsIn K mainGlobals "best_lines" = some (some (.ref f_best_lines)))
    (l_best_lines : K.lookup f_best_lines = some ⟨oc_best_lines, od_best_lines, .func (PySem.W.fnOf "best_lines" "best_lines" (defArgs s_best_lines) (defBody s_best_lines) (defScope s_best_lines) .none kV_best_lines dc_best_lines pm_best_lines an_best_lines cd_best_lines ct_best_lines), sl_best_lines⟩)
    (c_best_lines : PySem.W.codeIn K cd_best_lines "best_lines" = true)
    (k_best_lines : PySem.W.keepIn K (.ref f_best_lines) = true)
    (a__law_pick : PySem.W.nsIn K mainGlobals "_law_pick" = some (some (.ref f__law_pick)))
    (l__law_pick : K.lookup f__law_pick = some ⟨oc__law_pick, od__law_pick, .func (PySem.W.fnOf "_law_pick" "_law_pick" (defArgs s__law_pick) (defBody s__law_pick) (defScope s__law_pick) .none kV__law_pick dc__law_pick pm__law_pick an__law_pick cd__law_pick ct__law_pick), sl__law_pick⟩)
    (c__law_pick : PySem.W.codeIn K cd__law_pick "_law_pick" = true)
    (k__law_pick : PySem.W.keepIn K (.ref f__law_pick) = true)
    (a__law_asked_once : PySem.W.nsIn K mainGlobals "_law_asked_once" = some (some (.ref f__law_asked_once)))
    (l__law_asked_once : K.lookup f__law_asked_once = some ⟨oc__law_asked_once, od__law_asked_once, .func (PySem.W.fnOf "_law_asked_once" "_law_asked_once" (defArgs s__law_asked_once) (defBody s__law_asked_once) (defScope s__law_asked_once) .none kV__law_asked_once dc__law_asked_once pm__law_asked_once an__law_asked_once cd__law_asked_once ct__law_asked_once), sl__law_asked_once⟩)
    (c__law_asked_once : PySem.W.codeIn K cd__law_asked_once "_law_asked_once" = true)
    (k__law_asked_once : PySem.W.keepIn K (.ref f__law_asked_once) = true)
    (a_law : PySem.W.nsIn K mainGlobals "law" = some (some (.ref f_law)))
    (l_law : K.lookup f_law = some ⟨oc_law, od_law, .func (PySem.W.fnOf "law" "law" (defArgs s_law) (defBody s_law) (defScope s_law) .none kV_law dc_law pm_law an_law cd_law ct_law), sl_law⟩)
    (c_law : PySem.W.codeIn K cd_law "law" = true)
    (k_law : PySem.W.keepIn K (.ref f_law) = true)
    (C_badness : CodeT K (PySem.W.fnOf "badness" "badness" (defArgs s_badness) (defBody s_badness) (defScope s_badness) .none kV_badness dc_badness pm_badness an_badness cd_badness ct_badness)) : Tx K w mg := {
    m_any := PySem.W.mg_none_of X G z_any
    m_bool := PySem.W.mg_none_of X G z_bool
    m_int := PySem.W.mg_none_of X G z_int
    m_isinstance := PySem.W.mg_none_of X G z_isinstance
    m_len := PySem.W.mg_none_of X G z_len
    m_list := PySem.W.mg_none_of X G z_list
    m_max := PySem.W.mg_none_of X G z_max
    m_range := PySem.W.mg_none_of X G z_range
    m_str := PySem.W.mg_none_of X G z_str
    m_sum := PySem.W.mg_none_of X G z_sum
    m_tuple := PySem.W.mg_none_of X G z_tuple
    f_line_width := f_line_width
    d_line_width := (PySem.W.fnOf "line_width" "line_width" (defArgs s_line_width) (defBody s_line_width) (defScope s_line_width) .none kV_line_width dc_line_width pm_line_width an_line_width cd_line_width ct_line_width)
    F_line_width := fun_mk (st := s_line_width) l_line_width c_line_width k_line_width
    b_line_width := (fun_mk (st := s_line_width) l_line_width c_line_width k_line_width).binds (ps := ["widths"]) fun _ _ _ _ _ _ us hl => match us, hl with | [_], _ => rfl
    g_line_width := PySem.W.mg_of X G a_line_width
    f__law_same := f__law_same
    d__law_same := (PySem.W.fnOf "_law_same" "_law_same" (defArgs s__law_same) (defBody s__law_same) (defScope s__law_same) .none kV__law_same dc__law_same pm__law_same an__law_same cd__law_same ct__law_same)
    F__law_same := fun_mk (st := s__law_same) l__law_same c__law_same k__law_same
    b__law_same := (fun_mk (st := s__law_same) l__law_same c__law_same k__law_same).binds (ps := ["actual", "due"]) fun _ _ _ _ _ _ us hl => match us, hl with | [_, _], _ => rfl
    g__law_same := PySem.W.mg_of X G a__law_same
    f__law_pool := f__law_pool
    d__law_pool := (PySem.W.fnOf "_law_pool" "_law_pool" (defArgs s__law_pool) (defBody s__law_pool) (defScope s__law_pool) .none kV__law_pool dc__law_pool pm__law_pool an__law_pool cd__law_pool ct__law_pool)
    F__law_pool := fun_mk (st := s__law_pool) l__law_pool c__law_pool k__law_pool
    b__law_pool := (fun_mk (st := s__law_pool) l__law_pool c__law_pool k__law_pool).binds (ps := ["script"]) fun _ _ _ _ _ _ us hl => match us, hl with | [_], _ => rfl
    g__law_pool := PySem.W.mg_of X G a__law_pool
    f__law_spread := f__law_spread
    d__law_spread := (PySem.W.fnOf "_law_spread" "_law_spread" (defArgs s__law_spread) (defBody s__law_spread) (defScope s__law_spread) .none kV__law_spread dc__law_spread pm__law_spread an__law_spread cd__law_spread ct__law_spread)
    F__law_spread := fun_mk (st := s__law_spread) l__law_spread c__law_spread k__law_spread
    b__law_spread := (fun_mk (st := s__law_spread) l__law_spread c__law_spread k__law_spread).binds (ps := ["cell"]) fun _ _ _ _ _ _ us hl => match us, hl with | [_], _ => rfl
    g__law_spread := PySem.W.mg_of X G a__law_spread
    f__law_badness := f__law_badness
    d__law_badness := (PySem.W.fnOf "_law_badness" "_law_badness" (defArgs s__law_badness) (defBody s__law_badness) (defScope s__law_badness) .none kV__law_badness dc__law_badness pm__law_badness an__law_badness cd__law_badness ct__law_badness)
    F__law_badness := fun_mk (st := s__law_badness) l__law_badness c__law_badness k__law_badness
    b__law_badness := (fun_mk (st := s__law_badness) l__law_badness c__law_badness k__law_badness).binds (ps := ["widths", "width", "lines"]) fun _ _ _ _ _ _ us hl => match us, hl with | [_, _, _], _ => rfl
    g__law_badness := PySem.W.mg_of X G a__law_badness
    f__law_divisions := f__law_divisions
    d__law_divisions := (PySem.W.fnOf "_law_divisions" "_law_divisions" (defArgs s__law_divisions) (defBody s__law_divisions) (defScope s__law_divisions) .none kV__law_divisions dc__law_divisions pm__law_divisions an__law_divisions cd__law_divisions ct__law_divisions)
    F__law_divisions := fun_mk (st := s__law_divisions) l__law_divisions c__law_divisions k__law_divisions
    b__law_divisions := (fun_mk (st := s__law_divisions) l__law_divisions c__law_divisions k__law_divisions).binds (ps := ["many"]) fun _ _ _ _ _ _ us hl => match us, hl with | [_], _ => rfl
    g__law_divisions := PySem.W.mg_of X G a__law_divisions
    f_badness := f_badness
    d_badness := (PySem.W.fnOf "badness" "badness" (defArgs s_badness) (defBody s_badness) (defScope s_badness) .none kV_badness dc_badness pm_badness an_badness cd_badness ct_badness)
    F_badness := fun_mk (st := s_badness) l_badness c_badness k_badness
    b_badness := (fun_mk (st := s_badness) l_badness c_badness k_badness).binds (ps := ["widths", "width", "lines"]) fun _ _ _ _ _ _ us hl => match us, hl with | [_, _, _], _ => rfl
    g_badness := PySem.W.mg_of X G a_badness
    C_badness := C_badness
    f_best_number := f_best_number
    d_best_number := (PySem.W.fnOf "best_number" "best_number" (defArgs s_best_number) (defBody s_best_number) (defScope s_best_number) .none kV_best_number dc_best_number pm_best_number an_best_number cd_best_number ct_best_number)
    F_best_number := fun_mk (st := s_best_number) l_best_number c_best_number k_best_number
    b_best_number := (fun_mk (st := s_best_number) l_best_number c_best_number k_best_number).binds (ps := ["widths", "width", "rest", "start"]) fun _ _ _ _ _ _ us hl => match us, hl with | [_, _, _, _], _ => rfl
    g_best_number := PySem.W.mg_of X G a_best_number
    f__law_draw := f__law_draw
    d__law_draw := (PySem.W.fnOf "_law_draw" "_law_draw" (defArgs s__law_draw) (defBody s__law_draw) (defScope s__law_draw) .none kV__law_draw dc__law_draw pm__law_draw an__law_draw cd__law_draw ct__law_draw)
    F__law_draw := fun_mk (st := s__law_draw) l__law_draw c__law_draw k__law_draw
    b__law_draw := (fun_mk (st := s__law_draw) l__law_draw c__law_draw k__law_draw).binds (ps := ["pool", "many"]) fun _ _ _ _ _ _ us hl => match us, hl with | [_, _], _ => rfl
    g__law_draw := PySem.W.mg_of X G a__law_draw
    f_best_lines := f_best_lines
    d_best_lines := (PySem.W.fnOf "best_lines" "best_lines" (defArgs s_best_lines) (defBody s_best_lines) (defScope s_best_lines) .none kV_best_lines dc_best_lines pm_best_lines an_best_lines cd_best_lines ct_best_lines)
    F_best_lines := fun_mk (st := s_best_lines) l_best_lines c_best_lines k_best_lines
    b_best_lines := (fun_mk (st := s_best_lines) l_best_lines c_best_lines k_best_lines).binds (ps := ["widths", "width"]) fun _ _ _ _ _ _ us hl => match us, hl with | [_, _], _ => rfl
    g_best_lines := PySem.W.mg_of X G a_best_lines
    f__law_pick := f__law_pick
    d__law_pick := (PySem.W.fnOf "_law_pick" "_law_pick" (defArgs s__law_pick) (defBody s__law_pick) (defScope s__law_pick) .none kV__law_pick dc__law_pick pm__law_pick an__law_pick cd__law_pick ct__law_pick)
    F__law_pick := fun_mk (st := s__law_pick) l__law_pick c__law_pick k__law_pick
    b__law_pick := (fun_mk (st := s__law_pick) l__law_pick c__law_pick k__law_pick).binds (ps := ["pool", "items"]) fun _ _ _ _ _ _ us hl => match us, hl with | [_, _], _ => rfl
    g__law_pick := PySem.W.mg_of X G a__law_pick
    f__law_asked_once := f__law_asked_once
    d__law_asked_once := (PySem.W.fnOf "_law_asked_once" "_law_asked_once" (defArgs s__law_asked_once) (defBody s__law_asked_once) (defScope s__law_asked_once) .none kV__law_asked_once dc__law_asked_once pm__law_asked_once an__law_asked_once cd__law_asked_once ct__law_asked_once)
    F__law_asked_once := fun_mk (st := s__law_asked_once) l__law_asked_once c__law_asked_once k__law_asked_once
    b__law_asked_once := (fun_mk (st := s__law_asked_once) l__law_asked_once c__law_asked_once k__law_asked_once).binds (ps := ["pool"]) fun _ _ _ _ _ _ us hl => match us, hl with | [_], _ => rfl
    g__law_asked_once := PySem.W.mg_of X G a__law_asked_once
    f_law := f_law
    d_law := (PySem.W.fnOf "law" "law" (defArgs s_law) (defBody s_law) (defScope s_law) .none kV_law dc_law pm_law an_law cd_law ct_law)
    F_law := fun_mk (st := s_law) l_law c_law k_law
    b_law := (fun_mk (st := s_law) l_law c_law k_law).binds (ps := ["script"]) fun _ _ _ _ _ _ us hl => match us, hl with | [_], _ => rfl
    g_law := PySem.W.mg_of X G a_law
  }
theorem all_mk {l : PySem.W.OpenLaw} {q : Program} {w : World} {K : PySem.W.Frag} {h : Heap} {mg : Str → Option Value} {fa : Addr} (X : K.In h) (G : h.Ns mainGlobals mg) (tabs : ∀ x r, (recsOf q).find? (fun e => e.name == x) = some r → TabI h mg x) (hfa : mg "law" = some (.ref fa))
    {f_line_width : Addr} {od_line_width an_line_width : Option Addr} {sl_line_width : Array (Option Value)} {oc_line_width kV_line_width dc_line_width pm_line_width cd_line_width ct_line_width : Value}
    {f__law_same : Addr} {od__law_same an__law_same : Option Addr} {sl__law_same : Array (Option Value)} {oc__law_same kV__law_same dc__law_same pm__law_same cd__law_same ct__law_same : Value}
    {f__law_pool : Addr} {od__law_pool an__law_pool : Option Addr} {sl__law_pool : Array (Option Value)} {oc__law_pool kV__law_pool dc__law_pool pm__law_pool cd__law_pool ct__law_pool : Value}
    {f__law_spread : Addr} {od__law_spread an__law_spread : Option Addr} {sl__law_spread : Array (Option Value)} {oc__law_spread kV__law_spread dc__law_spread pm__law_spread cd__law_spread ct__law_spread : Value}
    {f__law_badness : Addr} {od__law_badness an__law_badness : Option Addr} {sl__law_badness : Array (Option Value)} {oc__law_badness kV__law_badness dc__law_badness pm__law_badness cd__law_badness ct__law_badness : Value}
    {f__law_divisions : Addr} {od__law_divisions an__law_divisions : Option Addr} {sl__law_divisions : Array (Option Value)} {oc__law_divisions kV__law_divisions dc__law_divisions pm__law_divisions cd__law_divisions ct__law_divisions : Value}
    {f_badness : Addr} {od_badness an_badness : Option Addr} {sl_badness : Array (Option Value)} {oc_badness kV_badness dc_badness pm_badness cd_badness ct_badness : Value}
    {f_best_number : Addr} {od_best_number an_best_number : Option Addr} {sl_best_number : Array (Option Value)} {oc_best_number kV_best_number dc_best_number pm_best_number cd_best_number ct_best_number : Value}
    {f__law_draw : Addr} {od__law_draw an__law_draw : Option Addr} {sl__law_draw : Array (Option Value)} {oc__law_draw kV__law_draw dc__law_draw pm__law_draw cd__law_draw ct__law_draw : Value}
    {f_best_lines : Addr} {od_best_lines an_best_lines : Option Addr} {sl_best_lines : Array (Option Value)} {oc_best_lines kV_best_lines dc_best_lines pm_best_lines cd_best_lines ct_best_lines : Value}
    {f__law_pick : Addr} {od__law_pick an__law_pick : Option Addr} {sl__law_pick : Array (Option Value)} {oc__law_pick kV__law_pick dc__law_pick pm__law_pick cd__law_pick ct__law_pick : Value}
    {f__law_asked_once : Addr} {od__law_asked_once an__law_asked_once : Option Addr} {sl__law_asked_once : Array (Option Value)} {oc__law_asked_once kV__law_asked_once dc__law_asked_once pm__law_asked_once cd__law_asked_once ct__law_asked_once : Value}
    {f_law : Addr} {od_law an_law : Option Addr} {sl_law : Array (Option Value)} {oc_law kV_law dc_law pm_law cd_law ct_law : Value}
    (z_any : PySem.W.nsIn K mainGlobals "any" = some none)
    (z_bool : PySem.W.nsIn K mainGlobals "bool" = some none)
    (z_int : PySem.W.nsIn K mainGlobals "int" = some none)
    (z_isinstance : PySem.W.nsIn K mainGlobals "isinstance" = some none)
    (z_len : PySem.W.nsIn K mainGlobals "len" = some none)
    (z_list : PySem.W.nsIn K mainGlobals "list" = some none)
    (z_max : PySem.W.nsIn K mainGlobals "max" = some none)
    (z_range : PySem.W.nsIn K mainGlobals "range" = some none)
    (z_str : PySem.W.nsIn K mainGlobals "str" = some none)
    (z_sum : PySem.W.nsIn K mainGlobals "sum" = some none)
    (z_tuple : PySem.W.nsIn K mainGlobals "tuple" = some none)
    (a_line_width : PySem.W.nsIn K mainGlobals "line_width" = some (some (.ref f_line_width)))
    (l_line_width : K.lookup f_line_width = some ⟨oc_line_width, od_line_width, .func (PySem.W.fnOf "line_width" "line_width" (defArgs s_line_width) (defBody s_line_width) (defScope s_line_width) .none kV_line_width dc_line_width pm_line_width an_line_width cd_line_width ct_line_width), sl_line_width⟩)
    (c_line_width : PySem.W.codeIn K cd_line_width "line_width" = true)
    (k_line_width : PySem.W.keepIn K (.ref f_line_width) = true)
    (a__law_same : PySem.W.nsIn K mainGlobals "_law_same" = some (some (.ref f__law_same)))
    (l__law_same : K.lookup f__law_same = some ⟨oc__law_same, od__law_same, .func (PySem.W.fnOf "_law_same" "_law_same" (defArgs s__law_same) (defBody s__law_same) (defScope s__law_same) .none kV__law_same dc__law_same pm__law_same an__law_same cd__law_same ct__law_same), sl__law_same⟩)
    (c__law_same : PySem.W.codeIn K cd__law_same "_law_same" = true)
    (k__law_same : PySem.W.keepIn K (.ref f__law_same) = true)
    (a__law_pool : PySem.W.nsIn K mainGlobals "_law_pool" = some (some (.ref f__law_pool)))
    (l__law_pool : K.lookup f__law_pool = some ⟨oc__law_pool, od__law_pool, .func (PySem.W.fnOf "_law_pool" "_law_pool" (defArgs s__law_pool) (defBody s__law_pool) (defScope s__law_pool) .none kV__law_pool dc__law_pool pm__law_pool an__law_pool cd__law_pool ct__law_pool), sl__law_pool⟩)
    (c__law_pool : PySem.W.codeIn K cd__law_pool "_law_pool" = true)
    (k__law_pool : PySem.W.keepIn K (.ref f__law_pool) = true)
    (a__law_spread : PySem.W.nsIn K mainGlobals "_law_spread" = some (some (.ref f__law_spread)))
    (l__law_spread : K.lookup f__law_spread = some ⟨oc__law_spread, od__law_spread, .func (PySem.W.fnOf "_law_spread" "_law_spread" (defArgs s__law_spread) (defBody s__law_spread) (defScope s__law_spread) .none kV__law_spread dc__law_spread pm__law_spread an__law_spread cd__law_spread ct__law_spread), sl__law_spread⟩)
    (c__law_spread : PySem.W.codeIn K cd__law_spread "_law_spread" = true)
    (k__law_spread : PySem.W.keepIn K (.ref f__law_spread) = true)
    (a__law_badness : PySem.W.nsIn K mainGlobals "_law_badness" = some (some (.ref f__law_badness)))
    (l__law_badness : K.lookup f__law_badness = some ⟨oc__law_badness, od__law_badness, .func (PySem.W.fnOf "_law_badness" "_law_badness" (defArgs s__law_badness) (defBody s__law_badness) (defScope s__law_badness) .none kV__law_badness dc__law_badness pm__law_badness an__law_badness cd__law_badness ct__law_badness), sl__law_badness⟩)
    (c__law_badness : PySem.W.codeIn K cd__law_badness "_law_badness" = true)
    (k__law_badness : PySem.W.keepIn K (.ref f__law_badness) = true)
    (a__law_divisions : PySem.W.nsIn K mainGlobals "_law_divisions" = some (some (.ref f__law_divisions)))
    (l__law_divisions : K.lookup f__law_divisions = some ⟨oc__law_divisions, od__law_divisions, .func (PySem.W.fnOf "_law_divisions" "_law_divisions" (defArgs s__law_divisions) (defBody s__law_divisions) (defScope s__law_divisions) .none kV__law_divisions dc__law_divisions pm__law_divisions an__law_divisions cd__law_divisions ct__law_divisions), sl__law_divisions⟩)
    (c__law_divisions : PySem.W.codeIn K cd__law_divisions "_law_divisions" = true)
    (k__law_divisions : PySem.W.keepIn K (.ref f__law_divisions) = true)
    (a_badness : PySem.W.nsIn K mainGlobals "badness" = some (some (.ref f_badness)))
    (l_badness : K.lookup f_badness = some ⟨oc_badness, od_badness, .func (PySem.W.fnOf "badness" "badness" (defArgs s_badness) (defBody s_badness) (defScope s_badness) .none kV_badness dc_badness pm_badness an_badness cd_badness ct_badness), sl_badness⟩)
    (c_badness : PySem.W.codeIn K cd_badness "badness" = true)
    (k_badness : PySem.W.keepIn K (.ref f_badness) = true)
    (a_best_number : PySem.W.nsIn K mainGlobals "best_number" = some (some (.ref f_best_number)))
    (l_best_number : K.lookup f_best_number = some ⟨oc_best_number, od_best_number, .func (PySem.W.fnOf "best_number" "best_number" (defArgs s_best_number) (defBody s_best_number) (defScope s_best_number) .none kV_best_number dc_best_number pm_best_number an_best_number cd_best_number ct_best_number), sl_best_number⟩)
    (c_best_number : PySem.W.codeIn K cd_best_number "best_number" = true)
    (k_best_number : PySem.W.keepIn K (.ref f_best_number) = true)
    (a__law_draw : PySem.W.nsIn K mainGlobals "_law_draw" = some (some (.ref f__law_draw)))
    (l__law_draw : K.lookup f__law_draw = some ⟨oc__law_draw, od__law_draw, .func (PySem.W.fnOf "_law_draw" "_law_draw" (defArgs s__law_draw) (defBody s__law_draw) (defScope s__law_draw) .none kV__law_draw dc__law_draw pm__law_draw an__law_draw cd__law_draw ct__law_draw), sl__law_draw⟩)
    (c__law_draw : PySem.W.codeIn K cd__law_draw "_law_draw" = true)
    (k__law_draw : PySem.W.keepIn K (.ref f__law_draw) = true)
    (a_best_lines : PySem.W.nsIn K mainGlobals "best_lines" = some (some (.ref f_best_lines)))
    (l_best_lines : K.lookup f_best_lines = some ⟨oc_best_lines, od_best_lines, .func (PySem.W.fnOf "best_lines" "best_lines" (defArgs s_best_lines) (defBody s_best_lines) (defScope s_best_lines) .none kV_best_lines dc_best_lines pm_best_lines an_best_lines cd_best_lines ct_best_lines), sl_best_lines⟩)
    (c_best_lines : PySem.W.codeIn K cd_best_lines "best_lines" = true)
    (k_best_lines : PySem.W.keepIn K (.ref f_best_lines) = true)
    (a__law_pick : PySem.W.nsIn K mainGlobals "_law_pick" = some (some (.ref f__law_pick)))
    (l__law_pick : K.lookup f__law_pick = some ⟨oc__law_pick, od__law_pick, .func (PySem.W.fnOf "_law_pick" "_law_pick" (defArgs s__law_pick) (defBody s__law_pick) (defScope s__law_pick) .none kV__law_pick dc__law_pick pm__law_pick an__law_pick cd__law_pick ct__law_pick), sl__law_pick⟩)
    (c__law_pick : PySem.W.codeIn K cd__law_pick "_law_pick" = true)
    (k__law_pick : PySem.W.keepIn K (.ref f__law_pick) = true)
    (a__law_asked_once : PySem.W.nsIn K mainGlobals "_law_asked_once" = some (some (.ref f__law_asked_once)))
    (l__law_asked_once : K.lookup f__law_asked_once = some ⟨oc__law_asked_once, od__law_asked_once, .func (PySem.W.fnOf "_law_asked_once" "_law_asked_once" (defArgs s__law_asked_once) (defBody s__law_asked_once) (defScope s__law_asked_once) .none kV__law_asked_once dc__law_asked_once pm__law_asked_once an__law_asked_once cd__law_asked_once ct__law_asked_once), sl__law_asked_once⟩)
    (c__law_asked_once : PySem.W.codeIn K cd__law_asked_once "_law_asked_once" = true)
    (k__law_asked_once : PySem.W.keepIn K (.ref f__law_asked_once) = true)
    (a_law : PySem.W.nsIn K mainGlobals "law" = some (some (.ref f_law)))
    (l_law : K.lookup f_law = some ⟨oc_law, od_law, .func (PySem.W.fnOf "law" "law" (defArgs s_law) (defBody s_law) (defScope s_law) .none kV_law dc_law pm_law an_law cd_law ct_law), sl_law⟩)
    (c_law : PySem.W.codeIn K cd_law "law" = true)
    (k_law : PySem.W.keepIn K (.ref f_law) = true)
    (r0 : rootsOf K = []) (nt : PySem.W.noTabs K = true) (rc_badness : ∃ r, (recsOf q).find? (fun e => e.name == ("badness" : Str)) = some r) :
    ∃ cs : List (Addr × Addr), (∀ p ∈ cs, PySem.W.codeHdIn K p.1 p.2 = true) ∧ (∀ p ∈ cs, K.lookup p.2 = none) ∧ (∀ p ∈ cs, h.get? p.2 = some { cls := .none, data := .fields #[] }) ∧ rootsOf K = [] ∧ LawT l.prog w (withRoots K cs) mg fa := by
  have e := hfa.symm.trans (PySem.W.mg_of X G a_law)
  cases e
  obtain ⟨rr_badness, re_badness⟩ := rc_badness
  obtain ⟨cc_badness, cT_badness, e1_badness, e2_badness, e3_badness, _, e4_badness⟩ := tab_get X G a_badness l_badness c_badness nt (tabs "badness" rr_badness re_badness)
  have hA : ∀ p ∈ ([(cc_badness, cT_badness)] : List (Addr × Addr)), PySem.W.codeHdIn K p.1 p.2 = true := (List.forall_mem_cons.mpr ⟨e2_badness, (List.forall_mem_nil _)⟩)
  have lk := lk_roots hA
  refine ⟨[(cc_badness, cT_badness)], hA, (List.forall_mem_cons.mpr ⟨e3_badness, (List.forall_mem_nil _)⟩), (List.forall_mem_cons.mpr ⟨e4_badness, (List.forall_mem_nil _)⟩), r0, ?_⟩
  exact law_run (P := l.prog) (mkT (w := w) (K := withRoots K [(cc_badness, cT_badness)]) (lk.In X) G (lk.nsIn z_any) (lk.nsIn z_bool) (lk.nsIn z_int) (lk.nsIn z_isinstance) (lk.nsIn z_len) (lk.nsIn z_list) (lk.nsIn z_max) (lk.nsIn z_range) (lk.nsIn z_str) (lk.nsIn z_sum) (lk.nsIn z_tuple) (lk.nsIn a_line_width) (lk.l l_line_width) (lk.codeIn c_line_width) (lk.keepIn k_line_width) (lk.nsIn a__law_same) (lk.l l__law_same) (lk.codeIn c__law_same) (lk.keepIn k__law_same) (lk.nsIn a__law_pool) (lk.l l__law_pool) (lk.codeIn c__law_pool) (lk.keepIn k__law_pool) (lk.nsIn a__law_spread) (lk.l l__law_spread) (lk.codeIn c__law_spread) (lk.keepIn k__law_spread) (lk.nsIn a__law_badness) (lk.l l__law_badness) (lk.codeIn c__law_badness) (lk.keepIn k__law_badness) (lk.nsIn a__law_divisions) (lk.l l__law_divisions) (lk.codeIn c__law_divisions) (lk.keepIn k__law_divisions) (lk.nsIn a_badness) (lk.l l_badness) (lk.codeIn c_badness) (lk.keepIn k_badness) (lk.nsIn a_best_number) (lk.l l_best_number) (lk.codeIn c_best_number) (lk.keepIn k_best_number) (lk.nsIn a__law_draw) (lk.l l__law_draw) (lk.codeIn c__law_draw) (lk.keepIn k__law_draw) (lk.nsIn a_best_lines) (lk.l l_best_lines) (lk.codeIn c_best_lines) (lk.keepIn k_best_lines) (lk.nsIn a__law_pick) (lk.l l__law_pick) (lk.codeIn c__law_pick) (lk.keepIn k__law_pick) (lk.nsIn a__law_asked_once) (lk.l l__law_asked_once) (lk.codeIn c__law_asked_once) (lk.keepIn k__law_asked_once) (lk.nsIn a_law) (lk.l l_law) (lk.codeIn c_law) (lk.keepIn k_law) ⟨cc_badness, cT_badness, e1_badness, by rw [rootsOf_with r0]; simp, lk.codeHdIn e2_badness⟩) (fun s v => .of_eq rfl) law_ok
end k57
open PySem PySem.W PyProof.Rows
set_option maxHeartbeats 0 in
theorem PySem.Challenge.cw_foldandbound_k57_whole_lines_of_words_holds : PySem.Challenge.rw_foldandbound_k57_whole_lines_of_words.Holds := by
  w_on; o_law; k_head; (case hw => w_witness2)
  k_fill
  refine DL.walk_T (l := PySem.Challenge.rw_foldandbound_k57_whole_lines_of_words) rfl rfl (fun w h Y => PySem.W.kIn_of Y) ?F
  case F =>
    intro w mg fa h KX G tabs hmg
    refine' k57.all_mk KX G tabs hmg ?z_any ?z_bool ?z_int ?z_isinstance ?z_len ?z_list ?z_max ?z_range ?z_str ?z_sum ?z_tuple ?a_line_width ?l_line_width ?c_line_width ?k_line_width ?a__law_same ?l__law_same ?c__law_same ?k__law_same ?a__law_pool ?l__law_pool ?c__law_pool ?k__law_pool ?a__law_spread ?l__law_spread ?c__law_spread ?k__law_spread ?a__law_badness ?l__law_badness ?c__law_badness ?k__law_badness ?a__law_divisions ?l__law_divisions ?c__law_divisions ?k__law_divisions ?a_badness ?l_badness ?c_badness ?k_badness ?a_best_number ?l_best_number ?c_best_number ?k_best_number ?a__law_draw ?l__law_draw ?c__law_draw ?k__law_draw ?a_best_lines ?l_best_lines ?c_best_lines ?k_best_lines ?a__law_pick ?l__law_pick ?c__law_pick ?k__law_pick ?a__law_asked_once ?l__law_asked_once ?c__law_asked_once ?k__law_asked_once ?a_law ?l_law ?c_law ?k_law ?r0 ?nt ?rc_badness
    (case z_any => k_is); (case z_bool => k_is); (case z_int => k_is); (case z_isinstance => k_is); (case z_len => k_is); (case z_list => k_is); (case z_max => k_is); (case z_range => k_is); (case z_str => k_is); (case z_sum => k_is); (case z_tuple => k_is); (case a_line_width => k_is); (case l_line_width => k_is); (case c_line_width => k_is); (case k_line_width => k_is); (case a__law_same => k_is); (case l__law_same => k_is); (case c__law_same => k_is); (case k__law_same => k_is); (case a__law_pool => k_is); (case l__law_pool => k_is); (case c__law_pool => k_is); (case k__law_pool => k_is); (case a__law_spread => k_is); (case l__law_spread => k_is); (case c__law_spread => k_is); (case k__law_spread => k_is); (case a__law_badness => k_is); (case l__law_badness => k_is); (case c__law_badness => k_is); (case k__law_badness => k_is); (case a__law_divisions => k_is); (case l__law_divisions => k_is); (case c__law_divisions => k_is); (case k__law_divisions => k_is); (case a_badness => k_is); (case l_badness => k_is); (case c_badness => k_is); (case k_badness => k_is); (case a_best_number => k_is); (case l_best_number => k_is); (case c_best_number => k_is); (case k_best_number => k_is); (case a__law_draw => k_is); (case l__law_draw => k_is); (case c__law_draw => k_is); (case k__law_draw => k_is); (case a_best_lines => k_is); (case l_best_lines => k_is); (case c_best_lines => k_is); (case k_best_lines => k_is); (case a__law_pick => k_is); (case l__law_pick => k_is); (case c__law_pick => k_is); (case k__law_pick => k_is); (case a__law_asked_once => k_is); (case l__law_asked_once => k_is); (case c__law_asked_once => k_is); (case k__law_asked_once => k_is); (case a_law => k_is); (case l_law => k_is); (case c_law => k_is); (case k_law => k_is); (case r0 => rfl); (case nt => rfl); (case rc_badness => exact ⟨_, rfl⟩)
